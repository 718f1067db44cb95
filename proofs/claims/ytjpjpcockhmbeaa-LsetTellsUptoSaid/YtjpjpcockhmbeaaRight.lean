/- Right sets: lset.Right. -/
import Derived.Test.YtjpjpcockhmbeaaLabel
import Derived.Test.YtjpjpcockhmbeaaWord
import Derived.BigQuiet
import Derived.Laws.Cover1
import Derived.Deep.QuietTactic
namespace Go.Proofs.Ytjpjpcockhmbeaa
open Go.ChangeShapes Go.WideShapes Go.ChangeAt Go.RowKit
set_option linter.unusedVariables false
set_option maxRecDepth 100000
theorem below_drewN3 {B : Nat} {a w : World} (h : Below B a w) (n : Nat) : Below B a (w.drewN n) := ⟨h.os, h.tape, h.output, h.size, h.block⟩
theorem u8_tri (a b : UInt8) : a < b ∨ a = b ∨ b < a := by
  rcases Nat.lt_trichotomy a.toNat b.toNat with h | h | h
  · exact .inl (UInt8.lt_iff_toNat_lt.2 h)
  · exact .inr (.inl (UInt8.toNat_inj.1 h))
  · exact .inr (.inr (UInt8.lt_iff_toNat_lt.2 h))
theorem u8_not {a b : UInt8} (h : a < b) : ¬ b < a := fun h2 => by
  have := UInt8.lt_iff_toNat_lt.1 h; have := UInt8.lt_iff_toNat_lt.1 h2; omega
theorem u8_ne {a b : UInt8} (h : a < b) : a ≠ b := fun e => by
  subst e; exact u8_not h h
theorem less_flip : ∀ x y : List UInt8, (Op.bytesLess x y || x == y) = !(Op.bytesLess y x)
  | [], [] => by simp [Op.bytesLess]
  | [], b :: y => by simp [Op.bytesLess]
  | a :: x, [] => by simp [Op.bytesLess]
  | a :: x, b :: y => by
    have ih := less_flip x y
    rcases u8_tri a b with h | h | h
    · have h2 := u8_not h; have h3 := u8_ne h
      simp [Op.bytesLess, h, h2, Ne.symm h3]
    · subst h
      have h2 : ¬ a < a := fun h => u8_not h h
      simp only [Op.bytesLess, h2, decide_false, Bool.false_or, beq_self_eq_true, Bool.true_and, List.cons_beq_cons]
      exact ih
    · have h2 := u8_not h; have h3 := u8_ne h
      simp [Op.bytesLess, h, h2, Ne.symm h3]
/-- May x be a label. -/
def lblOk (x : ByteArray × ByteArray) : Bool := wordF x.1 && decide (1 ≤ x.2.size) && decide (x.2.size ≤ 24)
def lblAt (l : List (ByteArray × ByteArray)) (k : Nat) : ByteArray × ByteArray := l.getD k (ByteArray.empty, ByteArray.empty)
theorem lblAt_get {l : List (ByteArray × ByteArray)} {k : Nat} (h : k < l.length) : lblAt l k = l[k] := by simp [lblAt, List.getD_eq_getElem?_getD, h]
/-- Does the k'th label's name come behind the one's ahead of it. -/
def riseAt (l : List (ByteArray × ByteArray)) : Nat → Bool
  | 0 => true
  | k + 1 => Op.bytesLess (lblAt l k).1.toList (lblAt l (k + 1)).1.toList
def rightK (l : List (ByteArray × ByteArray)) : Nat → Bool
  | 0 => true
  | k + 1 => rightK l k && (lblOk (lblAt l k) && riseAt l k)
theorem rightK_false {l : List (ByteArray × ByteArray)} {k : Nat} (h : (lblOk (lblAt l k) && riseAt l k) = false) : ∀ n, k < n → rightK l n = false
  | 0, hn => by omega
  | n + 1, hn => by
    unfold rightK
    by_cases e : k = n
    · subst e; rw [h, Bool.and_false]
    · rw [rightK_false h n (by omega), Bool.false_and]
/-- Is l a set. -/
def rightS (l : List (ByteArray × ByteArray)) : Bool := decide (l.length ≤ 6) && rightK l l.length
theorem rightS_long {l : List (ByteArray × ByteArray)} (h : ¬ l.length ≤ 6) : rightS l = false := by simp [rightS, h]
theorem rightS_row {l : List (ByteArray × ByteArray)} {k : Nat} (hk : k < l.length) (h : lblOk l[k] = false) : rightS l = false := by
  have : rightK l l.length = false := rightK_false (k := k) (by rw [lblAt_get hk, h, Bool.false_and]) _ hk
  simp [rightS, this]
theorem rightS_rise {l : List (ByteArray × ByteArray)} {k : Nat} (hk : k < l.length) (h : riseAt l k = false) : rightS l = false := by
  have : rightK l l.length = false := rightK_false (k := k) (by rw [h, Bool.and_false]) _ hk
  simp [rightS, this]
theorem rightS_yes {l : List (ByteArray × ByteArray)} (h : l.length ≤ 6) (h2 : rightK l l.length = true) : rightS l = true := by simp [rightS, h, h2]
theorem riseAt_get {l : List (ByteArray × ByteArray)} {q k : Nat} (hq : q + 1 = k) (hk : k < l.length) : riseAt l k = Op.bytesLess (l[q]'(by omega)).1.toList l[k].1.toList := by
  subst hq
  show Op.bytesLess _ _ = _
  rw [lblAt_get (by omega), lblAt_get hk]
set_option maxHeartbeats 2000000 in
theorem rightSet_any (A : Option Addr) (n c : Nat) (l : List (ByteArray × ByteArray)) (B : Nat) (w : World) (h : Sees w B 2 A n (lbls l)) (hB : B ≤ w.heap.size) (hn : n ≤ 9223372036854775807) :
    Calls Try.prog 6 #[.slice A n c] w fun e w' => e = .returned (.bool (rightS l)) ∧ Below w.heap.size w w' := by
  have H := Lib.hid h; clear h
  have HL := Lib.hid H.out.lbl_len
  by_cases h6 : n ≤ 6
  · have j6 : ¬ (6 : Int) < n := by omega
    have H6 := Lib.hid h6
    go_enter Try.func6, Try.ntmps6
    go_wp2_with fail
    go_loopg [10] n (fun g x10 wr => ∃ k : Nat, k + g = n ∧ x10 = .int .i64 k ∧ rightK l k = true ∧ Below w.heap.size w wr)
    case atStart => exact ⟨0, by omega, rfl, rfl, Below.refl _ _⟩
    case round =>
      obtain ⟨k, hkg, rfl, hrk, hbel⟩ := hrel
      have HRK := Lib.hid hrk; have HB := Lib.hid hbel
      have hsz := hbel.size
      clear hrk hbel
      cases gk with
      | zero =>
        obtain rfl : k = n := by omega
        have HR := Lib.hid (rightS_yes (l := l) (by rw [HL.out]; exact H6.out) (by rw [HL.out]; exact HRK.out))
        go_wp2_with fail
        go_ret
        exact ⟨ret_yes rfl HR.out, HB.out⟩
      | succ g =>
        have hlt : k < n := by omega
        obtain ⟨ad, hkl, rfl, c0, c1⟩ := (H.out.below (HB.out.mono hB)).lbl hlt
        have hal := World.block_lt_of_cell? wr _ c0
        have HROW : Hid (lblOk l[k] = false → rightS l = false) := Lib.hid (rightS_row hkl)
        have HRISE : Hid (riseAt l k = false → rightS l = false) := Lib.hid (rightS_rise hkl)
        have HNXT : Hid (lblOk l[k] = true → riseAt l k = true → rightK l (k + 1) = true) := Lib.hid fun h1 h2 => by unfold rightK; rw [HRK.out, lblAt_get hkl, h1, h2]; rfl
        have HQ : Hid (∀ q, q + 1 = k → ∃ a2 : ByteArray, wr.cell? (ad.add (q * 2)) = some (.string a2) ∧ (Op.bytesLess l[k].1.toList a2.toList || l[k].1.toList == a2.toList) = !riseAt l k) := Lib.hid fun q hq => by
          obtain ⟨ad2, hql, had, d0, d1⟩ := (H.out.below (HB.out.mono hB)).lbl (show q < n by omega)
          injection had with had; subst had
          exact ⟨_, d0, by rw [less_flip, riseAt_get hq hkl]⟩
        have HBA := Lib.hid (fun o : Obj => HB.out.alloc hsz o)
        clear HRK
        generalize l[k] = p at *
        obtain ⟨a, b⟩ := p
        simp only at c0 c1
        have HW := Lib.hid (fun W => word_any a W)
        have HOK : Hid (lblOk (a, b) = (wordF a && decide (1 ≤ b.size) && decide (b.size ≤ 24))) := Lib.hid rfl
        generalize wordF a = wa at *
        cases wa with
        | false =>
          have HR := Lib.hid (HROW.out (by rw [HOK.out]; rfl))
          clear HROW HRISE HNXT HQ HOK
          go_wp2_with fail
          refine (HW.out _).mono ?_; rintro e w' ⟨rfl, rfl⟩
          go_wp2_with fail
          go_ret
          exact ⟨ret_no rfl HR.out, HBA.out _⟩
        | true =>
          by_cases hb1 : 1 ≤ b.size
          · have y1 : ¬ (b.size : Int) < 1 := by omega
            by_cases hb2 : b.size ≤ 24
            · have y2 : ¬ (24 : Int) < b.size := by omega
              have HOK2 : Hid (lblOk (a, b) = true) := Lib.hid (by rw [HOK.out]; simp [hb1, hb2])
              clear HOK HROW hb1 hb2
              rcases Nat.eq_zero_or_pos k with hk0 | hk0
              · have z1 : ¬ (0 : Int) < k := by omega
                have z5 : ¬ 0 < k := by omega
                have z6 : decide (0 < k) = false := decide_eq_false z5
                have HN := Lib.hid (HNXT.out HOK2.out (by subst hk0; rfl))
                clear HRISE HNXT HQ hk0
                go_wp2_with fail
                refine (HW.out _).mono ?_; rintro e w' ⟨rfl, rfl⟩
                go_wp2_with fail
                go_quiet (fail)
                go_wp2_with fail
                go_roundg g
                case measure => omega
                case rel => exact ⟨k + 1, by omega, by first | rfl | go_num, HN.out, by first | exact HBA.out _ | exact (HBA.out _).drew | exact below_drewN3 (HBA.out _) _⟩
              · obtain ⟨q, hq⟩ : ∃ q, q + 1 = k := ⟨k - 1, by omega⟩
                obtain ⟨a2, d0, hrq⟩ := HQ.out q hq
                have hal2 := World.block_lt_of_cell? wr _ d0
                have z1 : (0 : Int) < k := by omega
                have z5 : 0 < k := by omega
                have z6 : decide (0 < k) = true := decide_eq_true z5
                have z2 : (k : Int) - 1 = q := by omega
                have z3 : (0 : Int) ≤ q := by omega
                have z4 : (q : Int) < n := by omega
                have z7 : IntKind.i64.wrap (q : Int) = q := by rw [IntKind.wrap_i64]; omega
                have z8 : q < n := by omega
                simp only at hrq
                obtain ⟨r, hr⟩ : ∃ r, riseAt l k = r := ⟨_, rfl⟩
                rw [hr] at hrq
                have HRA := Lib.hid hr
                clear hr hq HQ hk0
                cases r with
                | true =>
                  have HN := Lib.hid (HNXT.out HOK2.out HRA.out)
                  clear HNXT HRISE
                  simp only [Bool.not_true] at hrq
                  go_wp2_with fail
                  refine (HW.out _).mono ?_; rintro e w' ⟨rfl, rfl⟩
                  go_wp2_with fail
                  go_quiet (fail)
                  go_wp2_with fail
                  go_roundg g
                  case measure => omega
                  case rel => exact ⟨k + 1, by omega, by first | rfl | go_num, HN.out, by first | exact HBA.out _ | exact (HBA.out _).drew | exact below_drewN3 (HBA.out _) _⟩
                | false =>
                  have HR := Lib.hid (HRISE.out HRA.out)
                  clear HNXT HRISE
                  simp only [Bool.not_false] at hrq
                  go_wp2_with fail
                  refine (HW.out _).mono ?_; rintro e w' ⟨rfl, rfl⟩
                  go_wp2_with fail
                  go_quiet (fail)
                  go_wp2_with fail
                  go_ret
                  exact ⟨ret_no rfl HR.out, by first | exact HBA.out _ | exact (HBA.out _).drew | exact below_drewN3 (HBA.out _) _⟩
            · have y2 : (24 : Int) < b.size := by omega
              have HR := Lib.hid (HROW.out (by rw [HOK.out]; simp [hb2]))
              clear HROW HRISE HNXT HQ HOK hb1 hb2
              go_wp2_with fail
              refine (HW.out _).mono ?_; rintro e w' ⟨rfl, rfl⟩
              go_wp2_with fail
              go_ret
              exact ⟨ret_no rfl HR.out, HBA.out _⟩
          · have y1 : (b.size : Int) < 1 := by omega
            have HR := Lib.hid (HROW.out (by rw [HOK.out]; simp [hb1]))
            clear HROW HRISE HNXT HQ HOK hb1
            go_wp2_with fail
            refine (HW.out _).mono ?_; rintro e w' ⟨rfl, rfl⟩
            go_wp2_with fail
            go_ret
            exact ⟨ret_no rfl HR.out, HBA.out _⟩
  · have j6 : (6 : Int) < n := by omega
    have HR := Lib.hid (rightS_long (l := l) (by rw [HL.out]; exact h6))
    go_enter Try.func6, Try.ntmps6
    go_wp2_with fail
    go_ret
    exact ⟨ret_no rfl HR.out, Below.refl _ _⟩
end Go.Proofs.Ytjpjpcockhmbeaa
