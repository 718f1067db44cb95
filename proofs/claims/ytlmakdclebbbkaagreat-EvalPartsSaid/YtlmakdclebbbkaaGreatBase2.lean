/- Texts, merged in one. -/
import Derived.Test.YtlmakdclebbbkaaGreatBase
import Derived.BigQuiet
import Derived.Laws.Cover1
import Derived.Deep.QuietTactic
import Derived.WalkKit
import Derived.ShutString
import Derived.Test.YtlmakdclebbbkaaGreatRows
import Derived.Lib.Hide
import Derived.ProofKit
import Derived.Deep.Slices
import Derived.ChangeArms
namespace Go.Proofs.YtlmakdclebbbkaaGreat
open Go.ChangeShapes Go.WideShapes Go.ChangeAt Go.RowKit
set_option linter.unusedVariables false
set_option maxRecDepth 100000
def byteAt (s : ByteArray) (k : Nat) : Nat := if h : k < s.size then (s[k]).toNat else 0
theorem byteAt_get {s : ByteArray} {k : Nat} (h : k < s.size) : byteAt s k = (s[k]).toNat := dif_pos h
def allIn (s : ByteArray) : Nat → Bool
  | 0 => true
  | k + 1 => allIn s k && withinN (byteAt s k)
theorem allIn_false {s : ByteArray} {k : Nat} (h : withinN (byteAt s k) = false) : ∀ n, k < n → allIn s n = false
  | 0, hn => by omega
  | n + 1, hn => by
    unfold allIn
    by_cases e : k = n
    · subst e; rw [h, Bool.and_false]
    · rw [allIn_false h n (by omega), Bool.false_and]
def wordF (s : ByteArray) : Bool := decide (1 ≤ s.size) && decide (s.size ≤ 24) && smallN (byteAt s 0) && allIn s s.size
theorem wordF_short {s : ByteArray} (h : ¬ 1 ≤ s.size) : wordF s = false := by simp [wordF, h]
theorem wordF_long {s : ByteArray} (h : ¬ s.size ≤ 24) : wordF s = false := by simp [wordF, h]
theorem wordF_first {s : ByteArray} (h : smallN (byteAt s 0) = false) : wordF s = false := by simp [wordF, h]
theorem wordF_bad {s : ByteArray} {k : Nat} (hk : k < s.size) (h : withinN (byteAt s k) = false) : wordF s = false := by simp [wordF, allIn_false h s.size hk]
theorem wordF_yes {s : ByteArray} (h1 : 1 ≤ s.size) (h2 : s.size ≤ 24) (h3 : smallN (byteAt s 0) = true) (h4 : allIn s s.size = true) : wordF s = true := by simp [wordF, h1, h2, h3, h4]
set_option maxHeartbeats 1000000 in
theorem word_any (s : ByteArray) (w : World) : Calls Tryz.prog 60 #[.string s] w fun e w' => e = .returned (.bool (wordF s)) ∧ w = w' := by
  have i0 : (0 : Int) ≤ s.size := by omega
  by_cases h1 : 1 ≤ s.size
  · have j1 : ¬ (s.size : Int) < 1 := by omega
    have h0 : 0 < s.size := by omega
    by_cases h2 : s.size ≤ 24
    · have j2 : ¬ (24 : Int) < s.size := by omega
      have hb0 := byteAt_get (s := s) (k := 0) (by omega)
      have HC := Lib.hid (small_any (byteAt s 0) w)
      rw [hb0] at HC
      obtain ⟨b, hb⟩ : ∃ b, smallN (s[0]).toNat = b := ⟨_, rfl⟩
      rw [hb] at HC
      have HF := Lib.hid (hb0 ▸ hb : smallN (byteAt s 0) = b)
      have H1 := Lib.hid h1; have H2 := Lib.hid h2
      clear hb hb0 h1 h2
      cases b with
      | false =>
        have HR := Lib.hid (wordF_first HF.out)
        go_enter Tryz.func60, Tryz.ntmps60
        go_wp2_with fail
        refine HC.out.mono ?_; rintro e w' ⟨rfl, rfl⟩
        go_wp2_with fail
        go_ret
        exact ⟨ret_no rfl HR.out, rfl⟩
      | true =>
        obtain ⟨n, hn⟩ : ∃ n, s.size = n := ⟨_, rfl⟩
        go_enter Tryz.func60, Tryz.ntmps60
        go_wp2_with fail
        refine HC.out.mono ?_; rintro e w' ⟨rfl, rfl⟩
        go_wp2_with fail
        go_loopg [20] n (fun g x20 wr => ∃ k : Nat, k + g = n ∧ x20 = .int .i64 k ∧ wr = w ∧ allIn s k = true)
        case atStart => exact ⟨0, by omega, rfl, rfl, rfl⟩
        case round =>
          obtain ⟨k, hkg, rfl, rfl, hall⟩ := hrel
          have HA := Lib.hid hall; clear hall
          cases gk with
          | zero =>
            have hkn : ¬ (k : Int) < s.size := by omega
            have HR := Lib.hid (wordF_yes H1.out H2.out HF.out (by rw [hn, show n = k by omega]; exact HA.out))
            go_wp2_with fail
            go_ret
            exact ⟨ret_yes rfl HR.out, rfl⟩
          | succ g =>
            have hkn : k < s.size := by omega
            have hki : (k : Int) < s.size := by omega
            have hk0 : (0 : Int) ≤ k := by omega
            have hbk := byteAt_get hkn
            have HC2 := Lib.hid (textWithin_any (byteAt s k) wr)
            rw [hbk] at HC2
            obtain ⟨b, hb⟩ : ∃ b, withinN (s[k]).toNat = b := ⟨_, rfl⟩
            rw [hb] at HC2
            have HB := Lib.hid (hbk ▸ hb : withinN (byteAt s k) = b)
            clear hb hbk
            cases b with
            | false =>
              have HR := Lib.hid (wordF_bad hkn HB.out)
              go_wp2_with fail
              refine HC2.out.mono ?_; rintro e w' ⟨rfl, rfl⟩
              go_wp2_with fail
              go_ret
              exact ⟨ret_no rfl HR.out, rfl⟩
            | true =>
              have HN : Hid (allIn s (k + 1) = true) := Lib.hid (by unfold allIn; rw [HA.out, HB.out]; rfl)
              go_wp2_with fail
              refine HC2.out.mono ?_; rintro e w' ⟨rfl, rfl⟩
              go_wp2_with fail
              go_roundg g
              case measure => omega
              case rel => exact ⟨k + 1, by omega, by first | rfl | go_num, rfl, HN.out⟩
    · have j2 : (24 : Int) < s.size := by omega
      have HR := Lib.hid (wordF_long h2)
      clear h2
      go_enter Tryz.func60, Tryz.ntmps60
      go_wp2_with fail
      go_ret
      exact ⟨ret_no rfl HR.out, rfl⟩
  · have j1 : (s.size : Int) < 1 := by omega
    have HR := Lib.hid (wordF_short h1)
    clear h1
    go_enter Tryz.func60, Tryz.ntmps60
    go_wp2_with fail
    go_ret
    exact ⟨ret_no rfl HR.out, rfl⟩
end Go.Proofs.YtlmakdclebbbkaaGreat

namespace Go.Proofs.YtlmakdclebbbkaaGreat
open Go.ChangeShapes Go.WideShapes Go.ChangeAt Go.RowKit
set_option linter.unusedVariables false
set_option maxRecDepth 100000
theorem below_drewN3 {B : Nat} {a w : World} (h : Below B a w) (n : Nat) : Below B a (w.drewN n) := ⟨h.os, h.tape, h.output, h.size, h.block⟩
theorem u8_tri (a b : UInt8) : a < b ∨ a = b ∨ b < a := by
  rcases Nat.lt_trichotomy a.toNat b.toNat with h | h | h
  · exact .inl (UInt8.lt_iff_toNat_lt.2 h)
  · exact .inr (.inl (UInt8.toNat_inj.1 h))
  · exact .inr (.inr (UInt8.lt_iff_toNat_lt.2 h))
theorem u8_not {a b : UInt8} (h : a < b) : ¬ b < a := fun h2 => by
  have := UInt8.lt_iff_toNat_lt.1 h; have := UInt8.lt_iff_toNat_lt.1 h2; omega
theorem u8_ne {a b : UInt8} (h : a < b) : a ≠ b := fun e => by
  subst e; exact u8_not h h
theorem less_flip : ∀ x y : List UInt8, (Op.bytesLess x y || x == y) = !(Op.bytesLess y x)
  | [], [] => by simp [Op.bytesLess]
  | [], b :: y => by simp [Op.bytesLess]
  | a :: x, [] => by simp [Op.bytesLess]
  | a :: x, b :: y => by
    have ih := less_flip x y
    rcases u8_tri a b with h | h | h
    · have h2 := u8_not h; have h3 := u8_ne h
      simp [Op.bytesLess, h, h2, Ne.symm h3]
    · subst h
      have h2 : ¬ a < a := fun h => u8_not h h
      simp only [Op.bytesLess, h2, decide_false, Bool.false_or, beq_self_eq_true, Bool.true_and, List.cons_beq_cons]
      exact ih
    · have h2 := u8_not h; have h3 := u8_ne h
      simp [Op.bytesLess, h, h2, Ne.symm h3]
def lblOk (x : ByteArray × ByteArray) : Bool := wordF x.1 && decide (1 ≤ x.2.size) && decide (x.2.size ≤ 24)
def lblAt (l : List (ByteArray × ByteArray)) (k : Nat) : ByteArray × ByteArray := l.getD k (ByteArray.empty, ByteArray.empty)
theorem lblAt_get {l : List (ByteArray × ByteArray)} {k : Nat} (h : k < l.length) : lblAt l k = l[k] := by simp [lblAt, List.getD_eq_getElem?_getD, h]
def riseAt (l : List (ByteArray × ByteArray)) : Nat → Bool
  | 0 => true
  | k + 1 => Op.bytesLess (lblAt l k).1.toList (lblAt l (k + 1)).1.toList
def rightK (l : List (ByteArray × ByteArray)) : Nat → Bool
  | 0 => true
  | k + 1 => rightK l k && (lblOk (lblAt l k) && riseAt l k)
theorem rightK_false {l : List (ByteArray × ByteArray)} {k : Nat} (h : (lblOk (lblAt l k) && riseAt l k) = false) : ∀ n, k < n → rightK l n = false
  | 0, hn => by omega
  | n + 1, hn => by
    unfold rightK
    by_cases e : k = n
    · subst e; rw [h, Bool.and_false]
    · rw [rightK_false h n (by omega), Bool.false_and]
def rightS (l : List (ByteArray × ByteArray)) : Bool := decide (l.length ≤ 6) && rightK l l.length
theorem rightS_long {l : List (ByteArray × ByteArray)} (h : ¬ l.length ≤ 6) : rightS l = false := by simp [rightS, h]
theorem rightS_row {l : List (ByteArray × ByteArray)} {k : Nat} (hk : k < l.length) (h : lblOk l[k] = false) : rightS l = false := by
  have : rightK l l.length = false := rightK_false (k := k) (by rw [lblAt_get hk, h, Bool.false_and]) _ hk
  simp [rightS, this]
theorem rightS_rise {l : List (ByteArray × ByteArray)} {k : Nat} (hk : k < l.length) (h : riseAt l k = false) : rightS l = false := by
  have : rightK l l.length = false := rightK_false (k := k) (by rw [h, Bool.and_false]) _ hk
  simp [rightS, this]
theorem rightS_yes {l : List (ByteArray × ByteArray)} (h : l.length ≤ 6) (h2 : rightK l l.length = true) : rightS l = true := by simp [rightS, h, h2]
theorem riseAt_get {l : List (ByteArray × ByteArray)} {q k : Nat} (hq : q + 1 = k) (hk : k < l.length) : riseAt l k = Op.bytesLess (l[q]'(by omega)).1.toList l[k].1.toList := by
  subst hq
  show Op.bytesLess _ _ = _
  rw [lblAt_get (by omega), lblAt_get hk]
set_option maxHeartbeats 2000000 in
theorem rightSet_any (A : Option Addr) (n c : Nat) (l : List (ByteArray × ByteArray)) (B : Nat) (w : World) (h : Sees w B 2 A n (lbls l)) (hB : B ≤ w.heap.size) (hn : n ≤ 9223372036854775807) :
    Calls Tryz.prog 28 #[.slice A n c] w fun e w' => e = .returned (.bool (rightS l)) ∧ Below w.heap.size w w' := by
  have H := Lib.hid h; clear h
  have HL := Lib.hid H.out.lbl_len
  by_cases h6 : n ≤ 6
  · have j6 : ¬ (6 : Int) < n := by omega
    have H6 := Lib.hid h6
    go_enter Tryz.func28, Tryz.ntmps28
    go_wp2_with fail
    go_loopg [10] n (fun g x10 wr => ∃ k : Nat, k + g = n ∧ x10 = .int .i64 k ∧ rightK l k = true ∧ Below w.heap.size w wr)
    case atStart => exact ⟨0, by omega, rfl, rfl, Below.refl _ _⟩
    case round =>
      obtain ⟨k, hkg, rfl, hrk, hbel⟩ := hrel
      have HRK := Lib.hid hrk; have HB := Lib.hid hbel
      have hsz := hbel.size
      clear hrk hbel
      cases gk with
      | zero =>
        obtain rfl : k = n := by omega
        have HR := Lib.hid (rightS_yes (l := l) (by rw [HL.out]; exact H6.out) (by rw [HL.out]; exact HRK.out))
        go_wp2_with fail
        go_ret
        exact ⟨ret_yes rfl HR.out, HB.out⟩
      | succ g =>
        have hlt : k < n := by omega
        obtain ⟨ad, hkl, rfl, c0, c1⟩ := (H.out.below (HB.out.mono hB)).lbl hlt
        have hal := World.block_lt_of_cell? wr _ c0
        have HROW : Hid (lblOk l[k] = false → rightS l = false) := Lib.hid (rightS_row hkl)
        have HRISE : Hid (riseAt l k = false → rightS l = false) := Lib.hid (rightS_rise hkl)
        have HNXT : Hid (lblOk l[k] = true → riseAt l k = true → rightK l (k + 1) = true) := Lib.hid fun h1 h2 => by unfold rightK; rw [HRK.out, lblAt_get hkl, h1, h2]; rfl
        have HQ : Hid (∀ q, q + 1 = k → ∃ a2 : ByteArray, wr.cell? (ad.add (q * 2)) = some (.string a2) ∧ (Op.bytesLess l[k].1.toList a2.toList || l[k].1.toList == a2.toList) = !riseAt l k) := Lib.hid fun q hq => by
          obtain ⟨ad2, hql, had, d0, d1⟩ := (H.out.below (HB.out.mono hB)).lbl (show q < n by omega)
          injection had with had; subst had
          exact ⟨_, d0, by rw [less_flip, riseAt_get hq hkl]⟩
        have HBA := Lib.hid (fun o : Obj => HB.out.alloc hsz o)
        clear HRK
        generalize l[k] = p at *
        obtain ⟨a, b⟩ := p
        simp only at c0 c1
        have HW := Lib.hid (fun W => word_any a W)
        have HOK : Hid (lblOk (a, b) = (wordF a && decide (1 ≤ b.size) && decide (b.size ≤ 24))) := Lib.hid rfl
        generalize wordF a = wa at *
        cases wa with
        | false =>
          have HR := Lib.hid (HROW.out (by rw [HOK.out]; rfl))
          clear HROW HRISE HNXT HQ HOK
          go_wp2_with fail
          refine (HW.out _).mono ?_; rintro e w' ⟨rfl, rfl⟩
          go_wp2_with fail
          go_ret
          exact ⟨ret_no rfl HR.out, HBA.out _⟩
        | true =>
          by_cases hb1 : 1 ≤ b.size
          · have y1 : ¬ (b.size : Int) < 1 := by omega
            by_cases hb2 : b.size ≤ 24
            · have y2 : ¬ (24 : Int) < b.size := by omega
              have HOK2 : Hid (lblOk (a, b) = true) := Lib.hid (by rw [HOK.out]; simp [hb1, hb2])
              clear HOK HROW hb1 hb2
              rcases Nat.eq_zero_or_pos k with hk0 | hk0
              · have z1 : ¬ (0 : Int) < k := by omega
                have z5 : ¬ 0 < k := by omega
                have z6 : decide (0 < k) = false := decide_eq_false z5
                have HN := Lib.hid (HNXT.out HOK2.out (by subst hk0; rfl))
                clear HRISE HNXT HQ hk0
                go_wp2_with fail
                refine (HW.out _).mono ?_; rintro e w' ⟨rfl, rfl⟩
                go_wp2_with fail
                go_quiet (fail)
                go_wp2_with fail
                go_roundg g
                case measure => omega
                case rel => exact ⟨k + 1, by omega, by first | rfl | go_num, HN.out, by first | exact HBA.out _ | exact (HBA.out _).drew | exact below_drewN3 (HBA.out _) _⟩
              · obtain ⟨q, hq⟩ : ∃ q, q + 1 = k := ⟨k - 1, by omega⟩
                obtain ⟨a2, d0, hrq⟩ := HQ.out q hq
                have hal2 := World.block_lt_of_cell? wr _ d0
                have z1 : (0 : Int) < k := by omega
                have z5 : 0 < k := by omega
                have z6 : decide (0 < k) = true := decide_eq_true z5
                have z2 : (k : Int) - 1 = q := by omega
                have z3 : (0 : Int) ≤ q := by omega
                have z4 : (q : Int) < n := by omega
                have z7 : IntKind.i64.wrap (q : Int) = q := by rw [IntKind.wrap_i64]; omega
                have z8 : q < n := by omega
                simp only at hrq
                obtain ⟨r, hr⟩ : ∃ r, riseAt l k = r := ⟨_, rfl⟩
                rw [hr] at hrq
                have HRA := Lib.hid hr
                clear hr hq HQ hk0
                cases r with
                | true =>
                  have HN := Lib.hid (HNXT.out HOK2.out HRA.out)
                  clear HNXT HRISE
                  simp only [Bool.not_true] at hrq
                  go_wp2_with fail
                  refine (HW.out _).mono ?_; rintro e w' ⟨rfl, rfl⟩
                  go_wp2_with fail
                  go_quiet (fail)
                  go_wp2_with fail
                  go_roundg g
                  case measure => omega
                  case rel => exact ⟨k + 1, by omega, by first | rfl | go_num, HN.out, by first | exact HBA.out _ | exact (HBA.out _).drew | exact below_drewN3 (HBA.out _) _⟩
                | false =>
                  have HR := Lib.hid (HRISE.out HRA.out)
                  clear HNXT HRISE
                  simp only [Bool.not_false] at hrq
                  go_wp2_with fail
                  refine (HW.out _).mono ?_; rintro e w' ⟨rfl, rfl⟩
                  go_wp2_with fail
                  go_quiet (fail)
                  go_wp2_with fail
                  go_ret
                  exact ⟨ret_no rfl HR.out, by first | exact HBA.out _ | exact (HBA.out _).drew | exact below_drewN3 (HBA.out _) _⟩
            · have y2 : (24 : Int) < b.size := by omega
              have HR := Lib.hid (HROW.out (by rw [HOK.out]; simp [hb2]))
              clear HROW HRISE HNXT HQ HOK hb1 hb2
              go_wp2_with fail
              refine (HW.out _).mono ?_; rintro e w' ⟨rfl, rfl⟩
              go_wp2_with fail
              go_ret
              exact ⟨ret_no rfl HR.out, HBA.out _⟩
          · have y1 : (b.size : Int) < 1 := by omega
            have HR := Lib.hid (HROW.out (by rw [HOK.out]; simp [hb1]))
            clear HROW HRISE HNXT HQ HOK hb1
            go_wp2_with fail
            refine (HW.out _).mono ?_; rintro e w' ⟨rfl, rfl⟩
            go_wp2_with fail
            go_ret
            exact ⟨ret_no rfl HR.out, HBA.out _⟩
  · have j6 : (6 : Int) < n := by omega
    have HR := Lib.hid (rightS_long (l := l) (by rw [HL.out]; exact h6))
    go_enter Tryz.func28, Tryz.ntmps28
    go_wp2_with fail
    go_ret
    exact ⟨ret_no rfl HR.out, Below.refl _ _⟩
end Go.Proofs.YtlmakdclebbbkaaGreat

namespace Go.Proofs.YtlmakdclebbbkaaGreat
open Go.RowKit
theorem ba_ext {a b : ByteArray} (h : a.toList = b.toList) : a = b := by
  rw [ByteArray.toList_eq, ByteArray.toList_eq] at h
  cases a; cases b
  exact congrArg ByteArray.mk (Array.toList_inj.1 h)
theorem ba_list (l : List UInt8) : ByteArray.toList ⟨l.toArray⟩ = l := by rw [ByteArray.toList_eq]
end Go.Proofs.YtlmakdclebbbkaaGreat

namespace Go.Proofs.YtlmakdclebbbkaaGreat
open Go.ChangeShapes Go.WideShapes Go.ChangeAt Go.RowKit
set_option linter.unusedVariables false
set_option maxRecDepth 100000
@[go_sem] theorem eq_lbl (a b c d : ByteArray) (w : World) : (Op.equalIn 10000 25 (.agg #[.string a, .string b]) (.agg #[.string c, .string d])).run Tryz.prog w = .ok (a.toList == c.toList && b.toList == d.toList) w := by
  have u3 := Tryz.underlying9
  have a3 := Tryz.isAgg9
  have z3 := Tryz.sizeOf9
  have hS : Tryz.prog.underlying 25 = some (.struct (Tryz.prog.fieldsOf 25)) := by kernel_rfl
  have hp : Tryz.prog.stoodInHeld 25 = false := by kernel_rfl
  rw [show (10000 : Nat) = 9999 + 1 from rfl, run_equalIn_agg w 9999 25 _ _ hS hp]
  simp only [Program.fieldsOf, Tryz.underlying25]
  go_simp
  by_cases h1 : a.toList = c.toList <;> by_cases h2 : b.toList = d.toList <;> simp [h1, h2]
theorem take_eq_snoc_l {zs ys : List (ByteArray × ByteArray)} {k : Nat} (h1 : k < zs.length) (h2 : k < ys.length) (h : zs.take k = ys.take k) (he : zs[k] = ys[k]) : zs.take (k + 1) = ys.take (k + 1) := by
  rw [List.take_succ_eq_append_getElem h1, List.take_succ_eq_append_getElem h2, h, he]
theorem same_lbl (A A2 : Option Addr) (n c n2 c2 B B2 : Nat) (zs ys : List (ByteArray × ByteArray)) (w : World) (h : Sees w B 2 A n (lbls zs)) (h2 : Sees w B2 2 A2 n2 (lbls ys)) (hn : n ≤ 9223372036854775807) (hn2 : n2 ≤ 9223372036854775807) :
    Calls Tryz.prog 35 #[.slice A n c, .slice A2 n2 c2] w fun e w' => e = .returned (.bool (decide (zs = ys))) ∧ ∃ m, w' = w.drewN m := by
  have H := Lib.hid h; clear h
  have H2 := Lib.hid h2; clear h2
  have HL := Lib.hid H.out.lbl_len
  have HL2 := Lib.hid H2.out.lbl_len
  by_cases hnn : n = n2
  · subst hnn
    go_enter Tryz.func35, Tryz.ntmps35
    go_wp2
    go_loopw [5] (fun i wr => ∃ k m : Nat, k ≤ n ∧ i = .int .i64 k ∧ wr = w.drewN m ∧ zs.take k = ys.take k) (fun i _ => n - (intOf i).toNat)
    case atStart => exact ⟨0, 0, Nat.zero_le _, rfl, rfl, rfl⟩
    case round =>
      obtain ⟨k, m, hk, rfl, rfl, ht⟩ := hrel
      have HT := Lib.hid ht; clear ht
      by_cases hlt : k < n
      · obtain ⟨ad, hkl, rfl, hc, hd⟩ := H.out.lbl hlt
        obtain ⟨ad2, hkl2, rfl, hc2, hd2⟩ := H2.out.lbl hlt
        have hq := Lib.hid (take_eq_snoc_l hkl hkl2 HT.out)
        have hne : Hid (zs[k] ≠ ys[k] → zs ≠ ys) := fun h e => h (by subst e; rfl)
        generalize zs[k] = x at *
        generalize ys[k] = y at *
        obtain ⟨x1, x2⟩ := x
        obtain ⟨y1, y2⟩ := y
        simp only at hc hd hc2 hd2
        by_cases hxy : x1 = y1 ∧ x2 = y2
        · obtain ⟨rfl, rfl⟩ := hxy
          have he1 : (x1.toList == x1.toList) = true := by simp
          have he2 : (x2.toList == x2.toList) = true := by simp
          go_wp2
          go_quiet (fail)
          go_wp2
          go_roundw
          case rel => exact ⟨k + 1, _, by omega, by go_num, rfl, hq.out (by simp)⟩
          case measure => simp [intOf]; omega
        · have hz := Lib.hid (hne.out (fun h => hxy (by injection h with h1 h2; exact ⟨h1, h2⟩)))
          by_cases h1 : x1 = y1
          · subst h1
            have he1 : (x1.toList == x1.toList) = true := by simp
            have he2 : (x2.toList == y2.toList) = false := by rw [beq_eq_false_iff_ne]; exact fun h => hxy ⟨rfl, ba_ext h⟩
            clear hxy
            go_wp2
            go_quiet (fail)
            go_wp2
            go_ret
            exact ⟨ret_bool (decide_eq_false hz.out).symm, _, World.drewN_drewN _ _ _⟩
          · have he1 : (x1.toList == y1.toList) = false := by rw [beq_eq_false_iff_ne]; exact fun h => h1 (ba_ext h)
            clear hxy h1
            go_wp2
            go_quiet (fail)
            go_wp2
            go_ret
            exact ⟨ret_bool (decide_eq_false hz.out).symm, _, World.drewN_drewN _ _ _⟩
      · obtain rfl : k = n := by omega
        have he : zs = ys := by
          have := HT.out; rwa [List.take_of_length_le (by rw [HL.out]; omega), List.take_of_length_le (by rw [HL2.out]; omega)] at this
        have HE := Lib.hid (decide_eq_true he); clear he
        go_wp2
        go_ret
        exact ⟨ret_bool HE.out.symm, m, rfl⟩
  · have hz : zs ≠ ys := fun e => hnn (by rw [← HL.out, ← HL2.out, e])
    have hb : ((n : Int) == n2) = false := beq_eq_false_iff_ne.2 (by omega)
    have HE := Lib.hid (decide_eq_false hz); clear hz
    go_enter Tryz.func35, Tryz.ntmps35
    go_wp2
    go_ret
    exact ⟨ret_bool HE.out.symm, 0, rfl⟩

end Go.Proofs.YtlmakdclebbbkaaGreat

namespace Go.Proofs.YtlmakdclebbbkaaGreat
open Go.RowKit Go.ChangeShapes Go.WideShapes Go.ChangeAt
set_option linter.unusedVariables false
def strs (l : List ByteArray) : List Value := l.map Value.string
theorem strs_length (l : List ByteArray) : (strs l).length = l.length := by simp [strs]
theorem strs_get (l : List ByteArray) (k : Nat) (h : k < l.length) : (strs l)[k]? = some (.string l[k]) := by simp [strs, h]
theorem Sees.str {w : World} {B : Nat} {A : Option Addr} {n : Nat} {l : List ByteArray} (h : Sees w B 1 A n (strs l)) {k : Nat} (hk : k < n) :
    ∃ ad, ∃ hl : k < l.length, A = some ad ∧ w.cell? (ad.add k) = some (.string l[k]) := by
  have hl : k < l.length := by have := h.len; rw [strs_length] at this; omega
  obtain ⟨ad, u, e, hx, hc⟩ := h.one hk
  rw [strs_get l k hl] at hx
  injection hx with hx; subst hx
  exact ⟨ad, hl, e, hc⟩
theorem Sees.str_len {w : World} {B : Nat} {A : Option Addr} {n : Nat} {l : List ByteArray} (h : Sees w B 1 A n (strs l)) : l.length = n := by
  have := h.len; rw [strs_length] at this; omega
theorem sees_of_cells {w : World} {a : Addr} {len m : Nat} {V : Nat → Value} (hlm : len ≤ m) (h : ∀ i, i < m → w.cell? (a.add i) = some (V i)) :
    Sees w w.heap.size 1 (some a) len ((List.range len).map V) := by
  refine ⟨by simp, fun hn => ⟨a, rfl, ?_, fun j u hu => ?_⟩⟩
  · have := World.block_lt_of_cell? w (a.add 0) (h 0 (by omega))
    rwa [add_block] at this
  · have hj : j < len := by have := (List.getElem?_eq_some_iff.1 hu).1; simpa using this
    rw [List.getElem?_map, List.getElem?_range hj] at hu
    simp at hu; subst hu
    exact h j (by omega)
section
variable {P : Program} {w : World} {base : Nat} {spare : Nat → Bool} {held : Bool} {H : Type} {enc : TypeId × Value → H}
theorem arg_ints {t e : TypeId} {fuel : Nat} {a0 : Option Addr} {len cap : Nat} {x : DataW H × List MemPlace} (ht : P.underlying t = some (.slice e)) (he : P.underlying e = some (.int .i64)) (hc : P.cellsOf e = 1)
    (h : DataW.trod enc P w base spare held fuel t (Value.slice a0 len cap).cells.toList = some x) :
    ∃ zs : List Int, Sees w w.heap.size 1 a0 len (ints zs) ∧ len ≤ cap ∧ cap ≤ 9223372036854775807 ∧ ∀ z ∈ zs, (Lit.int .i64 z).wf = true := by
  rcases open_ints ht he hc h with ⟨hcs, _⟩ | ⟨x, l, c, zs, hcs, _, hl, hm, hz, _, hcell, hwz⟩
  · simp [Value.cells] at hcs
    obtain ⟨rfl, rfl, rfl⟩ := hcs
    exact ⟨[], by simpa [ints] using Sees.nil, Nat.le_refl _, by omega, by simp⟩
  · simp [Value.cells] at hcs
    obtain ⟨rfl, rfl, rfl⟩ := hcs
    have hlz : len ≤ zs.length := by rw [hz]; split <;> omega
    refine ⟨zs.take len, ?_, hl, by unfold maxLen at hm; exact hm, fun z hzz => hwz z (List.mem_of_mem_take hzz)⟩
    have := sees_of_cells (V := fun i => .int .i64 (zs.getD i 0)) hlz fun i hi => hcell i hi
    have e : ints (zs.take len) = (List.range len).map fun i => Value.int .i64 (zs.getD i 0) := by
      refine List.ext_getElem? fun i => ?_
      by_cases hi : i < len
      · rw [ints_get _ i (by rw [List.length_take]; omega), List.getElem?_map, List.getElem?_range hi]
        simp [List.getD_eq_getElem?_getD, List.getElem?_eq_getElem (show i < zs.length by omega)]
      · rw [List.getElem?_eq_none (by rw [ints_length, List.length_take]; omega), List.getElem?_eq_none (by simp; omega)]
    rw [e]; exact this
end
end Go.Proofs.YtlmakdclebbbkaaGreat
