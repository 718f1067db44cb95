/- Matchers as cells; match.sign, holds, All. -/
import Derived.Test.YtfcjalojgmpnoaaHolds
namespace Go.Proofs.Ytfcjalojgmpnoaa
open Go.ChangeShapes Go.WideShapes Go.ChangeAt Go.RowKit
set_option linter.unusedVariables false
set_option maxRecDepth 100000
abbrev Mtc := ByteArray × ByteArray × Int
/-- Matchers as cells: names, values and kinds. -/
def mtcs (l : List Mtc) : List Value := l.flatMap fun x => [.string x.1, .string x.2.1, .int .i64 x.2.2]
theorem mtcs_length (l : List Mtc) : (mtcs l).length = l.length * 3 := by
  induction l with
  | nil => rfl
  | cons x l ih => simp only [mtcs, List.flatMap_cons, List.length_append, List.length_cons, List.length_nil] at ih ⊢; omega
theorem mtcs_append (l m : List Mtc) : mtcs (l ++ m) = mtcs l ++ mtcs m := by simp [mtcs]
theorem mtcs_one (l : List Mtc) : ∀ u ∈ mtcs l, u.oneCell' = true := by
  intro u hu
  simp only [mtcs, List.mem_flatMap] at hu
  obtain ⟨x, _, hu⟩ := hu
  simp at hu
  rcases hu with rfl | rfl | rfl <;> rfl
theorem mtcs_get (l : List Mtc) (p : Nat) (h : p < l.length) : (mtcs l)[p * 3]? = some (.string l[p].1) ∧ (mtcs l)[p * 3 + 1]? = some (.string l[p].2.1) ∧ (mtcs l)[p * 3 + 2]? = some (.int .i64 l[p].2.2) := by
  have e : mtcs l = mtcs (l.take p) ++ (mtcs [l[p]] ++ mtcs (l.drop (p + 1))) := by
    rw [← mtcs_append, ← mtcs_append, List.singleton_append, ← List.drop_eq_getElem_cons h, List.take_append_drop]
  have hl : (mtcs (l.take p)).length = p * 3 := by rw [mtcs_length, List.length_take]; omega
  rw [e]
  refine ⟨?_, ?_, ?_⟩
  · rw [List.getElem?_append_right (by omega), hl, Nat.sub_self]; rfl
  · rw [List.getElem?_append_right (by omega), hl, show p * 3 + 1 - p * 3 = 1 by omega]; rfl
  · rw [List.getElem?_append_right (by omega), hl, show p * 3 + 2 - p * 3 = 2 by omega]; rfl
theorem mtcs_take (l : List Mtc) (k : Nat) : (mtcs l).take (k * 3) = mtcs (l.take k) := by
  by_cases h : k ≤ l.length
  · conv => lhs; rw [← List.take_append_drop k l, mtcs_append]
    rw [List.take_append_of_le_length (by rw [mtcs_length, List.length_take]; omega), List.take_of_length_le (by rw [mtcs_length, List.length_take]; omega)]
  · rw [List.take_of_length_le (by rw [mtcs_length]; omega), List.take_of_length_le (by omega)]
theorem mtcs_drop (l : List Mtc) (k : Nat) : (mtcs l).drop (k * 3) = mtcs (l.drop k) := by
  by_cases h : k ≤ l.length
  · have hl : (mtcs (l.take k)).length = k * 3 := by rw [mtcs_length, List.length_take]; omega
    conv => lhs; rw [← List.take_append_drop k l, mtcs_append]
    rw [← hl, List.drop_left]
  · rw [List.drop_of_length_le (by rw [mtcs_length]; omega), List.drop_of_length_le (by omega)]; rfl
theorem Sees.mtc {w : World} {B : Nat} {A : Option Addr} {n : Nat} {l : List Mtc} (h : Sees w B 3 A n (mtcs l)) {k : Nat} (hk : k < n) :
    ∃ ad, ∃ hl : k < l.length, A = some ad ∧ w.cell? (ad.add (k * 3)) = some (.string l[k].1) ∧ w.cell? ⟨(ad.add (k * 3)).block, (ad.add (k * 3)).off + 1, none⟩ = some (.string l[k].2.1) ∧ w.cell? ⟨(ad.add (k * 3)).block, (ad.add (k * 3)).off + 2, none⟩ = some (.int .i64 l[k].2.2) := by
  have hl : k < l.length := by have := h.len; rw [mtcs_length] at this; omega
  obtain ⟨ad, e, _, hc⟩ := h.at_ (by omega)
  obtain ⟨h0, h1, h2⟩ := mtcs_get l k hl
  exact ⟨ad, hl, e, hc _ _ h0, by rw [add_spelt _ _ _ (by omega)]; exact hc _ _ h1, by rw [add_spelt _ _ _ (by omega)]; exact hc _ _ h2⟩
theorem Sees.mtc_len {w : World} {B : Nat} {A : Option Addr} {n : Nat} {l : List Mtc} (h : Sees w B 3 A n (mtcs l)) : l.length = n := by
  have := h.len; rw [mtcs_length] at this; omega
/-- A kind's sign. -/
def signF (k : Int) : ByteArray := if k = 1 then ⟨#[61]⟩ else if k = 2 then ⟨#[33, 61]⟩ else if k = 3 then ⟨#[94, 61]⟩ else if k = 4 then ⟨#[33, 94]⟩ else ⟨#[]⟩
/-- Does a matcher hold of a set. -/
def holdsF (l : List Lbl) (x : Mtc) : Bool :=
  if x.2.2 = 1 then decide (getF l x.1 = x.2.1) else if x.2.2 = 2 then !decide (getF l x.1 = x.2.1)
  else if x.2.2 = 3 then Lib.hasPrefix (getF l x.1).data.toList x.2.1.data.toList else if x.2.2 = 4 then !Lib.hasPrefix (getF l x.1).data.toList x.2.1.data.toList else false
/-- Does each. -/
def allF (l : List Lbl) (ms : List Mtc) : Bool := ms.all (holdsF l)
theorem int_ne {a b : Int} (h : ¬ a = b) : (a == b) = false := by rw [beq_eq_false_iff_ne]; exact h
set_option maxHeartbeats 1000000 in
theorem sign_any (k : Int) (w : World) : Calls Try.prog 39 #[.int .i64 k] w fun e w' => e = .returned (.string (signF k)) ∧ w = w' := by
  by_cases h1 : k = 1
  · subst h1; go_enter Try.func39, Try.ntmps39
    go_wp2_with fail
    go_ret
    exact ⟨rfl, rfl⟩
  · by_cases h2 : k = 2
    · subst h2; go_enter Try.func39, Try.ntmps39
      go_wp2_with fail
      go_ret
      exact ⟨rfl, rfl⟩
    · by_cases h3 : k = 3
      · subst h3; go_enter Try.func39, Try.ntmps39
        go_wp2_with fail
        go_ret
        exact ⟨rfl, rfl⟩
      · by_cases h4 : k = 4
        · subst h4; go_enter Try.func39, Try.ntmps39
          go_wp2_with fail
          go_ret
          exact ⟨rfl, rfl⟩
        · have HS := Lib.hid (show signF k = ⟨#[]⟩ by unfold signF; rw [if_neg h1, if_neg h2, if_neg h3, if_neg h4])
          have t1 := int_ne h1; have t2 := int_ne h2; have t3 := int_ne h3; have t4 := int_ne h4
          go_enter Try.func39, Try.ntmps39
          go_wp2_with fail
          go_ret
          exact ⟨by rw [HS.out]; rfl, rfl⟩
set_option maxHeartbeats 2000000 in
theorem holds_any (A0 : Option Addr) (n c B : Nat) (l : List Lbl) (nm vl : ByteArray) (k : Int) (w : World) (h : Sees w B 2 A0 n (lbls l)) (hB : B ≤ w.heap.size) (hn : n ≤ 9223372036854775807) :
    Calls Try.prog 38 #[.slice A0 n c, .agg #[.string nm, .string vl, .int .i64 k]] w fun e w' => e = .returned (.bool (holdsF l (nm, vl, k))) ∧ Below w.heap.size w w' := by
  have HK0 : Hid (Blk (w.alloc (.cells #[.string nm, .string vl, .int .i64 k] 56)) w.heap.size 56 [.string nm, .string vl, .int .i64 k]) := Lib.hid (Blk.mk (heap_alloc_new w _))
  have HB0 := Lib.hid ((Below.refl w.heap.size w).alloc (Nat.le_refl _) (.cells #[.string nm, .string vl, .int .i64 k] 56))
  have HG := Lib.hid (get_any A0 n c B l nm (w.alloc (.cells #[.string nm, .string vl, .int .i64 k] 56)) (h.alloc hB _) (by simp; omega) hn)
  clear h
  have HF : Hid (holdsF l (nm, vl, k) = if k = 1 then decide (getF l nm = vl) else if k = 2 then !decide (getF l nm = vl)
      else if k = 3 then Lib.hasPrefix (getF l nm).data.toList vl.data.toList else if k = 4 then !Lib.hasPrefix (getF l nm).data.toList vl.data.toList else false) := Lib.hid rfl
  generalize holdsF l (nm, vl, k) = r at *
  generalize getF l nm = v at *
  go_enter Try.func38, Try.ntmps38
  go_wp2_with fail
  (with_reducible refine HG.out.mono ?_); rintro e w1 ⟨rfl, hb⟩
  have HK1 := Lib.hid (HK0.out.below hb HK0.out.lt)
  have HB1 := Lib.hid (HB0.out.trans (hb.mono (by simp)))
  have e1 := HK1.out.cell 1
  have e2 := HK1.out.cell 2
  simp only [List.getElem?_cons_zero, List.getElem?_cons_succ] at e1 e2
  clear hb HK0 HB0 HG HK1
  by_cases h1 : k = 1
  · subst h1
    by_cases hv : v = vl
    · have t1 : (v.toList == vl.toList) = true := by rw [hv]; simp
      have HR := Lib.hid (show r = true by rw [HF.out, if_pos rfl, decide_eq_true hv])
      clear HF hv
      go_wp2_with fail
      go_ret
      exact ⟨by rw [HR.out]; rfl, HB1.out⟩
    · have t1 : (v.toList == vl.toList) = false := by rw [beq_eq_false_iff_ne]; exact fun h => hv (ba_ext h)
      have HR := Lib.hid (show r = false by rw [HF.out, if_pos rfl, decide_eq_false hv])
      clear HF hv
      go_wp2_with fail
      go_ret
      exact ⟨by rw [HR.out]; rfl, HB1.out⟩
  · by_cases h2 : k = 2
    · subst h2
      by_cases hv : v = vl
      · have t1 : (v.toList == vl.toList) = true := by rw [hv]; simp
        have HR := Lib.hid (show r = false by rw [HF.out, if_neg h1, if_pos rfl, decide_eq_true hv]; rfl)
        clear HF hv
        go_wp2_with fail
        go_ret
        exact ⟨by rw [HR.out]; rfl, HB1.out⟩
      · have t1 : (v.toList == vl.toList) = false := by rw [beq_eq_false_iff_ne]; exact fun h => hv (ba_ext h)
        have HR := Lib.hid (show r = true by rw [HF.out, if_neg h1, if_pos rfl, decide_eq_false hv]; rfl)
        clear HF hv
        go_wp2_with fail
        go_ret
        exact ⟨by rw [HR.out]; rfl, HB1.out⟩
    · have HP := Lib.hid (fun W => Try.strings_HasPrefix v vl W)
      by_cases h3 : k = 3
      · subst h3
        have HR := Lib.hid (show r = Lib.hasPrefix v.data.toList vl.data.toList by rw [HF.out, if_neg h1, if_neg h2, if_pos rfl])
        generalize Lib.hasPrefix v.data.toList vl.data.toList = q at *
        clear HF
        go_wp2_with fail
        (with_reducible refine (HP.out _).mono ?_); rintro e w' ⟨rfl, rfl⟩
        go_wp2_with fail
        go_ret
        exact ⟨by rw [HR.out]; rfl, HB1.out⟩
      · by_cases h4 : k = 4
        · subst h4
          have HR := Lib.hid (show r = !Lib.hasPrefix v.data.toList vl.data.toList by rw [HF.out, if_neg h1, if_neg h2, if_neg h3, if_pos rfl])
          generalize Lib.hasPrefix v.data.toList vl.data.toList = q at *
          clear HF
          go_wp2_with fail
          (with_reducible refine (HP.out _).mono ?_); rintro e w' ⟨rfl, rfl⟩
          go_wp2_with fail
          go_ret
          exact ⟨by rw [HR.out]; rfl, HB1.out⟩
        · have t1 := int_ne h1; have t2 := int_ne h2; have t3 := int_ne h3; have t4 := int_ne h4
          have HR := Lib.hid (show r = false by rw [HF.out, if_neg h1, if_neg h2, if_neg h3, if_neg h4])
          clear HF HP
          go_wp2_with fail
          go_ret
          exact ⟨by rw [HR.out]; rfl, HB1.out⟩
set_option maxHeartbeats 2000000 in
theorem all_any (A0 : Option Addr) (n c B : Nat) (l : List Lbl) (A2 : Option Addr) (n2 c2 B2 : Nat) (ms : List Mtc) (w : World) (h : Sees w B 2 A0 n (lbls l)) (hB : B ≤ w.heap.size) (hn : n ≤ 9223372036854775807) (h2 : Sees w B2 3 A2 n2 (mtcs ms)) (hB2 : B2 ≤ w.heap.size) (hn2 : n2 ≤ 9223372036854775807) :
    Calls Try.prog 19 #[.slice A0 n c, .slice A2 n2 c2] w fun e w' => e = .returned (.bool (allF l ms)) ∧ Below w.heap.size w w' := by
  have H := Lib.hid h; have H2 := Lib.hid h2
  have HL := Lib.hid h2.mtc_len
  clear h h2
  go_enter Try.func19, Try.ntmps19
  go_wp2_with fail
  go_loopg [9] n2 (fun g x9 wr => ∃ k : Nat, k + g = n2 ∧ x9 = .int .i64 k ∧ Below w.heap.size w wr ∧ ∀ x ∈ ms.take k, holdsF l x = true)
  case atStart => exact ⟨0, by omega, rfl, Below.refl _ _, (fun x hx => by simp at hx)⟩
  case round =>
    obtain ⟨k, hkg, rfl, hbel, hno⟩ := hrel
    have HB := Lib.hid hbel; have HNO := Lib.hid hno
    have hws := hbel.size
    clear hbel hno
    cases gk with
    | zero =>
      obtain rfl : k = n2 := by omega
      have HE := Lib.hid (show allF l ms = true from List.all_eq_true.2 (fun x hx => HNO.out x (by rw [List.take_of_length_le (by rw [HL.out]; exact Nat.le_refl _)]; exact hx)))
      go_wp2_with fail
      go_ret
      exact ⟨by rw [HE.out]; rfl, HB.out⟩
    | succ g =>
      have hlt : k < n2 := by omega
      obtain ⟨ad, hkl, rfl, c0, c1, c2⟩ := (H2.out.below (HB.out.mono hB2)).mtc hlt
      have hal := World.block_lt_of_cell? wr _ c0
      have HT := Lib.hid (List.take_succ_eq_append_getElem hkl)
      have HM := Lib.hid (List.getElem_mem hkl)
      generalize ms[k] = p at *
      obtain ⟨a, b, kd⟩ := p
      simp only at c0 c1 c2
      have HBA := Lib.hid (HB.out.alloc hws (.cells #[.string a, .string b, .int .i64 kd] 56))
      have HO := Lib.hid (holds_any A0 n c B l a b kd (wr.alloc (.cells #[.string a, .string b, .int .i64 kd] 56)) (H.out.below (HBA.out.mono hB)) (Nat.le_trans hB HBA.out.size) hn)
      have HR : Hid (holdsF l (a, b, kd) = false → allF l ms = false) := Lib.hid (fun h => by
        rw [allF, List.all_eq_false]; exact ⟨_, HM.out, by rw [h]; simp⟩)
      have HN : Hid (holdsF l (a, b, kd) = true → ∀ x ∈ ms.take (k + 1), holdsF l x = true) := Lib.hid (fun h x hx => by
        rw [HT.out] at hx
        rcases List.mem_append.1 hx with hx | hx
        · exact HNO.out x hx
        · rw [List.mem_singleton] at hx; rw [hx]; exact h)
      clear HT HM
      generalize holdsF l (a, b, kd) = r at *
      cases r with
      | false =>
        have HE := Lib.hid (HR.out rfl)
        clear HR HN
        go_wp2_with fail
        (with_reducible refine HO.out.mono ?_); rintro e w1 ⟨rfl, hb⟩
        have HB1 := Lib.hid (HBA.out.trans (hb.mono HBA.out.size))
        clear hb
        go_wp2_with fail
        go_ret
        exact ⟨by rw [HE.out]; rfl, HB1.out⟩
      | true =>
        have HN1 := Lib.hid (HN.out rfl)
        clear HR HN
        go_wp2_with fail
        (with_reducible refine HO.out.mono ?_); rintro e w1 ⟨rfl, hb⟩
        have HB1 := Lib.hid (HBA.out.trans (hb.mono HBA.out.size))
        clear hb
        go_wp2_with fail
        go_roundg g
        case measure => omega
        case rel => exact ⟨k + 1, by omega, by go_num, HB1.out, HN1.out⟩
end Go.Proofs.Ytfcjalojgmpnoaa
