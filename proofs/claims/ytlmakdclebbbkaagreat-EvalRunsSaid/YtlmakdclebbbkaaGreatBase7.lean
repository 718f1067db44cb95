/- Texts, merged in one. -/
import Derived.Test.YtlmakdclebbbkaaGreatBase6
import Derived.Test.YtlmakdclebbbkaaGreatBase
import Derived.WalkKit
import Derived.ProofKit
import Derived.Test.YtlmakdclebbbkaaGreatRows
import Derived.WalkSpells
import Derived.Lib.AppendZerosOnto
import Derived.Lib.AppendZeros
import Derived.Lib.Hide
namespace Go.Proofs.YtlmakdclebbbkaaGreat
open Go.ChangeShapes Go.WideShapes Go.ChangeAt Go.RowKit
set_option linter.unusedVariables false
set_option maxRecDepth 100000
abbrev Mtc := ByteArray × ByteArray × Int
/-- Matchers as cells: names, values and kinds. -/
def mtcs (l : List Mtc) : List Value := l.flatMap fun x => [.string x.1, .string x.2.1, .int .i64 x.2.2]
theorem mtcs_length (l : List Mtc) : (mtcs l).length = l.length * 3 := by
  induction l with
  | nil => rfl
  | cons x l ih => simp only [mtcs, List.flatMap_cons, List.length_append, List.length_cons, List.length_nil] at ih ⊢; omega
theorem mtcs_append (l m : List Mtc) : mtcs (l ++ m) = mtcs l ++ mtcs m := by simp [mtcs]
theorem mtcs_one (l : List Mtc) : ∀ u ∈ mtcs l, u.oneCell' = true := by
  intro u hu
  simp only [mtcs, List.mem_flatMap] at hu
  obtain ⟨x, _, hu⟩ := hu
  simp at hu
  rcases hu with rfl | rfl | rfl <;> rfl
theorem mtcs_get (l : List Mtc) (p : Nat) (h : p < l.length) : (mtcs l)[p * 3]? = some (.string l[p].1) ∧ (mtcs l)[p * 3 + 1]? = some (.string l[p].2.1) ∧ (mtcs l)[p * 3 + 2]? = some (.int .i64 l[p].2.2) := by
  have e : mtcs l = mtcs (l.take p) ++ (mtcs [l[p]] ++ mtcs (l.drop (p + 1))) := by
    rw [← mtcs_append, ← mtcs_append, List.singleton_append, ← List.drop_eq_getElem_cons h, List.take_append_drop]
  have hl : (mtcs (l.take p)).length = p * 3 := by rw [mtcs_length, List.length_take]; omega
  rw [e]
  refine ⟨?_, ?_, ?_⟩
  · rw [List.getElem?_append_right (by omega), hl, Nat.sub_self]; rfl
  · rw [List.getElem?_append_right (by omega), hl, show p * 3 + 1 - p * 3 = 1 by omega]; rfl
  · rw [List.getElem?_append_right (by omega), hl, show p * 3 + 2 - p * 3 = 2 by omega]; rfl
theorem Sees.mtc {w : World} {B : Nat} {A : Option Addr} {n : Nat} {l : List Mtc} (h : Sees w B 3 A n (mtcs l)) {k : Nat} (hk : k < n) :
    ∃ ad, ∃ hl : k < l.length, A = some ad ∧ w.cell? (ad.add (k * 3)) = some (.string l[k].1) ∧ w.cell? ⟨(ad.add (k * 3)).block, (ad.add (k * 3)).off + 1, none⟩ = some (.string l[k].2.1) ∧ w.cell? ⟨(ad.add (k * 3)).block, (ad.add (k * 3)).off + 2, none⟩ = some (.int .i64 l[k].2.2) := by
  have hl : k < l.length := by have := h.len; rw [mtcs_length] at this; omega
  obtain ⟨ad, e, _, hc⟩ := h.at_ (by omega)
  obtain ⟨h0, h1, h2⟩ := mtcs_get l k hl
  exact ⟨ad, hl, e, hc _ _ h0, by rw [add_spelt _ _ _ (by omega)]; exact hc _ _ h1, by rw [add_spelt _ _ _ (by omega)]; exact hc _ _ h2⟩
theorem Sees.mtc_len {w : World} {B : Nat} {A : Option Addr} {n : Nat} {l : List Mtc} (h : Sees w B 3 A n (mtcs l)) : l.length = n := by
  have := h.len; rw [mtcs_length] at this; omega
/-- A kind's sign. -/
def signF (k : Int) : ByteArray := if k = 1 then ⟨#[61]⟩ else if k = 2 then ⟨#[33, 61]⟩ else if k = 3 then ⟨#[94, 61]⟩ else if k = 4 then ⟨#[33, 94]⟩ else ⟨#[]⟩
/-- Does a matcher hold of a set. -/
def holdsF (l : List Lbl) (x : Mtc) : Bool :=
  if x.2.2 = 1 then decide (getF l x.1 = x.2.1) else if x.2.2 = 2 then !decide (getF l x.1 = x.2.1)
  else if x.2.2 = 3 then Lib.hasPrefix (getF l x.1).data.toList x.2.1.data.toList else if x.2.2 = 4 then !Lib.hasPrefix (getF l x.1).data.toList x.2.1.data.toList else false
/-- Does each. -/
def allF (l : List Lbl) (ms : List Mtc) : Bool := ms.all (holdsF l)
theorem int_ne {a b : Int} (h : ¬ a = b) : (a == b) = false := by rw [beq_eq_false_iff_ne]; exact h
set_option maxHeartbeats 1000000 in
theorem sign_any (k : Int) (w : World) : Calls Tryz.prog 135 #[.int .i64 k] w fun e w' => e = .returned (.string (signF k)) ∧ w = w' := by
  by_cases h1 : k = 1
  · subst h1; go_enter Tryz.func135, Tryz.ntmps135
    go_wp2_with fail
    go_ret
    exact ⟨rfl, rfl⟩
  · by_cases h2 : k = 2
    · subst h2; go_enter Tryz.func135, Tryz.ntmps135
      go_wp2_with fail
      go_ret
      exact ⟨rfl, rfl⟩
    · by_cases h3 : k = 3
      · subst h3; go_enter Tryz.func135, Tryz.ntmps135
        go_wp2_with fail
        go_ret
        exact ⟨rfl, rfl⟩
      · by_cases h4 : k = 4
        · subst h4; go_enter Tryz.func135, Tryz.ntmps135
          go_wp2_with fail
          go_ret
          exact ⟨rfl, rfl⟩
        · have HS := Lib.hid (show signF k = ⟨#[]⟩ by unfold signF; rw [if_neg h1, if_neg h2, if_neg h3, if_neg h4])
          have t1 := int_ne h1; have t2 := int_ne h2; have t3 := int_ne h3; have t4 := int_ne h4
          go_enter Tryz.func135, Tryz.ntmps135
          go_wp2_with fail
          go_ret
          exact ⟨by rw [HS.out]; rfl, rfl⟩
set_option maxHeartbeats 2000000 in
theorem holds_any (A0 : Option Addr) (n c B : Nat) (l : List Lbl) (nm vl : ByteArray) (k : Int) (w : World) (h : Sees w B 2 A0 n (lbls l)) (hB : B ≤ w.heap.size) (hn : n ≤ 9223372036854775807) :
    Calls Tryz.prog 119 #[.slice A0 n c, .agg #[.string nm, .string vl, .int .i64 k]] w fun e w' => e = .returned (.bool (holdsF l (nm, vl, k))) ∧ Below w.heap.size w w' := by
  have HK0 : Hid (Blk (w.alloc (.cells #[.string nm, .string vl, .int .i64 k] 32)) w.heap.size 32 [.string nm, .string vl, .int .i64 k]) := Lib.hid (Blk.mk (heap_alloc_new w _))
  have HB0 := Lib.hid ((Below.refl w.heap.size w).alloc (Nat.le_refl _) (.cells #[.string nm, .string vl, .int .i64 k] 32))
  have HG := Lib.hid (get_any A0 n c B l nm (w.alloc (.cells #[.string nm, .string vl, .int .i64 k] 32)) (h.alloc hB _) (by simp; omega) hn)
  clear h
  have HF : Hid (holdsF l (nm, vl, k) = if k = 1 then decide (getF l nm = vl) else if k = 2 then !decide (getF l nm = vl)
      else if k = 3 then Lib.hasPrefix (getF l nm).data.toList vl.data.toList else if k = 4 then !Lib.hasPrefix (getF l nm).data.toList vl.data.toList else false) := Lib.hid rfl
  generalize holdsF l (nm, vl, k) = r at *
  generalize getF l nm = v at *
  go_enter Tryz.func119, Tryz.ntmps119
  go_wp2_with fail
  (with_reducible refine HG.out.mono ?_); rintro e w1 ⟨rfl, hb⟩
  have HK1 := Lib.hid (HK0.out.below hb HK0.out.lt)
  have HB1 := Lib.hid (HB0.out.trans (hb.mono (by simp)))
  have e1 := HK1.out.cell 1
  have e2 := HK1.out.cell 2
  simp only [List.getElem?_cons_zero, List.getElem?_cons_succ] at e1 e2
  clear hb HK0 HB0 HG HK1
  by_cases h1 : k = 1
  · subst h1
    by_cases hv : v = vl
    · have t1 : (v.toList == vl.toList) = true := by rw [hv]; simp
      have HR := Lib.hid (show r = true by rw [HF.out, if_pos rfl, decide_eq_true hv])
      clear HF hv
      go_wp2_with fail
      go_ret
      exact ⟨by rw [HR.out]; rfl, HB1.out⟩
    · have t1 : (v.toList == vl.toList) = false := by rw [beq_eq_false_iff_ne]; exact fun h => hv (ba_ext h)
      have HR := Lib.hid (show r = false by rw [HF.out, if_pos rfl, decide_eq_false hv])
      clear HF hv
      go_wp2_with fail
      go_ret
      exact ⟨by rw [HR.out]; rfl, HB1.out⟩
  · by_cases h2 : k = 2
    · subst h2
      by_cases hv : v = vl
      · have t1 : (v.toList == vl.toList) = true := by rw [hv]; simp
        have HR := Lib.hid (show r = false by rw [HF.out, if_neg h1, if_pos rfl, decide_eq_true hv]; rfl)
        clear HF hv
        go_wp2_with fail
        go_ret
        exact ⟨by rw [HR.out]; rfl, HB1.out⟩
      · have t1 : (v.toList == vl.toList) = false := by rw [beq_eq_false_iff_ne]; exact fun h => hv (ba_ext h)
        have HR := Lib.hid (show r = true by rw [HF.out, if_neg h1, if_pos rfl, decide_eq_false hv]; rfl)
        clear HF hv
        go_wp2_with fail
        go_ret
        exact ⟨by rw [HR.out]; rfl, HB1.out⟩
    · have HP := Lib.hid (fun W => Tryz.strings_HasPrefix v vl W)
      by_cases h3 : k = 3
      · subst h3
        have HR := Lib.hid (show r = Lib.hasPrefix v.data.toList vl.data.toList by rw [HF.out, if_neg h1, if_neg h2, if_pos rfl])
        generalize Lib.hasPrefix v.data.toList vl.data.toList = q at *
        clear HF
        go_wp2_with fail
        (with_reducible refine (HP.out _).mono ?_); rintro e w' ⟨rfl, rfl⟩
        go_wp2_with fail
        go_ret
        exact ⟨by rw [HR.out]; rfl, HB1.out⟩
      · by_cases h4 : k = 4
        · subst h4
          have HR := Lib.hid (show r = !Lib.hasPrefix v.data.toList vl.data.toList by rw [HF.out, if_neg h1, if_neg h2, if_neg h3, if_pos rfl])
          generalize Lib.hasPrefix v.data.toList vl.data.toList = q at *
          clear HF
          go_wp2_with fail
          (with_reducible refine (HP.out _).mono ?_); rintro e w' ⟨rfl, rfl⟩
          go_wp2_with fail
          go_ret
          exact ⟨by rw [HR.out]; rfl, HB1.out⟩
        · have t1 := int_ne h1; have t2 := int_ne h2; have t3 := int_ne h3; have t4 := int_ne h4
          have HR := Lib.hid (show r = false by rw [HF.out, if_neg h1, if_neg h2, if_neg h3, if_neg h4])
          clear HF HP
          go_wp2_with fail
          go_ret
          exact ⟨by rw [HR.out]; rfl, HB1.out⟩
set_option maxHeartbeats 2000000 in
theorem all_any (A0 : Option Addr) (n c B : Nat) (l : List Lbl) (A2 : Option Addr) (n2 c2 B2 : Nat) (ms : List Mtc) (w : World) (h : Sees w B 2 A0 n (lbls l)) (hB : B ≤ w.heap.size) (hn : n ≤ 9223372036854775807) (h2 : Sees w B2 3 A2 n2 (mtcs ms)) (hB2 : B2 ≤ w.heap.size) (hn2 : n2 ≤ 9223372036854775807) :
    Calls Tryz.prog 71 #[.slice A0 n c, .slice A2 n2 c2] w fun e w' => e = .returned (.bool (allF l ms)) ∧ Below w.heap.size w w' := by
  have H := Lib.hid h; have H2 := Lib.hid h2
  have HL := Lib.hid h2.mtc_len
  clear h h2
  go_enter Tryz.func71, Tryz.ntmps71
  go_wp2_with fail
  go_loopg [9] n2 (fun g x9 wr => ∃ k : Nat, k + g = n2 ∧ x9 = .int .i64 k ∧ Below w.heap.size w wr ∧ ∀ x ∈ ms.take k, holdsF l x = true)
  case atStart => exact ⟨0, by omega, rfl, Below.refl _ _, (fun x hx => by simp at hx)⟩
  case round =>
    obtain ⟨k, hkg, rfl, hbel, hno⟩ := hrel
    have HB := Lib.hid hbel; have HNO := Lib.hid hno
    have hws := hbel.size
    clear hbel hno
    cases gk with
    | zero =>
      obtain rfl : k = n2 := by omega
      have HE := Lib.hid (show allF l ms = true from List.all_eq_true.2 (fun x hx => HNO.out x (by rw [List.take_of_length_le (by rw [HL.out]; exact Nat.le_refl _)]; exact hx)))
      go_wp2_with fail
      go_ret
      exact ⟨by rw [HE.out]; rfl, HB.out⟩
    | succ g =>
      have hlt : k < n2 := by omega
      obtain ⟨ad, hkl, rfl, c0, c1, c2⟩ := (H2.out.below (HB.out.mono hB2)).mtc hlt
      have hal := World.block_lt_of_cell? wr _ c0
      have HT := Lib.hid (List.take_succ_eq_append_getElem hkl)
      have HM := Lib.hid (List.getElem_mem hkl)
      generalize ms[k] = p at *
      obtain ⟨a, b, kd⟩ := p
      simp only at c0 c1 c2
      have HBA := Lib.hid (HB.out.alloc hws (.cells #[.string a, .string b, .int .i64 kd] 32))
      have HO := Lib.hid (holds_any A0 n c B l a b kd (wr.alloc (.cells #[.string a, .string b, .int .i64 kd] 32)) (H.out.below (HBA.out.mono hB)) (Nat.le_trans hB HBA.out.size) hn)
      have HR : Hid (holdsF l (a, b, kd) = false → allF l ms = false) := Lib.hid (fun h => by
        rw [allF, List.all_eq_false]; exact ⟨_, HM.out, by rw [h]; simp⟩)
      have HN : Hid (holdsF l (a, b, kd) = true → ∀ x ∈ ms.take (k + 1), holdsF l x = true) := Lib.hid (fun h x hx => by
        rw [HT.out] at hx
        rcases List.mem_append.1 hx with hx | hx
        · exact HNO.out x hx
        · rw [List.mem_singleton] at hx; rw [hx]; exact h)
      clear HT HM
      generalize holdsF l (a, b, kd) = r at *
      cases r with
      | false =>
        have HE := Lib.hid (HR.out rfl)
        clear HR HN
        go_wp2_with fail
        (with_reducible refine HO.out.mono ?_); rintro e w1 ⟨rfl, hb⟩
        have HB1 := Lib.hid (HBA.out.trans (hb.mono HBA.out.size))
        clear hb
        go_wp2_with fail
        go_ret
        exact ⟨by rw [HE.out]; rfl, HB1.out⟩
      | true =>
        have HN1 := Lib.hid (HN.out rfl)
        clear HR HN
        go_wp2_with fail
        (with_reducible refine HO.out.mono ?_); rintro e w1 ⟨rfl, hb⟩
        have HB1 := Lib.hid (HBA.out.trans (hb.mono HBA.out.size))
        clear hb
        go_wp2_with fail
        go_roundg g
        case measure => omega
        case rel => exact ⟨k + 1, by omega, by go_num, HB1.out, HN1.out⟩
end Go.Proofs.YtlmakdclebbbkaaGreat

namespace Go.Proofs.YtlmakdclebbbkaaGreat
open Go.RowKit
set_option linter.unusedVariables false
/-- Samples as cells: times and values. -/
def smps (l : List (Int × Int)) : List Value := l.flatMap fun x => [.int .i64 x.1, .int .i64 x.2]
theorem smps_length (l : List (Int × Int)) : (smps l).length = l.length * 2 := by
  induction l with
  | nil => rfl
  | cons x l ih => simp only [smps, List.flatMap_cons, List.length_append, List.length_cons, List.length_nil] at ih ⊢; omega
theorem smps_append (l m : List (Int × Int)) : smps (l ++ m) = smps l ++ smps m := by simp [smps]
theorem smps_one (l : List (Int × Int)) : ∀ u ∈ smps l, u.oneCell' = true := by
  intro u hu
  simp only [smps, List.mem_flatMap] at hu
  obtain ⟨x, _, hu⟩ := hu
  simp at hu
  rcases hu with rfl | rfl <;> rfl
theorem smps_get (l : List (Int × Int)) (p : Nat) (h : p < l.length) : (smps l)[p * 2]? = some (.int .i64 l[p].1) ∧ (smps l)[p * 2 + 1]? = some (.int .i64 l[p].2) := by
  have e : smps l = smps (l.take p) ++ (smps [l[p]] ++ smps (l.drop (p + 1))) := by
    rw [← smps_append, ← smps_append, List.singleton_append, ← List.drop_eq_getElem_cons h, List.take_append_drop]
  have hl : (smps (l.take p)).length = p * 2 := by rw [smps_length, List.length_take]; omega
  rw [e]
  refine ⟨?_, ?_⟩
  · rw [List.getElem?_append_right (by omega), hl, Nat.sub_self]; rfl
  · rw [List.getElem?_append_right (by omega), hl, show p * 2 + 1 - p * 2 = 1 by omega]; rfl
theorem Sees.smp {w : World} {B : Nat} {A : Option Addr} {n : Nat} {l : List (Int × Int)} (h : Sees w B 2 A n (smps l)) {k : Nat} (hk : k < n) :
    ∃ ad, ∃ hl : k < l.length, A = some ad ∧ w.cell? (ad.add (k * 2)) = some (.int .i64 l[k].1) ∧ w.cell? ⟨(ad.add (k * 2)).block, (ad.add (k * 2)).off + 1, none⟩ = some (.int .i64 l[k].2) := by
  have hl : k < l.length := by have := h.len; rw [smps_length] at this; omega
  obtain ⟨ad, e, _, hc⟩ := h.at_ (by omega)
  obtain ⟨h0, h1⟩ := smps_get l k hl
  exact ⟨ad, hl, e, hc _ _ h0, by rw [add_spelt _ _ _ (by omega)]; exact hc _ _ h1⟩
theorem Sees.smp_len {w : World} {B : Nat} {A : Option Addr} {n : Nat} {l : List (Int × Int)} (h : Sees w B 2 A n (smps l)) : l.length = n := by
  have := h.len; rw [smps_length] at this; omega
end Go.Proofs.YtlmakdclebbbkaaGreat

namespace Go.Proofs.YtlmakdclebbbkaaGreat
open Go.ChangeShapes Go.WideShapes Go.ChangeAt Go.RowKit
set_option linter.unusedVariables false
set_option maxRecDepth 100000
theorem Tryz.infoSmp : (Tryz.prog.info? 30).map (fun i => (i.zero, i.size, i.bytes)) = some (some (.agg #[.int .i64 0, .int .i64 0]), 2, 16) := by kernel_rfl
theorem grow_Smp_none (w : World) : Calls Tryz.prog 112 #[.slice none 0 0, .int .i64 0] w fun e w' => e = .returned (.slice none 0 0) ∧ w = w' := by
  go_enter Tryz.func112, Tryz.ntmps112
  go_wp2
  go_ret
  exact ⟨rfl, rfl⟩
theorem grow_Smp_some (n : Nat) (w : World) (h0 : 0 < n) (hn : n ≤ 1000000) :
    Calls Tryz.prog 112 #[.slice none 0 0, .int .i64 n] w (OwnAns 30 2 0 [] w) := by
  obtain ⟨i0, hi, hz0, hz1, hz2⟩ := info_parts Tryz.infoSmp
  have hzr : ∀ ty, (Builtin.append_ #[86, 3] ty #[.slice none 0 0, .int .i64 (n : Int)]).run Tryz.prog w =
      .ok (.slice (some ⟨w.heap.size, 0, none⟩) (0 + n) (grownCap w (0 + n) 0 30)) (w.drew.alloc (.cells (#[] ++ Builtin.zeroCells (.agg #[.int .i64 0, .int .i64 0] : Value).cells n ++ Builtin.zeroCells (.agg #[.int .i64 0, .int .i64 0] : Value).cells (grownCap w (0 + n) 0 30 - (0 + n))) 30)) := fun ty =>
    Lib.run_append_grow_zeros w 86 3 ty 30 i0 (.agg #[.int .i64 0, .int .i64 0]) .i64 .i64 Tryz.underlying86 Tryz.underlying3 hi hz0 none 0 0 [] (run_firstCells_none w.drew i0.size 0 0 0) n h0 (by rw [hz1]; decide) (by omega) (by omega) (by rw [hz2]; omega)
      (growslice_fits (by omega) (by rw [hz2]; omega))
  have hG := grownCap_ge w (0 + n) 0 30
  have hG2 := grownCap_le_maxLen w (0 + n) 0 30 (by unfold maxLen; omega)
  have hsz : (#[] ++ Builtin.zeroCells (.agg #[.int .i64 0, .int .i64 0] : Value).cells n ++ Builtin.zeroCells (.agg #[.int .i64 0, .int .i64 0] : Value).cells (grownCap w (0 + n) 0 30 - (0 + n))).size = grownCap w (0 + n) 0 30 * 2 := by
    have hzs : (.agg #[.int .i64 0, .int .i64 0] : Value).cells.size = 2 := rfl
    rw [Array.size_append, Array.size_append, size_zeroCells, size_zeroCells, hzs]; simp only [List.size_toArray, List.length_nil]; omega
  generalize grownCap w (0 + n) 0 30 = G at *
  rw [Nat.zero_add] at hG hsz
  simp only [Nat.zero_add] at hzr
  generalize (#[] ++ Builtin.zeroCells (.agg #[.int .i64 0, .int .i64 0] : Value).cells n ++ Builtin.zeroCells (.agg #[.int .i64 0, .int .i64 0] : Value).cells (G - n)) = X at *
  have hown : (w.drew.alloc (.cells X 30)).ownsRow w.heap.size 30 2 (.slice (some ⟨w.heap.size, 0, none⟩) 0 G) 0 [] := World.ownsRow_made w.drew X G (Nat.le_refl _) hG2 hsz
  have HO := Lib.hid hown; clear hown hsz hz0 hz1 hz2
  unfold maxLen at hG2
  go_enter Tryz.func112, Tryz.ntmps112
  go_wp2_with (at_builtin; refine Lib.wpList_append_run _ rfl _ _ _ _ rfl _ _ rfl rfl _ _ (hzr _) ?_)
  go_ret
  exact ownAns HO.out (((Below.refl _ w).drew).alloc (Nat.le_refl _) _) rfl (by omega) (by omega)
/-- A row of slices: what each of them reads as. -/
def PartsSmp (w : World) (B : Nat) (P : Option Addr) (np : Nat) (ls : List (List (Int × Int))) : Prop :=
  ls.length = np ∧ ∀ j l, ls[j]? = some l → ∃ ad A n c, P = some ad ∧ ad.block < B ∧ w.cell? (ad.add j) = some (.slice A n c) ∧ Sees w B 2 A n (smps l) ∧ n = l.length ∧ n ≤ c ∧ c ≤ 9223372036854775807
theorem PartsSmp.below {w w' : World} {B : Nat} {P : Option Addr} {np : Nat} {ls : List (List (Int × Int))} (h : PartsSmp w B P np ls) (hb : Below B w w') : PartsSmp w' B P np ls :=
  ⟨h.1, fun j l hj => by
    obtain ⟨ad, A, n, c, h1, h2, h3, h4, h5, h6, h7⟩ := h.2 j l hj
    exact ⟨ad, A, n, c, h1, h2, (hb.cell (by rw [add_block]; exact h2)).trans h3, h4.below hb, h5, h6, h7⟩⟩
theorem PartsSmp.more {w : World} {B B' : Nat} {P : Option Addr} {np : Nat} {ls : List (List (Int × Int))} (h : PartsSmp w B P np ls) (hb : B ≤ B') : PartsSmp w B' P np ls :=
  ⟨h.1, fun j l hj => by
    obtain ⟨ad, A, n, c, h1, h2, h3, h4, h5, h6, h7⟩ := h.2 j l hj
    exact ⟨ad, A, n, c, h1, by omega, h3, h4.more hb, h5, h6, h7⟩⟩
theorem flat_takeSmp {ls : List (List (Int × Int))} {j : Nat} {l : List (Int × Int)} (h : ls[j]? = some l) : (ls.take (j + 1)).flatten = (ls.take j).flatten ++ l := by
  have hj := (List.getElem?_eq_some_iff.1 h).1
  rw [List.take_succ_eq_append_getElem hj, List.flatten_append]
  have := (List.getElem?_eq_some_iff.1 h).2
  simp [this]
theorem flat_leSmp (ls : List (List (Int × Int))) (j : Nat) : ((ls.take j).flatten).length ≤ ls.flatten.length := by
  have h := congrArg List.flatten (List.take_append_drop j ls)
  rw [List.flatten_append] at h
  have := congrArg List.length h
  rw [List.length_append] at this
  omega
set_option maxHeartbeats 1000000 in
theorem concat_Smp (P : Option Addr) (np cp : Nat) (ls : List (List (Int × Int))) (w : World) (h : PartsSmp w w.heap.size P np ls) (hn : np ≤ 1000000) (hN : ls.flatten.length ≤ 1000000) :
    Calls Tryz.prog 66 #[.slice P np cp] w (OwnAns 30 2 ls.flatten.length (smps ls.flatten) w) := by
  have H := Lib.hid h; clear h
  obtain ⟨i0, hi, hz0, hz1, hz2⟩ := info_parts Tryz.infoSmp
  have HL := Lib.hid H.out.1
  generalize hNn : ls.flatten.length = N at *
  have HN := Lib.hid hNn; clear hNn
  go_enter Tryz.func66, Tryz.ntmps66
  go_wp2_with fail
  go_loop [3, 11] (fun s i => ∃ j m : Nat, j ≤ np ∧ i = .int .i64 j ∧ s = .int .i64 m ∧ m ≤ N ∧ m = (ls.take j).flatten.length) (fun _ i => np - (intOf i).toNat)
  case atStart => exact ⟨0, 0, Nat.zero_le _, rfl, rfl, Nat.zero_le _, by simp⟩
  case round =>
    obtain ⟨j, m, hj, rfl, rfl, hmN, hm⟩ := hrel
    have HM := Lib.hid hm; clear hm
    by_cases hlt : j < np
    · obtain ⟨l, hl⟩ : ∃ l, ls[j]? = some l := ⟨_, List.getElem?_eq_getElem (by have := HL.out; omega)⟩
      obtain ⟨ad, A, n, c, rfl, h2, h3, h4, h5, h6, h7⟩ := H.out.2 j l hl
      have hle : m + n ≤ N := by
        have h8 := flat_leSmp ls (j + 1)
        rw [flat_takeSmp hl, List.length_append, HN.out] at h8
        have := HM.out; omega
      have HLL := Lib.hid hl; have H5 := Lib.hid h5; clear hl h4 h5
      go_wp2_with fail
      go_round
      case rel => exact ⟨j + 1, m + n, by omega, by go_num, by go_num, by omega, by rw [flat_takeSmp HLL.out, List.length_append, HM.out, H5.out]⟩
      case measure => simp [intOf]; omega
    · obtain rfl : j = np := by omega
      have hmn : m = N := by rw [HM.out, List.take_of_length_le (by rw [HL.out]; exact Nat.le_refl _), HN.out]
      subst hmn
      clear HM
      by_cases h0 : m = 0
      · have hfl : ls.flatten = [] := List.eq_nil_of_length_eq_zero (by rw [HN.out]; exact h0)
        have HF := Lib.hid hfl
        subst h0
        go_wp2_with fail
        refine (grow_Smp_none w).mono ?_; rintro e w' ⟨rfl, rfl⟩
        go_wp2_with fail
        go_loopw [6, 27] (fun v i wr => ∃ j' : Nat, j' ≤ j ∧ i = .int .i64 j' ∧ wr.ownsRow w.heap.size 30 2 v (ls.take j').flatten.length (smps (ls.take j').flatten) ∧ Below w.heap.size w wr) (fun _ i _ => j - (intOf i).toNat)
        case atStart => exact ⟨0, Nat.zero_le _, rfl, by simpa [smps] using World.ownsRow_nil w w.heap.size 30 2, Below.refl _ _⟩
        case round =>
          obtain ⟨j', hj', rfl, hown, hbel⟩ := hrel
          have HBW := Lib.hid hbel; have hsz := hbel.size; clear hbel
          by_cases hlt2 : j' < j
          · obtain ⟨l, hl⟩ : ∃ l, ls[j']? = some l := ⟨_, List.getElem?_eq_getElem (by have := HL.out; omega)⟩
            obtain ⟨ad, A, n, c, rfl, h2, h3, h4, h5, h6, h7⟩ := (H.out.below HBW.out).2 j' l hl
            have hle : (ls.take j').flatten.length + n ≤ 0 := by
              have h8 := flat_leSmp ls (j' + 1)
              rw [flat_takeSmp hl, List.length_append, HN.out] at h8
              omega
            have HFT := Lib.hid (flat_takeSmp hl)
            have HS := Lib.hid h4; have H5 := Lib.hid h5; clear hl h4 h5
            have HLO := Lib.hid hown.lt
            have HO := Lib.hid hown; clear hown
            generalize (ls.take j').flatten = F at *
            go_wp2_with (at_builtin; refine wpList_append_sees rfl (.tmp 31) (.tmp 32) 86 rfl w.heap.size 30 i0 (.agg #[.int .i64 0, .int .i64 0]) 2 16 Tryz.underlying86 hi hz0 hz1 hz2 rfl (by decide) _ _ _ rfl HO.out w.heap.size A n _ (smps l) rfl HS.out (smps_one _) (by unfold maxLen; omega) (by omega) (by omega) ?_)
            intro v' w2 hown hg
            have hb := HBW.out.grown hg (by omega) (fun g hg => (HLO.out g hg).1)
            have H1 := Lib.hid hown; have H2 := Lib.hid hb; clear hown hb hg
            go_wp2_with fail
            go_roundw
            case rel => exact ⟨j' + 1, by omega, by go_num, by rw [HFT.out, List.length_append, ← H5.out, smps_append]; exact H1.out, H2.out⟩
            case measure => simp [intOf]; omega
          · obtain rfl : j' = j := by omega
            obtain ⟨A2, c2, rfl, hc3, hc4⟩ := own_slice hown
            rw [List.take_of_length_le (by rw [HL.out]; exact Nat.le_refl _)] at hown hc3
            rw [HN.out] at hown hc3
            rw [List.take_of_length_le (by rw [HL.out]; exact Nat.le_refl _), HN.out]
            have HO := Lib.hid hown; clear hown
            go_wp2_with fail
            go_ret
            exact ownAns HO.out HBW.out rfl hc3 hc4
      · have hpos : 0 < m := by omega
        clear h0
        go_wp2_with fail
        refine (grow_Smp_some m w hpos (by omega)).mono ?_; rintro e w1 ⟨A1, c1, rfl, hown1, hbel1, hc1, hc2⟩
        have HO1 := Lib.hid hown1; have HB1 := Lib.hid hbel1; clear hown1 hbel1
        go_wp2_with fail
        go_loopw [6, 27] (fun v i wr => ∃ j' : Nat, j' ≤ j ∧ i = .int .i64 j' ∧ wr.ownsRow w.heap.size 30 2 v (ls.take j').flatten.length (smps (ls.take j').flatten) ∧ Below w.heap.size w wr) (fun _ i _ => j - (intOf i).toNat)
        case atStart => exact ⟨0, Nat.zero_le _, rfl, by simpa [smps] using HO1.out, HB1.out⟩
        case round =>
          obtain ⟨j', hj', rfl, hown, hbel⟩ := hrel
          have HBW := Lib.hid hbel; have hsz := hbel.size; clear hbel
          by_cases hlt2 : j' < j
          · obtain ⟨l, hl⟩ : ∃ l, ls[j']? = some l := ⟨_, List.getElem?_eq_getElem (by have := HL.out; omega)⟩
            obtain ⟨ad, A, n, c, rfl, h2, h3, h4, h5, h6, h7⟩ := (H.out.below HBW.out).2 j' l hl
            have hle : (ls.take j').flatten.length + n ≤ m := by
              have h8 := flat_leSmp ls (j' + 1)
              rw [flat_takeSmp hl, List.length_append, HN.out] at h8
              omega
            have HFT := Lib.hid (flat_takeSmp hl)
            have HS := Lib.hid h4; have H5 := Lib.hid h5; clear hl h4 h5
            have HLO := Lib.hid hown.lt
            have HO := Lib.hid hown; clear hown
            generalize (ls.take j').flatten = F at *
            go_wp2_with (at_builtin; refine wpList_append_sees rfl (.tmp 31) (.tmp 32) 86 rfl w.heap.size 30 i0 (.agg #[.int .i64 0, .int .i64 0]) 2 16 Tryz.underlying86 hi hz0 hz1 hz2 rfl (by decide) _ _ _ rfl HO.out w.heap.size A n _ (smps l) rfl HS.out (smps_one _) (by unfold maxLen; omega) (by omega) (by omega) ?_)
            intro v' w2 hown hg
            have hb := HBW.out.grown hg (by omega) (fun g hg => (HLO.out g hg).1)
            have H1 := Lib.hid hown; have H2 := Lib.hid hb; clear hown hb hg
            go_wp2_with fail
            go_roundw
            case rel => exact ⟨j' + 1, by omega, by go_num, by rw [HFT.out, List.length_append, ← H5.out, smps_append]; exact H1.out, H2.out⟩
            case measure => simp [intOf]; omega
          · obtain rfl : j' = j := by omega
            obtain ⟨A2, c2, rfl, hc3, hc4⟩ := own_slice hown
            rw [List.take_of_length_le (by rw [HL.out]; exact Nat.le_refl _)] at hown hc3
            rw [HN.out] at hown hc3
            rw [List.take_of_length_le (by rw [HL.out]; exact Nat.le_refl _), HN.out]
            have HO := Lib.hid hown; clear hown
            go_wp2_with fail
            go_ret
            exact ownAns HO.out HBW.out rfl hc3 hc4
end Go.Proofs.YtlmakdclebbbkaaGreat
