/- What VecGroups wants: four kinds of groups are one list of groups. No program in it. -/
import Derived.Test.YtbndmmfpoljeaaaVecStart
namespace Go.Proofs.Ytbndmmfpoljeaaa
open Go.ChangeShapes Go.WideShapes Go.ChangeAt Go.RowKit
set_option linter.unusedVariables false
set_option linter.unusedSimpArgs false
set_option maxRecDepth 100000
def sumI : List Int → Int
  | [] => 0
  | x :: l => x + sumI l
theorem sumI_app (a b : List Int) : sumI (a ++ b) = sumI a + sumI b := by
  induction a with
  | nil => simp [sumI]
  | cons x a ih => rw [List.cons_append, sumI, sumI, ih]; omega
theorem sumI_perm {a b : List Int} (h : a.Perm b) : sumI a = sumI b := by
  induction h with
  | nil => rfl
  | cons x _ ih => rw [sumI, sumI, ih]
  | swap x y l => simp only [sumI]; omega
  | trans _ _ h1 h2 => rw [h1, h2]
theorem sumI_set {l : List Int} {x : Int} (y : Int) : ∀ {i : Nat}, l[i]? = some x → sumI (l.set i y) = sumI l - x + y := by
  induction l with
  | nil => intro i h; cases h
  | cons z l ih =>
    intro i h
    cases i with
    | zero => simp at h; subst h; simp only [List.set_cons_zero, sumI]; omega
    | succ i => simp at h; simp only [List.set_cons_succ, sumI]; rw [ih (by simpa using h)]; omega
/-- A group: how many, their sum, the least, the greatest. -/
abbrev Gr := List Lbl × (Int × Int × Int × Int)
def keyJ (g : Gr) : List UInt8 := printL g.1
def stepJ (ns : List ByteArray) (s : List Gr) (p : Pt) : List Gr :=
  match idxG (s.map keyJ) (printL (keepL ns p.1)) with
  | none => s ++ [(keepL ns p.1, (1, p.2, p.2, p.2))]
  | some i => match s[i]? with
    | none => s
    | some g => s.set i (g.1, (g.2.1 + 1, g.2.2.1 + p.2, min g.2.2.2.1 p.2, max g.2.2.2.2 p.2))
def joinJ (ns : List ByteArray) (ps : List Pt) : List Gr := ps.foldl (stepJ ns) []
theorem joinJ_snoc (ns : List ByteArray) (ps : List Pt) (p : Pt) : joinJ ns (ps ++ [p]) = stepJ ns (joinJ ns ps) p := by unfold joinJ; rw [List.foldl_append]; rfl
theorem stepJ_cases (ns : List ByteArray) (s : List Gr) (p : Pt) :
    (idxG (s.map keyJ) (printL (keepL ns p.1)) = none ∧ stepJ ns s p = s ++ [(keepL ns p.1, (1, p.2, p.2, p.2))]) ∨
    ∃ i g, idxG (s.map keyJ) (printL (keepL ns p.1)) = some i ∧ s[i]? = some g ∧ stepJ ns s p = s.set i (g.1, (g.2.1 + 1, g.2.2.1 + p.2, min g.2.2.2.1 p.2, max g.2.2.2.2 p.2)) := by
  cases e : idxG (s.map keyJ) (printL (keepL ns p.1)) with
  | none => exact .inl ⟨rfl, by unfold stepJ; rw [e]⟩
  | some i =>
    have h := (idxG_some e).1
    rw [List.length_map] at h
    refine .inr ⟨i, s[i], rfl, List.getElem?_eq_getElem h, ?_⟩
    unfold stepJ; rw [e]; simp only [List.getElem?_eq_getElem h]
structure GrOk (m : Nat) (g : Gr) : Prop where
  c1 : 1 ≤ g.2.1
  cm : g.2.1 ≤ m
  lo : -9 ≤ g.2.2.2.1
  le : g.2.2.2.1 ≤ g.2.2.2.2
  hi : g.2.2.2.2 ≤ 20
  sl : g.2.1 * g.2.2.2.1 ≤ g.2.2.1
  sh : g.2.2.1 ≤ g.2.1 * g.2.2.2.2
  s0 : -9 * g.2.1 ≤ g.2.2.1
  s1 : g.2.2.1 ≤ 20 * g.2.1
theorem GrOk.more {m : Nat} {g : Gr} (h : GrOk m g) : GrOk (m + 1) g := ⟨h.c1, by have := h.cm; omega, h.lo, h.le, h.hi, h.sl, h.sh, h.s0, h.s1⟩
theorem GrOk.one (m : Nat) (l : List Lbl) {v : Int} (h : -9 ≤ v ∧ v ≤ 20) : GrOk (m + 1) (l, (1, v, v, v)) := ⟨by simp only; omega, by simp only; omega, h.1, by simp only; omega, h.2, by simp only; omega, by simp only; omega, by simp only; omega, by simp only; omega⟩
theorem GrOk.step {m : Nat} {g : Gr} (h : GrOk m g) {v : Int} (hv : -9 ≤ v ∧ v ≤ 20) : GrOk (m + 1) (g.1, (g.2.1 + 1, g.2.2.1 + v, min g.2.2.2.1 v, max g.2.2.2.2 v)) := by
  obtain ⟨c1, cm, lo, le, hi, sl, sh, s0, s1⟩ := h
  have hc : 0 ≤ g.2.1 := by omega
  have a := Int.mul_le_mul_of_nonneg_left (show min g.2.2.2.1 v ≤ g.2.2.2.1 by omega) hc
  have b := Int.mul_le_mul_of_nonneg_left (show g.2.2.2.2 ≤ max g.2.2.2.2 v by omega) hc
  refine ⟨?_, ?_, ?_, ?_, ?_, ?_, ?_, ?_, ?_⟩ <;> simp only [Int.add_mul, Int.one_mul] <;> omega
structure JOk (ps : List Pt) (s : List Gr) : Prop where
  each : ∀ g ∈ s, GrOk ps.length g
  len : s.length ≤ ps.length
  cs : sumI (s.map fun g => g.2.1) = ps.length
  ss : sumI (s.map fun g => g.2.2.1) = sumI (ps.map fun p => p.2)
  few : ∀ g ∈ s, g.1.length ≤ 1000
theorem joinJ_ok (ns : List ByteArray) (ps : List Pt) (h : ∀ p ∈ ps, -9 ≤ p.2 ∧ p.2 ≤ 20) (hf : ∀ p ∈ ps, p.1.length ≤ 1000) : JOk ps (joinJ ns ps) := by
  induction ps using list_snoc_ind with
  | h0 => exact ⟨fun g hg => absurd hg List.not_mem_nil, Nat.le_refl _, rfl, rfl, fun g hg => absurd hg List.not_mem_nil⟩
  | h1 ps p ih =>
    obtain ⟨i1, i2, i3, i4, i5⟩ := ih (fun q hq => h q (List.mem_append_left _ hq)) (fun q hq => hf q (List.mem_append_left _ hq))
    have hp := h p (List.mem_append_right _ List.mem_cons_self)
    have hpf := hf p (List.mem_append_right _ List.mem_cons_self)
    have hkl : (keepL ns p.1).length ≤ 1000 := Nat.le_trans (List.length_filter_le _ _) hpf
    rw [joinJ_snoc]
    have hl : (ps ++ [p]).length = ps.length + 1 := by simp
    rcases stepJ_cases ns (joinJ ns ps) p with ⟨_, e⟩ | ⟨i, g, _, hg, e⟩
    · rw [e]
      refine ⟨fun g hg => ?_, ?_, ?_, ?_, fun g hg => ?_⟩
      · rw [hl]
        rcases List.mem_append.1 hg with hg | hg
        · exact (i1 g hg).more
        · rw [List.mem_singleton] at hg; subst hg; exact GrOk.one _ _ hp
      · simp; exact i2
      · rw [List.map_append, sumI_app, i3, hl]; simp [sumI]
      · rw [List.map_append, sumI_app, i4, List.map_append, sumI_app]; simp [sumI]
      · rcases List.mem_append.1 hg with hg | hg
        · exact i5 g hg
        · rw [List.mem_singleton] at hg; subst hg; exact hkl
    · rw [e]
      have hgm := List.mem_of_getElem? hg
      refine ⟨fun x hx => ?_, ?_, ?_, ?_, fun x hx => ?_⟩
      · rw [hl]
        rcases List.mem_or_eq_of_mem_set hx with hx | rfl
        · exact (i1 x hx).more
        · exact (i1 g hgm).step hp
      · rw [List.length_set, hl]; omega
      · rw [List.map_set, sumI_set (x := g.2.1) _ (by rw [List.getElem?_map, hg]; rfl), i3, hl]; push_cast; omega
      · rw [List.map_set, sumI_set (x := g.2.2.1) _ (by rw [List.getElem?_map, hg]; rfl), i4, List.map_append, sumI_app]; simp [sumI]; omega
      · rcases List.mem_or_eq_of_mem_set hx with hx | rfl
        · exact i5 x hx
        · exact i5 g hgm
def selJ (k : Int) (g : Gr) : Pt := (g.1, if k = 17 then g.2.2.1 else if k = 18 then g.2.2.2.1 else if k = 19 then g.2.2.2.2 else g.2.1)
theorem txtG_sel (k : Int) (s : List Gr) : txtG (s.map (selJ k)) = s.map keyJ := by unfold txtG; rw [List.map_map]; rfl
theorem groupF_join {k : Int} (hk : k = 17 ∨ k = 18 ∨ k = 19 ∨ k = 20) (ns : List ByteArray) (ps : List Pt) (h : ∀ p ∈ ps, -9 ≤ p.2 ∧ p.2 ≤ 20) (hf : ∀ p ∈ ps, p.1.length ≤ 1000) (hn : ps.length ≤ 1000) : groupF k ns ps = ((joinJ ns ps).map (selJ k), 0) := by
  induction ps using list_snoc_ind with
  | h0 => rfl
  | h1 ps p ih =>
    have h' := fun q hq => h q (List.mem_append_left _ hq)
    have hf' := fun q hq => hf q (List.mem_append_left _ hq)
    have hn' : ps.length ≤ 1000 := by simp at hn; omega
    have hok := joinJ_ok ns ps h' hf'
    have hp := h p (List.mem_append_right _ List.mem_cons_self)
    rw [groupF_snoc, ih h' hf' hn', joinJ_snoc]
    rcases stepJ_cases ns (joinJ ns ps) p with ⟨hi, e⟩ | ⟨i, g, hi, hg, e⟩
    · rw [e, stepG_none (by rw [txtG_sel]; exact hi), List.map_append]
      unfold begunF selJ
      rcases hk with rfl | rfl | rfl | rfl <;> simp
    · have hgm := hok.each g (List.mem_of_getElem? hg)
      obtain ⟨c1, cm, lo, le, hi2, sl, sh, s0, s1⟩ := hgm
      rw [e, stepG_some (g := selJ k g) (i := i) (by rw [txtG_sel]; exact hi) (by rw [List.getElem?_map, hg]; rfl), List.map_set]
      have hga : gatherF k (selJ k g).2 p.2 = ((selJ k (g.1, (g.2.1 + 1, g.2.2.1 + p.2, min g.2.2.2.1 p.2, max g.2.2.2.2 p.2))).2, 0) := by
        have hw : I64 (g.2.2.1 + p.2) := by unfold I64; omega
        unfold gatherF selJ
        rcases hk with rfl | rfl | rfl | rfl
        · simp [nV_in hw, nE_in hw]
        · simp
        · simp
        · simp
      rw [hga, if_pos rfl]
      rfl
/-- The groups in order. -/
structure GroupsF (ps : List Pt) (ns : List ByteArray) (S : List Gr) : Prop where
  ok : JOk ps S
  r : ∀ k, k = 17 ∨ k = 18 ∨ k = 19 ∨ k = 20 → groupR k ns ps = (S.map (selJ k), 0)
theorem groupsF_of {ps : List Pt} (hp : VecOk ps) (ns : List ByteArray) : ∃ S, GroupsF ps ns S := by
  have hf : ∀ p ∈ ps, p.1.length ≤ 1000 := fun p h => by have := hp.few p h; omega
  have hok := joinJ_ok ns ps hp.vals hf
  have hpm := sortK_perm keyJ (joinJ ns ps)
  refine ⟨sortK keyJ (joinJ ns ps), ⟨fun g hg => hok.each g ((sortK_mem _ _ _).1 hg), by rw [sortK_length]; exact hok.len, by rw [sumI_perm (hpm.map _)]; exact hok.cs, by rw [sumI_perm (hpm.map _)]; exact hok.ss, fun g hg => hok.few g ((sortK_mem _ _ _).1 hg)⟩, fun k hk => ?_⟩
  unfold groupR
  rw [groupF_join hk ns ps hp.vals hf (by have := hp.len; omega), if_pos rfl]
  unfold sortP
  rw [sortK_map]
  rfl
theorem keep_none (l : List Lbl) : keepL [] l = [] := by
  unfold keepL
  rw [List.filter_eq_nil_iff]
  intro x _; simp [hasS]
theorem join_nil_sets (ps : List Pt) : ∀ g ∈ joinJ [] ps, g.1 = [] := by
  induction ps using list_snoc_ind with
  | h0 => exact fun g hg => absurd hg List.not_mem_nil
  | h1 ps q ih =>
    intro g hg
    rw [joinJ_snoc] at hg
    rcases stepJ_cases [] (joinJ [] ps) q with ⟨_, e⟩ | ⟨i, g2, _, hg2, e⟩
    · rw [e] at hg
      rcases List.mem_append.1 hg with hg | hg
      · exact ih g hg
      · rw [List.mem_singleton] at hg; subst hg; exact keep_none _
    · rw [e] at hg
      rcases List.mem_or_eq_of_mem_set hg with hg | rfl
      · exact ih g hg
      · exact ih g2 (List.mem_of_getElem? hg2)
theorem join_none (ps : List Pt) (h : ∀ p ∈ ps, -9 ≤ p.2 ∧ p.2 ≤ 20) (hf : ∀ p ∈ ps, p.1.length ≤ 1000) : (joinJ [] ps).length = if ps.length = 0 then 0 else 1 := by
  induction ps using list_snoc_ind with
  | h0 => rfl
  | h1 ps p ih =>
    have ih := ih (fun q hq => h q (List.mem_append_left _ hq)) (fun q hq => hf q (List.mem_append_left _ hq))
    rw [joinJ_snoc, if_neg (by simp)]
    have hk := join_nil_sets ps
    rcases stepJ_cases [] (joinJ [] ps) p with ⟨hi, e⟩ | ⟨i, g, hi, hg, e⟩
    · rw [idxG_none, keep_none] at hi
      cases hj : joinJ [] ps with
      | nil => rw [hj] at e; rw [e]; rfl
      | cons g s =>
        refine absurd ?_ hi
        rw [List.mem_map]
        refine ⟨g, by rw [hj]; exact List.mem_cons_self, ?_⟩
        unfold keyJ; rw [hk g (by rw [hj]; exact List.mem_cons_self)]
    · rw [e, List.length_set]
      have hl := (List.getElem?_eq_some_iff.1 hg).1
      split at ih <;> omega
/-- All in one group. -/
theorem group_all {ps : List Pt} (hp : VecOk ps) : ∃ L, groupR 17 [] ps = (L, 0) ∧ ((ps.length = 0 ∧ L = []) ∨ (0 < ps.length ∧ ∃ l, L = [(l, sumI (ps.map fun p => p.2))])) ∧ Fine L := by
  have hf : ∀ p ∈ ps, p.1.length ≤ 1000 := fun p h => by have := hp.few p h; omega
  have hl := join_none ps hp.vals hf
  have hok := joinJ_ok [] ps hp.vals hf
  have hss := hok.ss
  refine ⟨_, by unfold groupR; rw [groupF_join (.inl rfl) [] ps hp.vals hf (by have := hp.len; omega), if_pos rfl], ?_, ?_⟩
  · by_cases h0 : ps.length = 0
    · rw [if_pos h0] at hl
      refine .inl ⟨h0, ?_⟩
      rw [List.eq_nil_of_length_eq_zero hl]; rfl
    · rw [if_neg h0] at hl
      refine .inr ⟨by omega, ?_⟩
      obtain ⟨g, hg⟩ := List.length_eq_one_iff.1 hl
      rw [hg] at hss ⊢
      refine ⟨g.1, ?_⟩
      rw [← hss]
      simp [sumI, selJ, sortP, sortK, insK, insAt]
  · refine Fine.sort ⟨fun x hx => ?_, fun x hx => ?_⟩
    · rw [List.mem_map] at hx; obtain ⟨g, hg, rfl⟩ := hx; exact hok.few g hg
    · rw [List.mem_map] at hx; obtain ⟨g, hg, rfl⟩ := hx
      have := hok.each g hg
      obtain ⟨c1, cm, lo, le, hi2, sl, sh, s0, s1⟩ := this
      have := hp.len
      have e : (selJ 17 g).2 = g.2.2.1 := by unfold selJ; rfl
      rw [e]; unfold I64; omega
/-- Each in its own group. -/
theorem group_own {ps : List Pt} (hp : VecOk ps) (ns : List ByteArray) (hns : ∀ p ∈ ps, keepL ns p.1 = p.1) : groupR 17 ns ps = (sortP ps, 0) := by
  have key : ∀ qs rs, ps = qs ++ rs → groupF 17 ns qs = (qs, 0) := by
    intro qs
    induction qs using list_snoc_ind with
    | h0 => intro _ _; rfl
    | h1 qs q ih =>
      intro rs e
      have hq : q ∈ ps := by rw [e]; simp
      rw [groupF_snoc, ih (q :: rs) (by rw [e]; simp), stepG_none (by
        rw [idxG_none, hns q hq]
        intro hm
        unfold txtG at hm
        rw [List.mem_map] at hm
        obtain ⟨x, hx, hx2⟩ := hm
        have hxp : x ∈ ps := by rw [e]; simp [hx]
        have h3 := print_inj (hp.right x hxp) (hp.right q hq) hx2
        have ha := hp.apart
        rw [e] at ha
        have ha := (List.pairwise_append.1 (List.pairwise_append.1 ha).1).2.2 x hx q (by simp)
        exact ha h3), hns q hq]
      simp [begunF]
  unfold groupR
  rw [key ps [] (by simp), if_pos rfl]
end Go.Proofs.Ytbndmmfpoljeaaa
