/- What SpanTells asks of spans: ticks one by one, sums. -/
import Derived.Test.YtogdollfndpleaaSpanRoomy
namespace Go.Proofs.Ytogdollfndpleaa
open Go.ChangeShapes Go.WideShapes Go.ChangeAt Go.RowKit
set_option linter.unusedVariables false
set_option maxRecDepth 100000
theorem spK_spl2 (bs : List Bool) {k : Nat} (hk : k ≤ 200) : SpL (spK bs k) := ⟨(spK_spec bs k).2.1, fun y hy => (spK_bnd bs hk y hy).2.2⟩
theorem ofFold_filter : ∀ (l : List Int) (acc : List (Int × Int)), l.foldl ofStep acc = ((l.filter fun t => decide (0 ≤ t ∧ t < 200)).map fun t => (t, t)).foldl withS acc
  | [], _ => rfl
  | t :: l, acc => by
    rw [List.foldl_cons, ofFold_filter l]
    unfold ofStep
    by_cases h : 0 ≤ t ∧ t < 200
    · rw [if_pos h, List.filter_cons_of_pos (by simpa using h)]; rfl
    · rw [if_neg h, List.filter_cons_of_neg (by simpa using h)]
theorem inL_ticks (l : List Int) (t : Int) : InL (l.map fun t => (t, t)) t ↔ t ∈ l := by
  induction l with
  | nil => simp [InL]
  | cons x l ih =>
    simp only [List.map_cons, InL, ih, List.mem_cons]
    constructor
    · rintro (h | h)
      · exact .inl (by omega)
      · exact .inr h
    · rintro (h | h)
      · exact .inl (by omega)
      · exact .inr h
theorem ofF_spec (zs : List Int) : SpL (ofF zs) ∧ ∀ t, InL (ofF zs) t ↔ t ∈ zs ∧ 0 ≤ t ∧ t < 200 := by
  unfold ofF
  rw [ofFold_filter]
  have hs : (((isort zs).filter fun t => decide (0 ≤ t ∧ t < 200)).map fun t => (t, t)).Pairwise (fun x y : Int × Int => x.1 ≤ y.1) := by
    rw [List.pairwise_map]
    exact (isort_rises zs).filter _
  have hb : ∀ x ∈ (((isort zs).filter fun t => decide (0 ≤ t ∧ t < 200)).map fun t => (t, t)), 0 ≤ x.1 ∧ x.1 ≤ x.2 := by
    intro x hx
    obtain ⟨t, ht, rfl⟩ := List.mem_map.1 hx
    have := List.mem_filter.1 ht
    simp only [decide_eq_true_eq] at this
    exact ⟨this.2.1, Int.le_refl _⟩
  obtain ⟨h1, h2⟩ := fold_spec _ [] trivial (fun y hy => by simp at hy) hs hb
  have h3 : ∀ t, InL ((((isort zs).filter fun t => decide (0 ≤ t ∧ t < 200)).map fun t => (t, t)).foldl withS []) t ↔ t ∈ zs ∧ 0 ≤ t ∧ t < 200 := by
    intro t
    rw [h1, inL_ticks, List.mem_filter, (isort_perm zs).mem_iff]
    simp [InL]
  exact ⟨SpL.of h2 fun t ht => by have := (h3 t).1 ht; omega, h3⟩
theorem mem_runF (f t : Int) (j : Nat) : t ∈ runF f j ↔ f ≤ t ∧ t < f + j := by
  unfold runF
  rw [List.mem_map]
  constructor
  · rintro ⟨i, hi, rfl⟩
    have := List.mem_range.1 hi
    omega
  · rintro ⟨h1, h2⟩
    exact ⟨(t - f).toNat, List.mem_range.2 (by omega), by omega⟩
theorem mem_ticksL (l : List (Int × Int)) (t : Int) : t ∈ ticksL l ↔ InL l t := by
  induction l with
  | nil => simp [ticksL, InL]
  | cons x l ih =>
    have e : ticksL (x :: l) = runF x.1 (x.2 - x.1 + 1).toNat ++ ticksL l := by simp [ticksL]
    rw [e, List.mem_append, ih, mem_runF]
    simp only [InL]
    constructor
    · rintro (h | h)
      · exact .inl (by omega)
      · exact .inr h
    · rintro (h | h)
      · exact .inl (by omega)
      · exact .inr h
theorem ticksL_count {l : List (Int × Int)} (h : ∀ y ∈ l, y.1 ≤ y.2) : ((ticksL l).length : Int) = countF l := by
  induction l with
  | nil => rfl
  | cons x l ih =>
    have e : ticksL (x :: l) = runF x.1 (x.2 - x.1 + 1).toNat ++ ticksL l := by simp [ticksL]
    have h1 := h x (by simp)
    have h2 := ih fun y hy => h y (by simp [hy])
    rw [e, List.length_append, runF_len]
    simp only [countF]
    omega
theorem of_ticks {l : List (Int × Int)} (h : SpL l) : ofF (ticksL l) = l := by
  obtain ⟨h1, h2⟩ := ofF_spec (ticksL l)
  refine h1.eq h fun t => ?_
  rw [h2, mem_ticksL]
  exact ⟨fun g => g.1, fun g => ⟨g, by have := h.tick g; omega⟩⟩
theorem countF_append (l m : List (Int × Int)) : countF (l ++ m) = countF l + countF m := by
  induction l with
  | nil => simp [countF]
  | cons x l ih => simp only [List.cons_append, countF, ih]; omega
/-- How many of the first k flags are up. -/
def upTo (bs : List Bool) : Nat → Nat
  | 0 => 0
  | k + 1 => upTo bs k + if bs.getD k false = true then 1 else 0
theorem upTo_le (bs : List Bool) : ∀ k, upTo bs k ≤ k
  | 0 => Nat.le_refl _
  | k + 1 => by have := upTo_le bs k; unfold upTo; split <;> omega
theorem count_spK (bs : List Bool) : ∀ k : Nat, countF (spK bs k) = upTo bs k
  | 0 => rfl
  | k + 1 => by
    have ih := count_spK bs k
    have hl := (spK_last bs k).1
    unfold spK upTo
    by_cases hb : bs.getD k false = true
    · rw [if_pos hb, if_pos hb]
      rcases List.eq_nil_or_concat (spK bs k) with e | ⟨us, y, e⟩
      · rw [e] at ih ⊢
        rw [withS_nil]
        simp only [countF] at ih ⊢
        omega
      · rw [e, List.concat_eq_append] at ih hl ⊢
        have hy := hl y (by simp)
        rw [withS_last, if_pos hy]
        rw [countF_append] at ih
        split
        · rename_i hj
          rw [countF_append]
          simp only [countF] at ih ⊢
          simp only at hj
          omega
        · rw [countF_append, countF_append]
          simp only [countF] at ih ⊢
          omega
    · rw [if_neg hb, if_neg hb]; omega
theorem spK_not (bs : List Bool) {k : Nat} (hk : k ≤ 200) {t : Int} (ht : t < 0 ∨ (k : Int) ≤ t) : hasF (spK bs k) t = false := by
  cases hh : hasF (spK bs k) t with
  | false => rfl
  | true =>
    obtain ⟨j, h1, h2, _⟩ := ((spK_spec bs k).1 t).1 ((inL_iff _ _).1 hh)
    omega
/-- Flags made of flags. -/
def mixL (g : Bool → Bool → Bool) (x y : List Bool) (k : Nat) : List Bool := (List.range k).map fun i => g (x.getD i false) (y.getD i false)
theorem mixL_get (g : Bool → Bool → Bool) (x y : List Bool) {k i : Nat} (h : i < k) : (mixL g x y k).getD i false = g (x.getD i false) (y.getD i false) := by
  simp [mixL, List.getD_eq_getElem?_getD, h]
theorem mixL_step (g : Bool → Bool → Bool) (x y : List Bool) (k : Nat) (h : k < 60) :
    (mixL g x y k ++ List.replicate (60 - k) false).set k (g (x.getD k false) (y.getD k false)) = mixL g x y (k + 1) ++ List.replicate (60 - (k + 1)) false := by
  have hl : (mixL g x y k).length = k := by simp [mixL]
  rw [List.set_append_right _ _ (by omega), hl, Nat.sub_self, show 60 - k = (60 - (k + 1)) + 1 by omega, List.replicate_succ, List.set_cons_zero]
  simp [mixL, List.range_succ]
theorem mix_spans (g : Bool → Bool → Bool) (x y : List Bool) (hg : g false false = false) (t : Int) :
    InL (spK (mixL g x y 60) 60) t ↔ ∃ j : Nat, j < 60 ∧ t = j ∧ g (x.getD j false) (y.getD j false) = true := by
  rw [(spK_spec _ 60).1]
  constructor
  · rintro ⟨j, h1, h2, h3⟩; rw [mixL_get _ _ _ h1] at h3; exact ⟨j, h1, h2, h3⟩
  · rintro ⟨j, h1, h2, h3⟩; exact ⟨j, h1, h2, by rw [mixL_get _ _ _ h1]; exact h3⟩
theorem or_spans (x y : List Bool) (t : Int) : InL (spK (mixL (fun a b => a || b) x y 60) 60) t ↔ InL (spK x 60) t ∨ InL (spK y 60) t := by
  rw [mix_spans _ _ _ rfl, (spK_spec x 60).1, (spK_spec y 60).1]
  constructor
  · rintro ⟨j, h1, h2, h3⟩
    rw [Bool.or_eq_true] at h3
    rcases h3 with h | h
    · exact .inl ⟨j, h1, h2, h⟩
    · exact .inr ⟨j, h1, h2, h⟩
  · rintro (⟨j, h1, h2, h3⟩ | ⟨j, h1, h2, h3⟩)
    · exact ⟨j, h1, h2, by rw [h3]; rfl⟩
    · exact ⟨j, h1, h2, by rw [h3, Bool.or_true]⟩
theorem and_spans (x y : List Bool) (t : Int) : InL (spK (mixL (fun a b => a && b) x y 60) 60) t ↔ InL (spK x 60) t ∧ InL (spK y 60) t := by
  rw [mix_spans _ _ _ rfl, (spK_spec x 60).1, (spK_spec y 60).1]
  constructor
  · rintro ⟨j, h1, h2, h3⟩
    rw [Bool.and_eq_true] at h3
    obtain ⟨h4, h5⟩ := h3
    exact ⟨⟨j, h1, h2, h4⟩, j, h1, h2, h5⟩
  · rintro ⟨⟨j, h1, h2, h3⟩, j', h4, h5, h6⟩
    obtain rfl : j = j' := by omega
    exact ⟨j, h1, h2, by rw [h3, h6]; rfl⟩
theorem less_spans (x y : List Bool) (t : Int) : InL (spK (mixL (fun a b => a && !b) x y 60) 60) t ↔ InL (spK x 60) t ∧ ¬ InL (spK y 60) t := by
  rw [mix_spans _ _ _ rfl, (spK_spec x 60).1, (spK_spec y 60).1]
  constructor
  · rintro ⟨j, h1, h2, h3⟩
    rw [Bool.and_eq_true] at h3
    refine ⟨⟨j, h1, h2, h3.1⟩, fun ⟨j', h4, h5, h6⟩ => ?_⟩
    obtain rfl : j = j' := by omega
    rw [h6] at h3; simp at h3
  · rintro ⟨⟨j, h1, h2, h3⟩, h4⟩
    refine ⟨j, h1, h2, ?_⟩
    cases hy : y.getD j false with
    | true => exact (h4 ⟨j, h1, h2, hy⟩).elim
    | false => rw [h3]; rfl
/-- Which ticks are there. -/
def inF (zs : List Int) : List Bool := (List.range 200).map fun j : Nat => decide ((j : Int) ∈ zs)
theorem inF_spans (zs : List Int) : spK (inF zs) 200 = ofF zs := by
  obtain ⟨h1, h2⟩ := ofF_spec zs
  refine (spK_spl2 _ (by omega)).eq h1 fun t => ?_
  rw [h2, (spK_spec _ 200).1]
  have hget : ∀ j : Nat, j < 200 → (inF zs).getD j false = decide ((j : Int) ∈ zs) := fun j hj => by simp [inF, List.getD_eq_getElem?_getD, hj]
  constructor
  · rintro ⟨j, g1, g2, g3⟩
    rw [hget j g1] at g3
    simp only [decide_eq_true_eq] at g3
    exact ⟨by rw [g2]; exact g3, by omega, by omega⟩
  · rintro ⟨g1, g2, g3⟩
    refine ⟨t.toNat, by omega, by omega, ?_⟩
    rw [hget _ (by omega)]
    simp only [decide_eq_true_eq]
    rwa [show ((t.toNat : Nat) : Int) = t by omega]
theorem inF_nil : inF [] = List.replicate 200 false := by
  simp only [inF, List.not_mem_nil, decide_false]
  rw [List.map_const', List.length_range]
theorem inF_out {l : List Int} {z : Int} (h : ¬ (0 ≤ z ∧ z < 200)) : inF (l ++ [z]) = inF l := by
  unfold inF
  refine List.map_congr_left fun j hj => ?_
  have hj' := List.mem_range.1 hj
  rw [decide_eq_decide, List.mem_append, List.mem_singleton]
  exact ⟨fun g => g.elim id fun e => absurd (show 0 ≤ z ∧ z < 200 by omega) h, .inl⟩
theorem inF_set {l : List Int} {p : Nat} (h : p < 200) : (inF l).set p true = inF (l ++ [(p : Int)]) := by
  unfold inF
  refine List.ext_getElem? fun i => ?_
  by_cases hi : i < 200
  · by_cases hp : p = i
    · subst hp; simp [hi]
    · rw [List.getElem?_set_ne hp]
      simp only [List.getElem?_map, List.getElem?_range hi, Option.map_some]
      refine congrArg some ?_
      rw [decide_eq_decide, List.mem_append, List.mem_singleton]
      exact ⟨.inl, fun g => g.elim id fun e => absurd (show p = i by omega) hp⟩
  · rw [List.getElem?_eq_none (by simp; omega), List.getElem?_eq_none (by simp; omega)]
end Go.Proofs.Ytogdollfndpleaa
