/- The walk of SpanTurns, out of the contracts. -/
import Derived.Test.YtogdollfndpleaaSpanRef
import Derived.Deep.CutBlock
namespace Go.Proofs.Ytogdollfndpleaa
open Go.ChangeShapes Go.WideShapes Go.ChangeAt Go.RowKit
set_option linter.unusedVariables false
set_option maxRecDepth 100000
theorem rise_mem {lo : Int} {l : List (Int × Int)} (h : Rise lo l) {y : Int × Int} (hy : y ∈ l) : lo ≤ y.1 ∧ y.1 ≤ y.2 := by
  induction l generalizing lo with
  | nil => cases hy
  | cons x r ih =>
    rcases List.mem_cons.1 hy with rfl | hy
    · exact ⟨h.1, h.2.1⟩
    · have := ih h.2.2 hy; have := h.1; have := h.2.1; omega
theorem inL_mem {l : List (Int × Int)} {y : Int × Int} (hy : y ∈ l) {t : Int} (h1 : y.1 ≤ t) (h2 : t ≤ y.2) : InL l t := by
  induction l with
  | nil => cases hy
  | cons x r ih =>
    rcases List.mem_cons.1 hy with rfl | hy
    · exact .inl ⟨h1, h2⟩
    · exact .inr (ih hy)
theorem clip_id {l : List (Int × Int)} (h : ∀ y ∈ l, 0 ≤ y.1 ∧ y.1 ≤ y.2 ∧ y.2 ≤ 199) : clip l = l := by
  induction l with
  | nil => rfl
  | cons x r ih =>
    have hx := h x (by simp)
    have h1 : clip (x :: r) = clip [x] ++ clip r := by simp [clip]
    rw [h1, ih fun y hy => h y (by simp [hy]), show x = (x.1, x.2) from rfl, clip_one hx.1 hx.2.1 hx.2.2]; rfl
theorem spK_bnd (bs : List Bool) {k : Nat} (hk : k ≤ 200) : ∀ y ∈ spK bs k, 0 ≤ y.1 ∧ y.1 ≤ y.2 ∧ y.2 ≤ 199 := fun y hy => by
  have h1 := rise_mem (spK_spec bs k).2.1 hy
  have h2 := (spK_spec bs k).2.2 y hy
  omega
theorem spK_has (bs : List Bool) (k i : Nat) (hi : i < k) : hasF (spK bs k) i = bs.getD i false := by
  have h := (spK_spec bs k).1 i
  cases hb : bs.getD i false with
  | true => exact (inL_iff _ _).2 (h.2 ⟨i, hi, rfl, hb⟩)
  | false =>
    cases hh : hasF (spK bs k) i with
    | false => rfl
    | true =>
      obtain ⟨j, h1, h2, h3⟩ := h.1 ((inL_iff _ _).1 hh)
      obtain rfl : i = j := by omega
      rw [hb] at h3; cases h3
theorem less_sp (x y : List Bool) : lessT (spK y 60) (spK x 60) = lessF (spK y 60) (spK x 60) := by
  unfold lessT
  rw [clip_id (spK_bnd y (by omega)), clip_id (spK_bnd x (by omega))]
theorem less_sp_bnd (x y : List Bool) : ∀ z ∈ lessF (spK y 60) (spK x 60), 0 ≤ z.1 ∧ z.1 ≤ z.2 ∧ z.2 ≤ 199 := fun z hz => by
  obtain ⟨h1, h2⟩ := lessF_spec (spK y 60) 0 (spK_spec y 60).2.1 (spK x 60) 0 (spK_spec x 60).2.1
  have h3 := rise_mem h2 hz
  obtain ⟨⟩ := h1 z.2
  have h4 := ((h1 z.2).1 (inL_mem hz h3.2 (Int.le_refl _))).1
  obtain ⟨j, h5, h6, _⟩ := ((spK_spec y 60).1 z.2).1 h4
  omega
theorem less_sp_not (x y : List Bool) {t : Int} (h : hasF (lessF (spK y 60) (spK x 60)) t = true) : hasF (spK x 60) t = false := by
  obtain ⟨h1, _⟩ := lessF_spec (spK y 60) 0 (spK_spec y 60).2.1 (spK x 60) 0 (spK_spec x 60).2.1
  have h2 := ((h1 t).1 ((inL_iff _ _).1 h)).2
  cases hh : hasF (spK x 60) t with
  | false => rfl
  | true => exact (h2 ((inL_iff _ _).1 hh)).elim
theorem state_pend_is (p f : List (Int × Int)) (t : Int) : (stateF p f t == 1) = hasF p t := by
  unfold stateF
  cases h1 : hasF p t <;> cases h2 : hasF f t <;> simp
theorem state_fire_is (p f : List (Int × Int)) (t : Int) (h : hasF f t = true → hasF p t = false) : (stateF p f t == 2) = hasF f t := by
  unfold stateF
  cases h2 : hasF f t with
  | true => rw [h h2]; simp
  | false => cases h1 : hasF p t <;> simp
theorem turnsG_ge (p f : List (Int × Int)) : ∀ (n : Nat) (a t : Int), ∀ z ∈ turnsG p f a t n, t ≤ z.1
  | 0, _, _, z, hz => by cases hz
  | n + 1, a, t, z, hz => by
    rw [turnsG] at hz
    rcases List.mem_append.1 hz with hz | hz
    · split at hz
      · cases hz
      · rw [List.mem_singleton] at hz; subst hz; exact Int.le_refl _
    · have := turnsG_ge p f n _ (t + 1) z hz; omega
theorem turnsG_len (p f : List (Int × Int)) : ∀ (n : Nat) (a t : Int), (turnsG p f a t n).length ≤ n
  | 0, _, _ => by simp [turnsG]
  | n + 1, a, t => by
    have := turnsG_len p f n (stateF p f t) (t + 1)
    rw [turnsG, List.length_append]
    split
    · simp; omega
    · simp; omega
theorem rise_len {lo hi : Int} {l : List (Int × Int)} (h : Rise lo l) (hh : ∀ y ∈ l, y.2 ≤ hi) : l = [] ∨ lo + 2 * (l.length : Int) ≤ hi + 2 := by
  induction l generalizing lo with
  | nil => exact .inl rfl
  | cons x r ih =>
    have h1 := h.1; have h2 := h.2.1
    have h3 := hh x (by simp)
    rcases ih h.2.2 (fun y hy => hh y (by simp [hy])) with rfl | h4
    · right; simp; omega
    · right; rw [List.length_cons]; omega
theorem less_sp_len (x y : List Bool) : (lessF (spK y 60) (spK x 60)).length ≤ 1000 := by
  obtain ⟨_, h2⟩ := lessF_spec (spK y 60) 0 (spK_spec y 60).2.1 (spK x 60) 0 (spK_spec x 60).2.1
  rcases rise_len h2 (hi := 199) (fun z hz => (less_sp_bnd x y z hz).2.2) with h | h
  · rw [h]; simp
  · omega
end Go.Proofs.Ytogdollfndpleaa
