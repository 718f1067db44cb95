/- Where a store may change: the plain mathematics. -/
import Derived.Test.YthbinnbnmckmfaaStoTwo
import Derived.Test.YthbinnbnmckmfaaChgMath
namespace Go.Proofs.Ythbinnbnmckmfaa
open Go.ChangeShapes Go.WideShapes Go.ChangeAt Go.RowKit Go.Lib Go.Sort
set_option linter.unusedVariables false
set_option maxRecDepth 100000
theorem compactI_ok {zs : List Int} (hs : zs.Pairwise fun x y => x ≤ y) : ∀ m, m ≤ zs.length → (∀ x, x ∈ compactUpTo zs.toArray m ↔ x ∈ zs.take m) ∧ (compactUpTo zs.toArray m).Pairwise (· < ·)
  | 0, _ => ⟨fun x => by simp [compactUpTo], by simp [compactUpTo]⟩
  | m + 1, hm => by
    obtain ⟨h1, h2⟩ := compactI_ok hs m (by omega)
    have hml : m < zs.length := by omega
    have hg : zs.toArray[m]! = zs[m] := by simp [hml]
    rw [compactUpTo_succ, hg, List.take_succ_eq_append_getElem hml]
    by_cases hk : keeps zs.toArray m = true
    · rw [if_pos hk]
      refine ⟨fun x => by rw [List.mem_append, List.mem_append, h1], ?_⟩
      rw [List.pairwise_append]
      refine ⟨h2, by simp, fun x hx y hy => ?_⟩
      rw [List.mem_singleton] at hy; subst hy
      rw [h1] at hx
      obtain ⟨j, hj, rfl⟩ := List.getElem_of_mem hx
      rw [List.length_take] at hj
      rw [List.getElem_take]
      have hle : ∀ p q (hp : p < zs.length) (hq : q < zs.length), p ≤ q → zs[p] ≤ zs[q] := by
        intro p q hp hq hpq
        rcases Nat.lt_or_ge p q with h | h
        · exact List.pairwise_iff_getElem.1 hs p q hp hq h
        · have : p = q := by omega
          subst this; exact Int.le_refl _
      have hne : zs[m] ≠ zs[m - 1] := by
        have h3 := hk
        unfold keeps at h3
        rw [decide_eq_true_eq] at h3
        rcases h3 with h3 | h3
        · omega
        · rw [hg] at h3
          rwa [show zs.toArray[m - 1]! = zs[m - 1] by simp [show m - 1 < zs.length by omega]] at h3
      have h5 := hle j (m - 1) (by omega) (by omega) (by omega)
      have h6 := hle (m - 1) m (by omega) hml (by omega)
      show zs[j] < zs[m]
      rcases Int.lt_or_eq_of_le (Int.le_trans h5 h6) with h7 | h7
      · exact h7
      · exact absurd (Int.le_antisymm (h7 ▸ h5) h6) hne
    · rw [if_neg hk, List.append_nil]
      refine ⟨fun x => ?_, h2⟩
      rw [h1, List.mem_append, List.mem_singleton]
      refine ⟨.inl, fun h => ?_⟩
      rcases h with h | h
      · exact h
      · have h3 : ¬ (m = 0 ∨ zs.toArray[m]! ≠ zs.toArray[m - 1]!) := by unfold keeps at hk; simpa using hk
        have hm0 : m ≠ 0 := fun h => h3 (.inl h)
        have heq : zs.toArray[m]! = zs.toArray[m - 1]! := Classical.byContradiction fun h => h3 (.inr h)
        rw [hg, show zs.toArray[m - 1]! = zs[m - 1] by simp [show m - 1 < zs.length by omega]] at heq
        rw [h, heq]
        exact List.mem_iff_getElem.2 ⟨m - 1, by rw [List.length_take]; omega, by rw [List.getElem_take]⟩
theorem chgS_ok (D : List SK) (look f t : Int) (ms : List Mtc) : (∀ x, x ∈ chgS D look f t ms ↔ x ∈ D.flatMap (chgOne look f t ms)) ∧ (chgS D look f t ms).Pairwise (· < ·) := by
  unfold chgS
  obtain ⟨h1, h2⟩ := compactI_ok (isort_rises (D.flatMap (chgOne look f t ms))) _ (Nat.le_refl _)
  refine ⟨fun x => ?_, h2⟩
  show x ∈ compactUpTo _ _ ↔ _
  rw [h1, List.take_length]
  exact (isort_perm _).mem_iff
theorem chgS_in {D : List SK} {look f t : Int} {ms : List Mtc} : ∀ x ∈ chgS D look f t ms, f ≤ x ∧ x ≤ t := fun x hx => by
  rw [(chgS_ok D look f t ms).1, List.mem_flatMap] at hx
  obtain ⟨y, _, hx⟩ := hx
  unfold chgOne at hx
  split at hx
  · exact ((mem_chg look f t y.2 x).1 hx).1
  · cases hx
theorem pickS_same {D : List SK} {look f t z : Int} {ms : List Mtc} (hz : z ∉ chgS D look f t ms) (h1 : f ≤ z) (h2 : z ≤ t) : pickS D z look ms = pickS D (z - 1) look ms := by
  rw [(chgS_ok D look f t ms).1] at hz
  unfold pickS
  have key : ∀ x ∈ D, pickOne z look ms x = pickOne (z - 1) look ms x := fun x hx => by
    unfold pickOne
    cases ha : allF x.1 ms with
    | false => rfl
    | true =>
      have hn : z ∉ chg look f t x.2 := fun h => hz (List.mem_flatMap.2 ⟨x, hx, by unfold chgOne; rw [if_pos ha]; exact h⟩)
      have hs : sUp x.2 z x.2.length = false := by
        cases hq : sUp x.2 z x.2.length with
        | false => rfl
        | true => exact absurd ((mem_chg look f t x.2 z).2 ⟨⟨h1, h2⟩, .inl hq⟩) hn
      have he : eUp x.2 look z x.2.length = false := by
        cases hq : eUp x.2 look z x.2.length with
        | false => rfl
        | true => exact absurd ((mem_chg look f t x.2 z).2 ⟨⟨h1, h2⟩, .inr hq⟩) hn
      simp only [at_same hs he]
  clear hz
  induction D with
  | nil => rfl
  | cons x D ih =>
    rw [List.flatMap_cons, List.flatMap_cons, key x List.mem_cons_self, ih fun y hy => key y (List.mem_cons_of_mem _ hy)]
theorem chgS_len (D : List SK) (look f t : Int) (ms : List Mtc) (hD : DOk D) : (chgS D look f t ms).length ≤ 100000 := by
  have h1 : (D.flatMap (chgOne look f t ms)).length ≤ 400 * D.length := by
    have key : ∀ E : List SK, (∀ x ∈ E, x.2.length ≤ 200) → (E.flatMap (chgOne look f t ms)).length ≤ 400 * E.length := by
      intro E hE
      induction E with
      | nil => simp
      | cons x E ih =>
        have h2 := ih fun y hy => hE y (List.mem_cons_of_mem _ hy)
        have h3 := hE x List.mem_cons_self
        have h4 := chg_len look f t x.2
        have h5 : (chgOne look f t ms x).length ≤ 2 * x.2.length := by
          unfold chgOne
          split
          · exact h4
          · simp
        rw [List.flatMap_cons, List.length_append, List.length_cons]; omega
    exact key D fun x hx => (hD.row x hx).2.1
  have h2 := compact_length_le (isort (D.flatMap (chgOne look f t ms)))
  rw [isort_len] at h2
  have h3 := hD.len
  unfold chgS; omega
end Go.Proofs.Ythbinnbnmckmfaa
