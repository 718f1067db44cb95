/- Two alerts over the same ticks, one of which is kept longer or waits less. No program in it but life's plain functions. -/
import Derived.Test.YtokcmppcmobbmaaLifeRun
namespace Go.Proofs.Ytokcmppcmobbmaa
set_option linter.unusedVariables false
/-- b is no less far than a. -/
def More (a b : Lf) : Prop :=
  (a.st = 0 ∧ (b.st = 0 ∨ b.st = 2)) ∨ (a.st = 1 ∧ (b.st = 2 ∨ b.st = 1 ∧ b.since = a.since)) ∨ (a.st = 2 ∧ b.st = 2 ∧ b.last = a.last)
theorem held_more {a b : Lf} {t La Lb : Int} (hR : More a b) (hL : Lb ≤ La) : More (a.held t La) (b.held t Lb) := by
  obtain ⟨s, i, l⟩ := a
  obtain ⟨s', i', l'⟩ := b
  unfold More Lf.held at *
  simp only at hR
  rcases hR with ⟨rfl, rfl | rfl⟩ | ⟨rfl, rfl | ⟨rfl, rfl⟩⟩ | ⟨rfl, rfl, rfl⟩ <;> simp <;> (repeat' split) <;> simp <;> omega
theorem next_more {a b : Lf} {t sa fa ka sb fb kb : Int} (h : Bool) (hR : More a b) (hL : nLeast sb fb ≤ nLeast sa fa) (hM : nMost sa ka ≤ nMost sb kb) : More (a.next t sa fa ka h) (b.next t sb fb kb h) := by
  cases h
  · unfold Lf.next
    generalize nMost sa ka = Ma at *
    generalize nMost sb kb = Mb at *
    obtain ⟨s, i, l⟩ := a
    obtain ⟨s', i', l'⟩ := b
    unfold More Lf.zero at *
    simp only at hR
    rcases hR with ⟨rfl, rfl | rfl⟩ | ⟨rfl, rfl | ⟨rfl, rfl⟩⟩ | ⟨rfl, rfl, rfl⟩ <;> simp <;> (repeat' split) <;> simp <;> omega
  · unfold Lf.next
    simp only [if_true]
    exact held_more hR hL
theorem run_more {sa fa ka sb fb kb : Int} (hL : nLeast sb fb ≤ nLeast sa fa) (hM : nMost sa ka ≤ nMost sb kb) (hs : List Bool) (a b : Lf) (t : Int) (hR : More a b) (i : Nat) (h1 : i < (lifeRun sa fa ka a t hs).length) (h2 : i < (lifeRun sb fb kb b t hs).length) :
    (lifeRun sa fa ka a t hs)[i] = 2 → (lifeRun sb fb kb b t hs)[i] = 2 := by
  induction hs generalizing a b t i with
  | nil => simp [lifeRun] at h1
  | cons h hs ih =>
    have hn := next_more (t := t) h hR hL hM
    cases i with
    | zero =>
      simp only [lifeRun, List.getElem_cons_zero]
      intro h3
      unfold More at hn; omega
    | succ i =>
      simp only [lifeRun, List.getElem_cons_succ]
      exact ih _ _ _ hn i _ _
/-- A state is one of three; what holds isn't off. -/
def Three (a : Lf) : Prop := a.st = 0 ∨ a.st = 1 ∨ a.st = 2
theorem next_three {a : Lf} {t s f k : Int} (h : Bool) (ha : Three a) : Three (a.next t s f k h) ∧ (h = true → (a.next t s f k h).st ≠ 0) := by
  cases h
  · unfold Lf.next
    simp only [Bool.false_eq_true, if_false]
    refine ⟨?_, fun h => by cases h⟩
    split
    · exact ha
    · exact .inl rfl
  · unfold Lf.next Lf.held
    simp only [if_true]
    unfold Three
    (repeat' split) <;> simp
theorem run_three {s f k : Int} (hs : List Bool) (a : Lf) (t : Int) (ha : Three a) (i : Nat) (h1 : i < (lifeRun s f k a t hs).length) (h2 : i < hs.length) :
    0 ≤ (lifeRun s f k a t hs)[i] ∧ (lifeRun s f k a t hs)[i] ≤ 2 ∧ (hs[i] = true → (lifeRun s f k a t hs)[i] ≠ 0) := by
  induction hs generalizing a t i with
  | nil => simp at h2
  | cons h hs ih =>
    have hn := next_three (t := t) (s := s) (f := f) (k := k) h ha
    cases i with
    | zero =>
      simp only [lifeRun, List.getElem_cons_zero]
      obtain ⟨h3, h4⟩ := hn
      refine ⟨?_, ?_, h4⟩ <;> (unfold Three at h3; omega)
    | succ i =>
      simp only [lifeRun, List.getElem_cons_succ]
      exact ih _ _ hn.1 i _ _
theorem up_le_mul {f s i : Int} (hs : 1 ≤ s) (hf : 0 ≤ f) : nUp f s ≤ i ↔ f ≤ i * s := by
  unfold nUp
  rw [if_neg (by omega), Int.ediv_le_iff_le_mul (by omega)]
  omega
/-- What always holds. -/
theorem run_always {s f k : Int} (hs : 1 ≤ s) (hf : 0 ≤ f) (n : Nat) (a : Lf) (t : Int) (ht : 0 ≤ t)
    (ha : a = .zero ∧ t = 0 ∨ 0 < t ∧ a.since = 0 ∧ a.st = if f ≤ (t - 1) * s then 2 else 1) (i : Nat) (h1 : i < (lifeRun s f k a t (List.replicate n true)).length) :
    (lifeRun s f k a t (List.replicate n true))[i] = if f ≤ (t + i) * s then 2 else 1 := by
  induction n generalizing a t i with
  | zero => simp [lifeRun] at h1
  | succ n ih =>
    have hmono : f ≤ (t - 1) * s → f ≤ t * s := by
      intro h; have : (t - 1) * s ≤ t * s := Int.mul_le_mul_of_nonneg_right (by omega) (by omega); omega
    have key : (a.next t s f k true).since = 0 ∧ (a.next t s f k true).st = if f ≤ t * s then 2 else 1 := by
      have hL : nLeast s f = nUp f s := by unfold nLeast mx1; rw [if_pos hs]
      unfold Lf.next Lf.held
      simp only [if_true]
      rw [hL]
      rcases ha with ⟨rfl, rfl⟩ | ⟨h0, h2, h3⟩
      · have := up_le_mul (i := 0) hs hf
        simp only [Lf.zero]
        by_cases hc : nUp f s ≤ 0
        · have h4 := this.1 hc; simp [hc]; omega
        · have h4 : ¬ f ≤ 0 * s := fun h => hc (this.2 h)
          simp [hc]; omega
      · have hu := up_le_mul (i := t) hs hf
        by_cases hc : f ≤ (t - 1) * s
        · rw [if_pos hc] at h3
          have h5 := hmono hc
          simp [h3, h2, h5]
        · rw [if_neg hc] at h3
          by_cases hd : nUp f s ≤ t
          · have h5 := hu.1 hd
            simp [h3, h2, hd, h5]
          · have h5 : ¬ f ≤ t * s := fun h => hd (hu.2 h)
            simp [h3, h2, hd, h5]
    cases i with
    | zero =>
      simp only [List.replicate_succ, lifeRun, List.getElem_cons_zero]
      simpa using key.2
    | succ i =>
      simp only [List.replicate_succ, lifeRun, List.getElem_cons_succ]
      have := ih (a.next t s f k true) (t + 1) (by omega) (.inr ⟨by omega, key.1, by rw [show t + 1 - 1 = t by omega]; exact key.2⟩) i (by simpa [List.replicate_succ, lifeRun] using h1)
      rw [this, show t + 1 + (i : Int) = t + ((i + 1 : Nat) : Int) by omega]
theorem least_mono {s f d : Int} (hs : 1 ≤ s) (hf : 0 ≤ f) (hd : 0 ≤ d) : nLeast s f ≤ nLeast s (f + d) := by
  unfold nLeast mx1 nUp
  rw [if_pos hs, if_neg (by omega), if_neg (by omega)]
  exact Int.ediv_le_ediv (by omega) (by omega)
theorem most_mono {s k d : Int} (hs : 1 ≤ s) (hk : 0 ≤ k) (hd : 0 ≤ d) : nMost s k ≤ nMost s (k + d) := by
  unfold nMost mx1
  rw [if_pos hs, if_neg (by omega), if_neg (by omega)]
  exact Int.ediv_le_ediv (by omega) (by omega)
end Go.Proofs.Ytokcmppcmobbmaa
