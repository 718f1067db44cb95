/- Right, in the words of klaxonref17.Tree. -/
import Derived.Test.YtddkkfjgdfdcnaaRefRoute2
namespace Go.Proofs.Ytddkkfjgdfdcnaa
open Go.RowKit
set_option linter.unusedVariables false
theorem foldl_max_le (l : List Nat) : ∀ (a b : Nat), l.foldl max a ≤ b ↔ a ≤ b ∧ ∀ x ∈ l, x ≤ b := by
  induction l with
  | nil => intro a b; simp
  | cons x l ih =>
    intro a b
    rw [List.foldl_cons, ih]
    constructor
    · rintro ⟨h1, h2⟩
      refine ⟨by omega, fun y hy => ?_⟩
      rcases List.mem_cons.1 hy with rfl | hy
      · omega
      · exact h2 y hy
    · rintro ⟨h1, h2⟩
      have := h2 x List.mem_cons_self
      exact ⟨by omega, fun y hy => h2 y (List.mem_cons_of_mem _ hy)⟩
theorem rightF_ref : ∀ (d n : Nat) (r : RT), rightF d n r = (okR d r && decide (n + depR d r ≤ 9))
  | 0, n, r => rfl
  | d + 1, n, r => by
    have hk : ∀ k, rightF d (n + 1) k = (okR d k && decide (n + 1 + depR d k ≤ 9)) := fun k => rightF_ref d (n + 1) k
    have hall : r.kids.all (rightF d (n + 1)) = (r.kids.all (okR d) && r.kids.all fun k => decide (n + 1 + depR d k ≤ 9)) := by
      rw [Bool.eq_iff_iff, Bool.and_eq_true, List.all_eq_true, List.all_eq_true, List.all_eq_true]
      constructor
      · intro h
        refine ⟨fun k hk2 => ?_, fun k hk2 => ?_⟩
        · have := h k hk2; rw [hk, Bool.and_eq_true] at this; exact this.1
        · have := h k hk2; rw [hk, Bool.and_eq_true] at this; exact this.2
      · rintro ⟨h1, h2⟩ k hk2
        rw [hk, h1 k hk2, h2 k hk2]; rfl
    have hdep : decide (n + depR (d + 1) r ≤ 9) = (decide (n ≤ 8) && r.kids.all fun k => decide (n + 1 + depR d k ≤ 9)) := by
      rw [Bool.eq_iff_iff, Bool.and_eq_true, List.all_eq_true, decide_eq_true_iff, decide_eq_true_iff]
      have h := foldl_max_le (r.kids.map (depR d)) 0 (8 - n)
      show n + ((r.kids.map (depR d)).foldl max 0 + 1) ≤ 9 ↔ _
      constructor
      · intro h1
        refine ⟨by omega, fun k hk2 => ?_⟩
        have h2 := (h.1 (by omega)).2 (depR d k) (List.mem_map_of_mem hk2)
        rw [decide_eq_true_iff]; omega
      · rintro ⟨h1, h2⟩
        have h3 := h.2 ⟨by omega, fun x hx => by
          obtain ⟨k, hk2, rfl⟩ := List.mem_map.1 hx
          have := h2 k hk2
          rw [decide_eq_true_iff] at this; omega⟩
        omega
    show (decide (n ≤ 8) && (wordF r.nm && (rightM r.ms && r.kids.all (rightF d (n + 1))))) = ((((wordF r.nm && decide (r.ms.length ≤ 6)) && r.ms.all mtcOk) && r.kids.all (okR d)) && decide (n + depR (d + 1) r ≤ 9))
    rw [hdep, hall, rightM]
    cases decide (n ≤ 8) <;> cases wordF r.nm <;> cases decide (r.ms.length ≤ 6) <;> cases r.ms.all mtcOk <;> cases r.kids.all (okR d) <;> simp
theorem rightT_ref (d : Nat) (r : RT) : rightT d r = (r.ms.isEmpty && (okR d r && (decide (depR d r ≤ 8) && decide (countF d r ≤ 16)))) := by
  unfold rightT
  rw [rightF_ref, show decide (1 + depR d r ≤ 9) = decide (depR d r ≤ 8) from decide_eq_decide.2 (by omega), Bool.and_assoc]
end Go.Proofs.Ytddkkfjgdfdcnaa
