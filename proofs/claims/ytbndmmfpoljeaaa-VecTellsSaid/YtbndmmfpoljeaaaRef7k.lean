/- klaxonref7.Two's answers are vec's. No program in it. -/
import Derived.Test.YtbndmmfpoljeaaaRef7i
import Derived.Test.YtbndmmfpoljeaaaRef7j
namespace Go.Proofs.Ytbndmmfpoljeaaa
open Go.ChangeShapes Go.WideShapes Go.ChangeAt Go.RowKit
set_option linter.unusedVariables false
set_option linter.unusedSimpArgs false
theorem filt_out (P : Pt → Bool) (ps : List Pt) : outF (fun p => if P p = true then some (p.1, (p.2, 0)) else none) ps = ps.filter P ∧ errF (fun p => if P p = true then some (p.1, (p.2, 0)) else none) ps = 0 := by
  induction ps with
  | nil => exact ⟨rfl, rfl⟩
  | cons p ps ih =>
    obtain ⟨h1, h2⟩ := ih
    refine ⟨?_, ?_⟩
    · unfold outF at h1 ⊢
      by_cases h : P p = true
      · rw [List.filterMap_cons, List.filter_cons_of_pos h, ← h1]; simp [h]
      · rw [List.filterMap_cons, List.filter_cons_of_neg h, ← h1]; simp [h]
    · rw [errF_cons]
      by_cases h : P p = true
      · simp [h, h2]
      · simp [h, h2]
theorem above_eq (k n : Int) (ps : List Pt) : aboveR k n ps = (sortP (aboveF k n ps), 0) := by
  obtain ⟨h1, h2⟩ := filt_out (fun p => holdsF k p.2 n) ps
  have e : aboveS k n = fun p : Pt => if (holdsF k p.2 n) = true then some (p.1, (p.2, 0)) else none := rfl
  unfold aboveR resF
  rw [e, h1, if_pos h2]; rfl
theorem keep_out (t : Bool) (ps qs : List Pt) : outF (keepF t qs) ps = amongF (keysP qs) t ps ∧ errF (keepF t qs) ps = 0 := by
  obtain ⟨h1, h2⟩ := filt_out (fun p => (findP qs p).isSome == t) ps
  have e : keepF t qs = fun p : Pt => if ((findP qs p).isSome == t) = true then some (p.1, (p.2, 0)) else none := rfl
  rw [e]
  refine ⟨h1.trans ?_, h2⟩
  unfold amongF findP
  have hl : (keysP qs).length = qs.length := by simp [keysP]
  rw [hl]
theorem and_eq (ps qs : List Pt) : keepR true ps qs = logicR 14 ps qs := by
  obtain ⟨h1, h2⟩ := keep_out true ps qs
  unfold keepR logicR resF
  rw [h1, if_pos h2]
  simp [logicF]
theorem un_eq (ps qs : List Pt) : keepR false ps qs = logicR 16 ps qs := by
  obtain ⟨h1, h2⟩ := keep_out false ps qs
  unfold keepR logicR resF
  rw [h1, if_pos h2]
  simp [logicF]
theorem or_eq (ps qs : List Pt) : orR ps qs = logicR 15 ps qs := by
  obtain ⟨h1, h2⟩ := keep_out false qs ps
  unfold orR logicR
  rw [h1]
  simp [logicF]
end Go.Proofs.Ytbndmmfpoljeaaa
