/- strings.Cut at one byte; strings.CutPrefix at one byte. -/
import Derived.Test.YtfcjalojgmpnoaaParseMath
import Derived.Deep.QuietTactic
import Derived.BigQuiet
import Derived.Lib.PathFns
import Derived.Lib.IndexLaws
namespace Go.Proofs.Ytfcjalojgmpnoaa
open Go.ChangeShapes Go.WideShapes Go.ChangeAt Go.RowKit
set_option linter.unusedVariables false
set_option maxRecDepth 100000
theorem cutL_index (c : UInt8) : ∀ l : List UInt8, (cutL c l = none ∧ Lib.indexByte l c = -1) ∨ ∃ k : Nat, k < l.length ∧ Lib.indexByte l c = k ∧ cutL c l = some (l.take k, l.drop (k + 1))
  | [] => .inl ⟨rfl, rfl⟩
  | x :: r => by
    unfold cutL Lib.indexByte
    by_cases h : x = c
    · subst h
      exact .inr ⟨0, by simp, by simp, by simp⟩
    · have hb : (x == c) = false := by simpa using h
      rw [if_neg h, hb]
      rcases cutL_index c r with ⟨h1, h2⟩ | ⟨k, hk, h1, h2⟩
      · exact .inl ⟨by rw [h1]; rfl, by rw [h2]; rfl⟩
      · refine .inr ⟨k + 1, by simpa using hk, ?_, by rw [h2]; simp⟩
        rw [h1]
        have : ((k : Int) == -1) = false := by rw [beq_eq_false_iff_ne]; omega
        simp [this]
end Go.Proofs.Ytfcjalojgmpnoaa
