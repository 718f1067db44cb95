/- Package span: Right. -/
import Derived.Test.YtogdollfndpleaaSpanTurn
namespace Go.Proofs.Ytogdollfndpleaa
open Go.ChangeShapes Go.WideShapes Go.ChangeAt Go.RowKit
set_option linter.unusedVariables false
set_option maxRecDepth 100000
def rightAt : Option Int → Int × Int → Bool
  | none, x => decide (0 ≤ x.1) && decide (x.1 ≤ x.2) && decide (x.2 < 200)
  | some e, x => decide (0 ≤ x.1) && decide (x.1 ≤ x.2) && decide (x.2 < 200) && decide (e + 2 ≤ x.1)
def rightF : Option Int → List (Int × Int) → Bool
  | _, [] => true
  | p, x :: r => rightAt p x && rightF (some x.2) r
def prevOf (zs : List (Int × Int)) : Nat → Option Int
  | 0 => none
  | j + 1 => (zs[j]?).map (·.2)
theorem rightAt_no {p : Option Int} {f t : Int} (h : ¬ (0 ≤ f ∧ f ≤ t ∧ t < 200)) : rightAt p (f, t) = false := by
  have e : (decide (0 ≤ f) && decide (f ≤ t) && decide (t < 200)) = false := by
    by_cases h1 : 0 ≤ f <;> by_cases h2 : f ≤ t <;> by_cases h3 : t < 200 <;> simp_all
  cases p with
  | none => exact e
  | some y => show (decide (0 ≤ f) && decide (f ≤ t) && decide (t < 200) && _) = false; rw [e]; rfl
theorem rightAt_none {f t : Int} (h : 0 ≤ f ∧ f ≤ t ∧ t < 200) : rightAt none (f, t) = true := by
  show (decide (0 ≤ f) && decide (f ≤ t) && decide (t < 200)) = true
  simp [h.1, h.2.1, h.2.2]
theorem rightAt_some {e f t : Int} (h : 0 ≤ f ∧ f ≤ t ∧ t < 200) : rightAt (some e) (f, t) = decide (e + 2 ≤ f) := by
  show (decide (0 ≤ f) && decide (f ≤ t) && decide (t < 200) && decide (e + 2 ≤ f)) = decide (e + 2 ≤ f)
  simp [h.1, h.2.1, h.2.2]
end Go.Proofs.Ytogdollfndpleaa
