/- The walk of MatchRuns. -/
import Derived.Test.YtfcjalojgmpnoaaMatchExact
namespace Go.Proofs.Ytfcjalojgmpnoaa
open Go.ChangeShapes Go.WideShapes Go.ChangeAt Go.RowKit
set_option linter.unusedVariables false
set_option maxRecDepth 100000
def runM : List Mtc := [(⟨#[97]⟩, ⟨#[120]⟩, 1), (⟨#[98]⟩, ⟨#[121]⟩, 4)]
def runL : List Lbl := [(⟨#[97]⟩, ⟨#[120]⟩), (⟨#[98]⟩, ⟨#[122]⟩)]
def runO : List Lbl := [(⟨#[97]⟩, ⟨#[120]⟩), (⟨#[98]⟩, ⟨#[121, 121]⟩)]
theorem runAll : allF runL runM = true := by decide
theorem runAllO : allF runO runM = false := by decide
theorem runNone : allF [] [((⟨#[97]⟩ : ByteArray), (⟨#[]⟩ : ByteArray), (1 : Int))] = true := by decide
theorem runPrint : printM runM = [123, 97, 61, 34, 120, 34, 44, 98, 33, 94, 34, 121, 34, 125] := by decide
theorem runLen : (exactM runL).length = 2 := rfl
end Go.Proofs.Ytfcjalojgmpnoaa
