/- match.Exact; the first laws' closed sentence. -/
import Derived.Test.YtfcjalojgmpnoaaMatchPrint
namespace Go.Proofs.Ytfcjalojgmpnoaa
open Go.ChangeShapes Go.WideShapes Go.ChangeAt Go.RowKit
set_option linter.unusedVariables false
set_option maxRecDepth 100000
theorem Try.infoMatcher : (Try.prog.info? 56).map (fun i => (i.zero, i.size, i.bytes)) = some (some (.agg #[.string ⟨#[]⟩, .string ⟨#[]⟩, .int .i64 0]), 3, 40) := by kernel_rfl
/-- A matcher of each label. -/
def exactM (l : List Lbl) : List Mtc := l.map fun x => (x.1, x.2, (1 : Int))
theorem exactM_length (l : List Lbl) : (exactM l).length = l.length := by simp [exactM]
theorem exactM_snoc (l : List Lbl) (x : Lbl) : exactM (l ++ [x]) = exactM l ++ [(x.1, x.2, (1 : Int))] := by simp [exactM]
end Go.Proofs.Ytfcjalojgmpnoaa
