/- What the rows' list gives: the powers of ten; and a world that holds the listed tables. -/
import Derived.Test.YtnkbpcenkbihpaaDoorRows
import Derived.Test.YtnkbpcenkbihpaaDoorBase2
import Derived.Lib.LaidTab
import Derived.LaidSub
namespace Go.Proofs.YtnkbpcenkbihpaaDoor
open Go.ChangeShapes Go.WideShapes Go.ChangeAt Go.RowKit
set_option linter.unusedVariables false
set_option maxRecDepth 100000
theorem gPow : Tryd.prog.globalNamed "internal/strconv.uint64pow10" = some 0 := by kernel_rfl
theorem gPowType : (Tryd.prog.globals[0]?).map (·.type) = some 125 := by kernel_rfl
theorem cellsPow : Tryd.prog.cellsOf 125 = 20 := by kernel_rfl
theorem cellsU64 : Tryd.prog.cellsOf 117 = 1 := by kernel_rfl
theorem powList : (Rows.exprRunsRow.laid.filter fun x => x.1 == "internal/strconv.uint64pow10") = [("internal/strconv.uint64pow10", Lib.tabData .u64 Lib.pow10Tab)] := by kernel_rfl
theorem table {W : World} (h : laidMetH Tryd.prog Rows.exprRunsRow.laid W) : Tab W := by
  have h1 : laidMet Tryd.prog Rows.exprRunsRow.laid W := h
  have h2 := h1.filter (fun x => x.1 == "internal/strconv.uint64pow10")
  rw [powList] at h2
  exact Lib.tabIs_of_head (rest := []) gPow gPowType Tryd.underlying125 Tryd.underlying117 cellsU64 cellsPow h2
/-- A listed array's integers as cells. -/
def litCell : DataW Unit → List Value
  | .lit (.int k z) => [.int k z]
  | _ => []
def dataCells : DataW Unit → List Value
  | .agg l => l.flatMap litCell
  | _ => []
def laidObj (d : DataW Unit) : Obj → Obj
  | .cells _ t frozen => .cells (dataCells d).toArray t frozen
  | o => o
/-- A world for the witness: the settled one, the listed tables as their initialisers lay them. -/
noncomputable def laidWorld (os : Os) : World :=
  { World.holding Tryd.prog os ⟨#[], #[], []⟩ with heap := (((World.holding Tryd.prog os ⟨#[], #[], []⟩).heap.modify 0 (laidObj Rows.laid_internal_strconv_uint64pow10)).modify 2 (laidObj Rows.laid_math_bits_deBruijn32tab)).modify 3 (laidObj Rows.laid_math_bits_deBruijn64tab) }
theorem laid_met (os : Os) (args : Array Value) : laidMet Tryd.prog Rows.exprRunsRow.laid ((laidWorld os).forCall (fun _ _ => 0) ⟨#[], args, []⟩).memory :=
  laidMet_of_run' 8 (by kernel_rfl) (by kernel_rfl)
end Go.Proofs.YtnkbpcenkbihpaaDoor
