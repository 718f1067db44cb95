/- What the rows' list gives: the powers of ten; and a world that holds the listed tables. -/
import Derived.Test.YtcaapbbbekggiaaGreatDoorRows
import Derived.Test.YtcaapbbbekggiaaGreatDoorBase2
import Derived.Test.YtcaapbbbekggiaaGreatDoorBld
import Derived.Lib.LaidTab
import Derived.LaidSub
namespace Go.Proofs.YtcaapbbbekggiaaGreatDoor
open Go.ChangeShapes Go.WideShapes Go.ChangeAt Go.RowKit
set_option linter.unusedVariables false
set_option maxRecDepth 100000
theorem gPow : Tryz.prog.globalNamed "internal/strconv.uint64pow10" = some 0 := by kernel_rfl
theorem gPowType : (Tryz.prog.globals[0]?).map (·.type) = some 127 := by kernel_rfl
theorem cellsPow : Tryz.prog.cellsOf 127 = 20 := by kernel_rfl
theorem cellsU64 : Tryz.prog.cellsOf 71 = 1 := by kernel_rfl
theorem powList : (Rows.exprTellsRow.laid.filter fun x => x.1 == "internal/strconv.uint64pow10") = [("internal/strconv.uint64pow10", Lib.tabData .u64 Lib.pow10Tab)] := by kernel_rfl
theorem table {W : World} (h : laidMetH Tryz.prog Rows.exprTellsRow.laid W) : Tab W := by
  have h1 : laidMet Tryz.prog Rows.exprTellsRow.laid W := h
  have h2 := h1.filter (fun x => x.1 == "internal/strconv.uint64pow10")
  rw [powList] at h2
  exact Lib.tabIs_of_head (rest := []) gPow gPowType Tryz.underlying127 Tryz.underlying71 cellsU64 cellsPow h2
/-- A listed array's integers as cells. -/
def litCell : DataW Unit → List Value
  | .lit (.int k z) => [.int k z]
  | _ => []
def dataCells : DataW Unit → List Value
  | .agg l => l.flatMap litCell
  | _ => []
def laidObj (d : DataW Unit) : Obj → Obj
  | .cells _ t frozen => .cells (dataCells d).toArray t frozen
  | o => o
/-- A world for the witness: the settled one, the listed tables as their initialisers lay them. -/
noncomputable def laidWorld (os : Os) : World :=
  { World.holding Tryz.prog os ⟨#[], #[], []⟩ with heap := (((World.holding Tryz.prog os ⟨#[], #[], []⟩).heap.modify 0 (laidObj Rows.laid_internal_strconv_uint64pow10)).modify 2 (laidObj Rows.laid_math_bits_deBruijn32tab)).modify 3 (laidObj Rows.laid_math_bits_deBruijn64tab) }
theorem laid_met (os : Os) (args : Array Value) : laidMet Tryz.prog Rows.exprTellsRow.laid ((laidWorld os).forCall (fun _ _ => 0) ⟨#[], args, []⟩).memory :=
  laidMet_of_run' 8 (by kernel_rfl) (by kernel_rfl)
end Go.Proofs.YtcaapbbbekggiaaGreatDoor
