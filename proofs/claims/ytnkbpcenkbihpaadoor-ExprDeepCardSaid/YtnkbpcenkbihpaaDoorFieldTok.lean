/- A token's fields, of a value. -/
import Derived.Test.YtnkbpcenkbihpaaDoorLex7
namespace Go.Proofs.YtnkbpcenkbihpaaDoor
open Go.ChangeShapes Go.WideShapes Go.ChangeAt Go.RowKit
set_option linter.unusedVariables false
set_option linter.unusedSimpArgs false
set_option maxRecDepth 100000
@[go_sem] theorem field_tok1 (k n a : Int) (t : ByteArray) (w : World) : (Instr.field 43 (.agg #[.int .i64 k, .int .i64 n, .int .i64 a, .string t]) 1).run Tryd.prog w = .ok (.int .i64 n) w := by
  have u := Tryd.underlying43
  have u3 := Tryd.underlying3
  have a3 := Tryd.isAgg3
  have z3 := Tryd.sizeOf3
  unfold Instr.field
  go_simp
  rfl
@[go_sem] theorem field_tok3 (k n a : Int) (t : ByteArray) (w : World) : (Instr.field 43 (.agg #[.int .i64 k, .int .i64 n, .int .i64 a, .string t]) 3).run Tryd.prog w = .ok (.string t) w := by
  have u := Tryd.underlying43
  have u3 := Tryd.underlying9
  have a3 := Tryd.isAgg9
  have z3 := Tryd.sizeOf9
  unfold Instr.field
  go_simp
  rfl
end Go.Proofs.YtnkbpcenkbihpaaDoor
