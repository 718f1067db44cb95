/- klaxonbook at ints: Same, Roomy, Intact. -/
import Derived.Test.YtogdollfndpleaaRows
import Derived.Test.YtogdollfndpleaaMem
import Derived.Test.YtogdollfndpleaaNumMath
import Derived.WalkKit
import Derived.ProofKit
import Derived.Lib.Hide
import Derived.Deep.QuietTactic
import Derived.BigQuiet
import Derived.Laws.CopyOwn
namespace Go.Proofs.Ytogdollfndpleaa
open Go.ChangeShapes Go.WideShapes Go.ChangeAt Go.RowKit
set_option linter.unusedVariables false
theorem take_eq_snoc {zs ys : List Int} {k : Nat} (h1 : k < zs.length) (h2 : k < ys.length) (h : zs.take k = ys.take k) (he : zs[k] = ys[k]) : zs.take (k + 1) = ys.take (k + 1) := by
  rw [List.take_succ_eq_append_getElem h1, List.take_succ_eq_append_getElem h2, h, he]

end Go.Proofs.Ytogdollfndpleaa
