/- lset.Keep, lset.Drop. -/
import Derived.Test.YtfcjalojgmpnoaaKeep
namespace Go.Proofs.Ytfcjalojgmpnoaa
open Go.ChangeShapes Go.WideShapes Go.ChangeAt Go.RowKit
set_option linter.unusedVariables false
set_option maxRecDepth 100000
end Go.Proofs.Ytfcjalojgmpnoaa
