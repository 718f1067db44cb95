/- lset.Keep, lset.Drop. -/
import Derived.Test.YtddkkfjgdfdcnaaKeep
namespace Go.Proofs.Ytddkkfjgdfdcnaa
open Go.ChangeShapes Go.WideShapes Go.ChangeAt Go.RowKit
set_option linter.unusedVariables false
set_option maxRecDepth 100000
end Go.Proofs.Ytddkkfjgdfdcnaa
