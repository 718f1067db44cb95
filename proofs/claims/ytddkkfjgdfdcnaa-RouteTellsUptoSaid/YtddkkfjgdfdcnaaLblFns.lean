/- slices.Equal, slices.Clone at labels (gen_lbl.py). -/
import Derived.Test.YtddkkfjgdfdcnaaBase
import Derived.Test.YtddkkfjgdfdcnaaKept
import Derived.WalkSpells
namespace Go.Proofs.Ytddkkfjgdfdcnaa
open Go.ChangeShapes Go.WideShapes Go.ChangeAt Go.RowKit
set_option linter.unusedVariables false
set_option maxRecDepth 100000
end Go.Proofs.Ytddkkfjgdfdcnaa
