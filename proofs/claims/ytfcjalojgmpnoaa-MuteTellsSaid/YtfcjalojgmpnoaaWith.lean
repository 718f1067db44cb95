/- lset.With where the label comes behind all others. -/
import Derived.Test.YtfcjalojgmpnoaaDrop
namespace Go.Proofs.Ytfcjalojgmpnoaa
open Go.ChangeShapes Go.WideShapes Go.ChangeAt Go.RowKit
set_option linter.unusedVariables false
set_option maxRecDepth 100000
/-- A set with a label behind all that were kept. -/
def withEnd (l : List (ByteArray × ByteArray)) (name value : ByteArray) : List (ByteArray × ByteArray) := (l.filter fun x => !hasS [name] x.1) ++ [(name, value)]
end Go.Proofs.Ytfcjalojgmpnoaa
