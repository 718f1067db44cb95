/- lset.Parse: one label, and the whole. -/
import Derived.Test.YtfcjalojgmpnoaaParse
import Derived.Deep.CutBlock
namespace Go.Proofs.Ytfcjalojgmpnoaa
open Go.ChangeShapes Go.WideShapes Go.ChangeAt Go.RowKit
set_option linter.unusedVariables false
set_option maxRecDepth 100000
/-- What is told of a text that may begin with a label. -/
def LabAns (r : Option ((ByteArray × ByteArray) × List UInt8)) (w : World) (e : Ending) (w' : World) : Prop :=
  Below w.heap.size w w' ∧ match r with
    | none => ∃ (a b : ByteArray), ∃ t : ByteArray, e = .returned (.tuple #[.agg #[.string a, .string b], .string t, .bool false])
    | some (x, t) => e = .returned (.tuple #[.agg #[.string x.1, .string x.2], .string ⟨t.toArray⟩, .bool true])
theorem labAns_no {w w' : World} {e : Ending} {r : Option ((ByteArray × ByteArray) × List UInt8)} {a b t : ByteArray} (hr : r = none) (hb : Below w.heap.size w w') (he : e = .returned (.tuple #[.agg #[.string a, .string b], .string t, .bool false])) : LabAns r w e w' := by subst hr; exact ⟨hb, a, b, t, he⟩
theorem labAns_yes {w w' : World} {e : Ending} {r : Option ((ByteArray × ByteArray) × List UInt8)} {a b : ByteArray} {t : List UInt8} (hr : r = some ((a, b), t)) (hb : Below w.heap.size w w') (he : e = .returned (.tuple #[.agg #[.string a, .string b], .string ⟨t.toArray⟩, .bool true])) : LabAns r w e w' := by subst hr; exact ⟨hb, he⟩
end Go.Proofs.Ytfcjalojgmpnoaa
