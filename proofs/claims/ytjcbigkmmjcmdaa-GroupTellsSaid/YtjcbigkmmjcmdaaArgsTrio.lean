/- An argument that is a struct of three ints. -/
import Derived.Test.YtjcbigkmmjcmdaaArgs
import Derived.Test.YtjcbigkmmjcmdaaNumMath
import Derived.Lib.SmallJoins
namespace Go.Proofs.Ytjcbigkmmjcmdaa
open Go.RowKit Go.ChangeShapes Go.WideShapes Go.ChangeAt Go.Deep
set_option linter.unusedVariables false
section
variable {P : Program} {w : World} {base b0 : Nat} {spare : Nat → Bool} {held : Bool} {H : Type} {enc : TypeId × Value → H}
theorem arg_trio {r : Reach} {t : TypeId} {f0 f1 f2 : Field} {v : Value} {d : DataW H} {p : List MemPlace} (hs : P.underlying t = some (.struct #[f0, f1, f2])) (hone : oneCellFields P #[f0, f1, f2] = true) (hC : P.cellsOf t = 3)
    (u0 : P.underlying f0.type = some (.int .i64)) (u1 : P.underlying f1.type = some (.int .i64)) (u2 : P.underlying f2.type = some (.int .i64))
    (hv : Value.okWide P w r b0 t v) (h : DataW.Trod enc P w base spare held t v d p) : ∃ a : Int × Int × Int, v = .agg #[.int .i64 a.1, .int .i64 a.2.1, .int .i64 a.2.2] ∧ I64 a.1 ∧ I64 a.2.1 ∧ I64 a.2.2 := by
  obtain ⟨c0, c1, c2, y0, y1, y2, m, rfl, _, _, h0, h1, h2⟩ := Go.Joins.open_agg3 hs hone hC hv h
  obtain ⟨x0, e0, _, w0⟩ := DataW.trod_int u0 h0
  obtain ⟨x1, e1, _, w1⟩ := DataW.trod_int u1 h1
  obtain ⟨x2, e2, _, w2⟩ := DataW.trod_int u2 h2
  simp only [List.cons.injEq, and_true] at e0 e1 e2
  subst e0; subst e1; subst e2
  exact ⟨(x0, x1, x2), rfl, wf_of w0, wf_of w1, wf_of w2⟩
end
end Go.Proofs.Ytjcbigkmmjcmdaa
