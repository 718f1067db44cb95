/- An argument that is numbers for a tree: a struct of three slices of ints. -/
import Derived.Test.YtddkkfjgdfdcnaaTree2
import Derived.Test.YtddkkfjgdfdcnaaBase
import Derived.Lib.SmallJoins
namespace Go.Proofs.Ytddkkfjgdfdcnaa
open Go.RowKit Go.ChangeShapes Go.WideShapes Go.ChangeAt Go.Deep
set_option linter.unusedVariables false
section
variable {P : Program} {w : World} {base b0 : Nat} {spare : Nat → Bool} {held : Bool} {H : Type} {enc : TypeId × Value → H}
theorem arg_tree {r : Reach} {t te : TypeId} {f0 f1 f2 : Field} {v : Value} {d : DataW H} {p : List MemPlace} (hs : P.underlying t = some (.struct #[f0, f1, f2])) (hone : oneCellFields P #[f0, f1, f2] = true) (hC : P.cellsOf t = 3)
    (u0 : P.underlying f0.type = some (.slice te)) (u1 : P.underlying f1.type = some (.slice te)) (u2 : P.underlying f2.type = some (.slice te)) (he : P.underlying te = some (.int .i64)) (ce : P.cellsOf te = 1)
    (hv : Value.okWide P w r b0 t v) (h : DataW.Trod enc P w base spare held t v d p) : ∃ k : KTree, v = k.val ∧ k.ok w.heap.size w := by
  obtain ⟨c0, c1, c2, y0, y1, y2, m, rfl, _, _, h0, h1, h2⟩ := Go.Joins.open_agg3 hs hone hC hv h
  obtain ⟨a0, n0, cp0, z0, rfl, s0, l0, m0, i0⟩ := arg_ints_cs u0 he ce h0
  obtain ⟨a1, n1, cp1, z1, rfl, s1, l1, m1, i1⟩ := arg_ints_cs u1 he ce h1
  obtain ⟨a2, n2, cp2, z2, rfl, s2, l2, m2, i2⟩ := arg_ints_cs u2 he ce h2
  exact ⟨⟨a0, n0, cp0, z0, a1, n1, cp1, z1, a2, n2, cp2, z2⟩, rfl, ⟨s0, i0, ⟨l0, m0⟩, s1, i1, ⟨l1, m1⟩, s2, i2, ⟨l2, m2⟩⟩⟩
end
end Go.Proofs.Ytddkkfjgdfdcnaa
