/- expr.typeOfTwo. -/
import Derived.Test.YtnkbpcenkbihpaaDoorType
import Derived.Test.YtnkbpcenkbihpaaDoorBase
namespace Go.Proofs.YtnkbpcenkbihpaaDoor
open Go.ChangeShapes Go.WideShapes Go.ChangeAt Go.RowKit
set_option linter.unusedVariables false
set_option linter.unusedSimpArgs false
set_option maxRecDepth 100000
theorem kidT_cells0 {V : World} {ad : Addr} {u0 u1 u2 u3 u4 : Value} {r : List Value} (h : ∀ j u, (u0 :: u1 :: u2 :: u3 :: u4 :: r)[j]? = some u → V.cell? (ad.add j) = some u) :
    V.cell? ad = some u0 ∧ V.cell? ⟨ad.block, ad.off + 1, none⟩ = some u1 ∧ V.cell? ⟨ad.block, ad.off + 2, none⟩ = some u2 ∧ V.cell? ⟨ad.block, ad.off + 3, none⟩ = some u3 ∧ V.cell? ⟨ad.block, ad.off + 4, none⟩ = some u4 := by
  have h0 := h 0 _ rfl
  rw [add_zero'] at h0
  have hs : ∀ j, 0 < j → (⟨ad.block, ad.off + j, none⟩ : Addr) = ad.add j := fun j hj => by
    have := add_spelt ad 0 j hj
    rwa [add_zero', Nat.zero_add] at this
  exact ⟨h0, by rw [hs 1 (by omega)]; exact h 1 _ rfl, by rw [hs 2 (by omega)]; exact h 2 _ rfl, by rw [hs 3 (by omega)]; exact h 3 _ rfl, by rw [hs 4 (by omega)]; exact h 4 _ rfl⟩
theorem kidT_cells5 {V : World} {ad : Addr} {a0 a1 a2 a3 a4 u0 u1 u2 u3 u4 : Value} (h : ∀ j u, [a0, a1, a2, a3, a4, u0, u1, u2, u3, u4][j]? = some u → V.cell? (ad.add j) = some u) :
    V.cell? ⟨ad.block, ad.off + 5, none⟩ = some u0 ∧ V.cell? ⟨ad.block, ad.off + 5 + 1, none⟩ = some u1 ∧ V.cell? ⟨ad.block, ad.off + 5 + 2, none⟩ = some u2 ∧ V.cell? ⟨ad.block, ad.off + 5 + 3, none⟩ = some u3 ∧ V.cell? ⟨ad.block, ad.off + 5 + 4, none⟩ = some u4 := by
  have hs : ∀ j, 0 < j → (⟨ad.block, ad.off + j, none⟩ : Addr) = ad.add j := fun j hj => by
    have := add_spelt ad 0 j hj
    rwa [add_zero', Nat.zero_add] at this
  exact ⟨by rw [hs 5 (by omega)]; exact h 5 _ rfl, by rw [Nat.add_assoc, hs _ (by omega)]; exact h 6 _ rfl, by rw [Nat.add_assoc, hs _ (by omega)]; exact h 7 _ rfl, by rw [Nat.add_assoc, hs _ (by omega)]; exact h 8 _ rfl, by rw [Nat.add_assoc, hs _ (by omega)]; exact h 9 _ rfl⟩
/-- Within typeOfTwo: the box and both kids. -/
structure T2At (w : World) (bx d : Nat) (kk nn : Int) (v2 v3 : Value) (ad : Addr) (c3 : Nat) (a b : XE) (W : World) : Prop where
  bel : Below w.heap.size w W
  box : Blk W bx 26 [.int .i64 kk, .int .i64 nn, v2, v3, .slice (some ad) 2 c3]
  see : Sees W W.heap.size 5 (some ad) 2 (kcells [a, b])
  oka : okX d a W
  okb : okX d b W
theorem T2At.below {w W W' : World} {bx d c3 : Nat} {kk nn : Int} {v2 v3 : Value} {ad : Addr} {a b : XE} (h : T2At w bx d kk nn v2 v3 ad c3 a b W) (hb : Below W.heap.size W W') : T2At w bx d kk nn v2 v3 ad c3 a b W' :=
  ⟨h.bel.trans (hb.mono h.bel.size), h.box.below hb h.box.lt, (h.see.below hb).more hb.size, okX_below hb d a h.oka, okX_below hb d b h.okb⟩
theorem T2At.cell {w W : World} {bx d c3 : Nat} {kk nn : Int} {v2 v3 : Value} {ad : Addr} {a b : XE} (h : T2At w bx d kk nn v2 v3 ad c3 a b W) : ∀ j u, [.int .i64 a.kd, .int .i64 a.n, a.mv, a.nv, a.kv, .int .i64 b.kd, .int .i64 b.n, b.mv, b.nv, b.kv][j]? = some u → W.cell? (ad.add j) = some u := by
  obtain ⟨ad', e, _, hc⟩ := h.see.at_ (by omega)
  injection e with e
  subst e
  exact hc
end Go.Proofs.YtnkbpcenkbihpaaDoor
