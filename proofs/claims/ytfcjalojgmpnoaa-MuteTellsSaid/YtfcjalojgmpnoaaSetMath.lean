/- Sets that statements make of numbers: plain functions. -/
import Derived.Test.YtfcjalojgmpnoaaKeep
import Derived.Test.YtfcjalojgmpnoaaBase
import Derived.Test.YtfcjalojgmpnoaaBook
import Derived.Lib.SmallJoins
namespace Go.Proofs.Ytfcjalojgmpnoaa
open Go.ChangeShapes Go.WideShapes Go.ChangeAt Go.RowKit Go.Deep
set_option linter.unusedVariables false
/-- klaxonkeep's names and values. -/
def keepNames : List ByteArray := [⟨#[97]⟩, ⟨#[98]⟩, ⟨#[99]⟩, ⟨#[110, 97, 109, 101]⟩]
def keepValues : List ByteArray := [⟨#[120]⟩, ⟨#[121]⟩, ⟨#[120, 121]⟩, ⟨#[49]⟩, ⟨#[34]⟩, ⟨#[92]⟩, ⟨#[123, 125]⟩, ⟨#[122, 32, 122]⟩]
/-- A number of a row, round and round. -/
def pickF (l : List Int) (i : Nat) : Int := if h : 0 < l.length then l[i % l.length]'(Nat.mod_lt _ h) else 0
/-- Numbers of which a set is made. -/
structure KSet where
  A : Option Addr
  n : Nat
  c : Nat
  has : List Int
  A2 : Option Addr
  n2 : Nat
  c2 : Nat
  vals : List Int
def KSet.val (k : KSet) : Value := .agg #[.slice k.A k.n k.c, .slice k.A2 k.n2 k.c2]
structure KSet.ok (k : KSet) (B : Nat) (w : World) : Prop where
  has_ : Sees w B 1 k.A k.n (ints k.has)
  hasI : ∀ z ∈ k.has, I64 z
  n_ : k.n ≤ k.c ∧ k.c ≤ 9223372036854775807
  vals_ : Sees w B 1 k.A2 k.n2 (ints k.vals)
  valsI : ∀ z ∈ k.vals, I64 z
  n2_ : k.n2 ≤ k.c2 ∧ k.c2 ≤ 9223372036854775807
theorem KSet.ok.below {k : KSet} {B : Nat} {w w' : World} (h : k.ok B w) (hb : Below B w w') : k.ok B w' := ⟨h.has_.below hb, h.hasI, h.n_, h.vals_.below hb, h.valsI, h.n2_⟩
section
variable {P : Program} {w : World} {base b0 : Nat} {spare : Nat → Bool} {held : Bool} {H : Type} {enc : TypeId × Value → H}
theorem arg_ints_cs {t e : TypeId} {fuel : Nat} {v : Value} {x : DataW H × List MemPlace} (ht : P.underlying t = some (.slice e)) (he : P.underlying e = some (.int .i64)) (hc : P.cellsOf e = 1)
    (h : DataW.trod enc P w base spare held fuel t [v] = some x) :
    ∃ (a0 : Option Addr) (len cap : Nat) (zs : List Int), v = .slice a0 len cap ∧ Sees w w.heap.size 1 a0 len (ints zs) ∧ len ≤ cap ∧ cap ≤ 9223372036854775807 ∧ ∀ z ∈ zs, I64 z := by
  have key : ∀ a0 len cap, v = .slice a0 len cap → ∃ zs : List Int, Sees w w.heap.size 1 a0 len (ints zs) ∧ len ≤ cap ∧ cap ≤ 9223372036854775807 ∧ ∀ z ∈ zs, I64 z := by
    intro a0 len cap hv
    subst hv
    obtain ⟨zs, h1, h2, h3, h4⟩ := arg_ints ht he hc (a0 := a0) (len := len) (cap := cap) (by simpa [Value.cells] using h)
    exact ⟨zs, h1, h2, h3, fun z hz => wf_of (h4 z hz)⟩
  rcases open_ints ht he hc h with ⟨hcs, _⟩ | ⟨x, l, c, zs, hcs, _⟩
  · simp only [List.cons.injEq, and_true] at hcs
    obtain ⟨zs, hz⟩ := key _ _ _ hcs
    exact ⟨_, _, _, zs, hcs, hz⟩
  · simp only [List.cons.injEq, and_true] at hcs
    obtain ⟨zs, hz⟩ := key _ _ _ hcs
    exact ⟨_, _, _, zs, hcs, hz⟩
theorem arg_set {r : Reach} {t te : TypeId} {f0 f1 : Field} {v : Value} {d : DataW H} {p : List MemPlace} (hs : P.underlying t = some (.struct #[f0, f1])) (hone : oneCellFields P #[f0, f1] = true) (hC : P.cellsOf t = 2)
    (u0 : P.underlying f0.type = some (.slice te)) (u1 : P.underlying f1.type = some (.slice te)) (he : P.underlying te = some (.int .i64)) (ce : P.cellsOf te = 1)
    (hv : Value.okWide P w r b0 t v) (h : DataW.Trod enc P w base spare held t v d p) : ∃ k : KSet, v = k.val ∧ k.ok w.heap.size w := by
  obtain ⟨c0, c1, y0, y1, m, rfl, _, _, h0, h1⟩ := Go.Joins.open_agg2 hs hone hC hv h
  obtain ⟨a0, n0, cp0, z0, rfl, s0, l0, m0, i0⟩ := arg_ints_cs u0 he ce h0
  obtain ⟨a1, n1, cp1, z1, rfl, s1, l1, m1, i1⟩ := arg_ints_cs u1 he ce h1
  exact ⟨⟨a0, n0, cp0, z0, a1, n1, cp1, z1⟩, rfl, ⟨s0, i0, ⟨l0, m0⟩, s1, i1, ⟨l1, m1⟩⟩⟩
end
end Go.Proofs.Ytfcjalojgmpnoaa
