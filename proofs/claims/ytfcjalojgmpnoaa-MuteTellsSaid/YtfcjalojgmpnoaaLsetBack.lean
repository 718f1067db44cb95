/- The walk of LsetBack. -/
import Derived.Test.YtfcjalojgmpnoaaCompare
import Derived.Deep.RegionHeld3
import Derived.Deep.DeepCutAuto
namespace Go.Proofs.Ytfcjalojgmpnoaa
open Go.ChangeShapes Go.WideShapes Go.ChangeAt Go.RowKit
set_option linter.unusedVariables false
set_option maxRecDepth 100000
/-- Two sets of numbers, boxed. -/
structure BoxAt (w0 : World) (ka kb : KSet) (ba bb : Nat) (w : World) : Prop where
  okA : ka.ok w0.heap.size w
  okB : kb.ok w0.heap.size w
  boxA : Blk w ba 43 [.slice ka.A ka.n ka.c, .slice ka.A2 ka.n2 ka.c2]
  boxB : Blk w bb 43 [.slice kb.A kb.n kb.c, .slice kb.A2 kb.n2 kb.c2]
  bel : Below w0.heap.size w0 w
theorem BoxAt.below {w0 w w' : World} {ka kb : KSet} {ba bb : Nat} (h : BoxAt w0 ka kb ba bb w) (hb : Below w.heap.size w w') : BoxAt w0 ka kb ba bb w' :=
  ⟨h.okA.below (hb.mono h.bel.size), h.okB.below (hb.mono h.bel.size), h.boxA.below hb h.boxA.lt, h.boxB.below hb h.boxB.lt, h.bel.trans (hb.mono h.bel.size)⟩
theorem BoxAt.drewN {w0 w : World} {ka kb : KSet} {ba bb : Nat} (h : BoxAt w0 ka kb ba bb w) (n : Nat) : BoxAt w0 ka kb ba bb (w.drewN n) :=
  ⟨⟨h.okA.has_.drewN n, h.okA.hasI, h.okA.n_, h.okA.vals_.drewN n, h.okA.valsI, h.okA.n2_⟩, ⟨h.okB.has_.drewN n, h.okB.hasI, h.okB.n_, h.okB.vals_.drewN n, h.okB.valsI, h.okB.n2_⟩, h.boxA.drewN n, h.boxB.drewN n, below_drewN3 h.bel n⟩
theorem BoxAt.cells {w0 w : World} {ka kb : KSet} {ba bb : Nat} (h : BoxAt w0 ka kb ba bb w) : w.cell? ⟨ba, 0, none⟩ = some (.slice ka.A ka.n ka.c) ∧ w.cell? ⟨ba, 1, none⟩ = some (.slice ka.A2 ka.n2 ka.c2) ∧ w.cell? ⟨bb, 0, none⟩ = some (.slice kb.A kb.n kb.c) ∧ w.cell? ⟨bb, 1, none⟩ = some (.slice kb.A2 kb.n2 kb.c2) := by
  have h0 := h.boxA.cell 0
  have h1 := h.boxA.cell 1
  have h2 := h.boxB.cell 0
  have h3 := h.boxB.cell 1
  exact ⟨by simpa using h0, by simpa using h1, by simpa using h2, by simpa using h3⟩
theorem BoxAt.drew {w0 w : World} {ka kb : KSet} {ba bb : Nat} (h : BoxAt w0 ka kb ba bb w) : BoxAt w0 ka kb ba bb w.drew := h.drewN 1
/-- A list that a call made, or one like it. -/
def HasL (w : World) (v : Value) (l : List (ByteArray × ByteArray)) : Prop := ∃ A c, v = .slice A l.length c ∧ Sees w w.heap.size 2 A l.length (lbls l) ∧ l.length ≤ c ∧ c ≤ 9223372036854775807
theorem HasL.below {w w' : World} {v : Value} {l : List (ByteArray × ByteArray)} (h : HasL w v l) (hb : Below w.heap.size w w') : HasL w' v l := by
  obtain ⟨A, c, h1, h2, h3⟩ := h
  exact ⟨A, c, h1, (h2.below hb).more hb.size, h3⟩
theorem HasL.drewN {w : World} {v : Value} {l : List (ByteArray × ByteArray)} (h : HasL w v l) (n : Nat) : HasL (w.drewN n) v l := by
  obtain ⟨A, c, h1, h2, h3⟩ := h
  exact ⟨A, c, h1, h2.drewN n, h3⟩
theorem OwnAns.hasL {w w' : World} {e : Ending} {l : List (ByteArray × ByteArray)} (h : OwnAns 23 2 l.length (lbls l) w e w') : ∃ v, e = .returned v ∧ HasL w' v l ∧ Below w.heap.size w w' := by
  obtain ⟨A, c, h1, h2, h3, h4, h5⟩ := h
  exact ⟨_, h1, ⟨A, c, rfl, Sees.of_own h2, h4, h5⟩, h3⟩
theorem printNil : printL [] = [123, 125] := by decide
/-- Two lists that stay. -/
structure TwoL (w0 : World) (la lb : List (ByteArray × ByteArray)) (va vb : Value) (w : World) : Prop where
  a : HasL w va la
  b : HasL w vb lb
  bel : Below w0.heap.size w0 w
theorem TwoL.below {w0 w w' : World} {la lb : List (ByteArray × ByteArray)} {va vb : Value} (h : TwoL w0 la lb va vb w) (hb : Below w.heap.size w w') : TwoL w0 la lb va vb w' := ⟨h.a.below hb, h.b.below hb, h.bel.trans (hb.mono h.bel.size)⟩
theorem TwoL.drewN {w0 w : World} {la lb : List (ByteArray × ByteArray)} {va vb : Value} (h : TwoL w0 la lb va vb w) (n : Nat) : TwoL w0 la lb va vb (w.drewN n) := ⟨h.a.drewN n, h.b.drewN n, below_drewN3 h.bel n⟩
theorem HasL.slice {w : World} {A : Option Addr} {n c : Nat} {l : List (ByteArray × ByteArray)} (h : HasL w (.slice A n c) l) : Sees w w.heap.size 2 A n (lbls l) ∧ l.length = n ∧ n ≤ c ∧ c ≤ 9223372036854775807 := by
  obtain ⟨A', c', h1, h2, h3, h4⟩ := h
  injection h1 with h1 h5 h6
  subst h1; subst h5; subst h6
  exact ⟨h2, rfl, h3, h4⟩
theorem HasL.form {w : World} {v : Value} {l : List (ByteArray × ByteArray)} (h : HasL w v l) : ∃ A c, v = .slice A l.length c := by
  obtain ⟨A, c, h1, _⟩ := h; exact ⟨A, c, h1⟩
theorem printL_length_le {l : List (ByteArray × ByteArray)} (h : rightS l = true) : (printL l).length ≤ 500 := by
  rw [printL, if_pos h]
  have h1 := joinL_length_le l (rightS_sizes h)
  have h2 := rightS_len h
  have h3 : 76 * l.length ≤ 456 := Nat.mul_le_mul_left 76 h2
  simp only [List.length_cons, List.length_append, List.length_nil]
  omega
end Go.Proofs.Ytfcjalojgmpnoaa
