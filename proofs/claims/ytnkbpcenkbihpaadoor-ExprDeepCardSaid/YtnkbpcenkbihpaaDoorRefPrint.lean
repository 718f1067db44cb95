/- klaxonref7: matchers, Aggs, Ops, Print. -/
import Derived.Test.YtnkbpcenkbihpaaDoorRefQuote
import Derived.Test.YtnkbpcenkbihpaaDoorGood
import Derived.Test.YtnkbpcenkbihpaaDoorBase
import Derived.Deep.CutBlock
import Derived.Deep.DeepCutAuto
import Derived.Deep.RegionLaw
namespace Go.Proofs.YtnkbpcenkbihpaaDoor
open Go.ChangeShapes Go.WideShapes Go.ChangeAt Go.RowKit
set_option linter.unusedVariables false
set_option linter.unusedSimpArgs false
set_option maxRecDepth 100000
def signs5 : List ByteArray := [⟨#[]⟩, ⟨#[61]⟩, ⟨#[33, 61]⟩, ⟨#[94, 61]⟩, ⟨#[33, 94]⟩]
theorem signs5_at : ∀ q : Nat, 1 ≤ q → q ≤ 4 → signs5[q]? = some (signF q) := by
  intro q h1 h4
  match q, h1, h4 with
  | 1, _, _ => rfl
  | 2, _, _ => rfl
  | 3, _, _ => rfl
  | 4, _, _ => rfl
theorem signF_size (k : Int) : (signF k).size ≤ 2 := by
  unfold signF
  split
  · decide
  · split
    · decide
    · split
      · decide
      · split <;> decide
/-- A matcher that can be printed. -/
def MtcFits (m : Mtc) : Prop := m.1.size ≤ 24 ∧ m.2.1.size ≤ 24 ∧ 1 ≤ m.2.2 ∧ m.2.2 ≤ 4
theorem ba_len (a : ByteArray) : a.data.toList.length = a.size := by simp
theorem mtcL_len {m : Mtc} (h : MtcFits m) : (mtcL m).length ≤ 76 := by
  unfold mtcL
  rw [List.length_append, List.length_append, ba_len, ba_len]
  have h1 := h.1
  have h2 := quoteL_length_le m.2.1.data.toList
  rw [ba_len] at h2
  have h3 := h.2.1
  have h4 := signF_size m.2.2
  omega
theorem joinM_len : ∀ {l : List Mtc}, (∀ m ∈ l, MtcFits m) → (joinM l).length ≤ 77 * l.length
  | [], _ => by simp [joinM]
  | x :: l, h => by
    have h1 := mtcL_len (h x List.mem_cons_self)
    have h2 := joinM_len (l := l) (fun m hm => h m (List.mem_cons_of_mem _ hm))
    unfold joinM
    rw [List.length_append, List.length_cons]
    split
    · simp; omega
    · rw [List.length_cons]; omega
/-- Within matchers' loop. -/
structure MsAt (w0 : World) (gs : Nat) (A : Option Addr) (n : Nat) (l : List Mtc) (w : World) : Prop where
  sg : Blk w gs 9 (strs signs5)
  ms : Sees w w0.heap.size 3 A n (mtcs l)
  bel : Below w0.heap.size w0 w
theorem MsAt.below {w0 w w' : World} {gs : Nat} {A : Option Addr} {n : Nat} {l : List Mtc} (h : MsAt w0 gs A n l w) (hb : Below w.heap.size w w') : MsAt w0 gs A n l w' :=
  ⟨h.sg.below hb h.sg.lt, h.ms.below (hb.mono h.bel.size), h.bel.trans (hb.mono h.bel.size)⟩
end Go.Proofs.YtnkbpcenkbihpaaDoor
