/- The walk of LsetWith. -/
import Derived.Test.YtpeakblpmcfdnaaHolds
namespace Go.Proofs.Ytpeakblpmcfdnaa
open Go.ChangeShapes Go.WideShapes Go.ChangeAt Go.RowKit
set_option linter.unusedVariables false
set_option maxRecDepth 100000
/-- Lists that stay, and a block of names. -/
structure NmAt (w0 : World) (S : List (Value × List Lbl)) (bn : Nat) (w : World) : Prop where
  h : Holds w0 S w
  nm : Blk w bn 9 (strs keepNames)
section
variable {w0 w w' : World} {S : List (Value × List Lbl)} {bn : Nat}
theorem NmAt.below (h : NmAt w0 S bn w) (hb : Below w.heap.size w w') : NmAt w0 S bn w' := ⟨h.h.below hb, h.nm.below hb h.nm.lt⟩
theorem NmAt.drewN (h : NmAt w0 S bn w) (n : Nat) : NmAt w0 S bn (w.drewN n) := ⟨h.h.drewN n, h.nm.drewN n⟩
theorem NmAt.alloc (h : NmAt w0 S bn w) (o : Obj) : NmAt w0 S bn (w.alloc o) := ⟨h.h.alloc o, h.nm.alloc o⟩
theorem NmAt.add (h : NmAt w0 S bn w) {v : Value} {l : List Lbl} (hv : HasL w v l) : NmAt w0 ((v, l) :: S) bn w := ⟨h.h.add hv, h.nm⟩
theorem NmAt.get (h : NmAt w0 S bn w) {v : Value} {l : List Lbl} (hm : (v, l) ∈ S) : HasL w v l := h.h.get hm
theorem NmAt.bel (h : NmAt w0 S bn w) : Below w0.heap.size w0 w := h.h.2
end
theorem keepValue_ne {q : Nat} (h : q < 8) : (keepValues.getD q ⟨#[]⟩).toList ≠ [] := by
  have h1 := (keepValue_ok h).1
  intro e
  have h2 : (keepValues.getD q ⟨#[]⟩).size = 0 := by
    rw [ByteArray.toList_eq] at e
    have := congrArg List.length e
    simpa using this
  omega
theorem keepName_word4 {q : Nat} (h : q < 4) : wordF (keepNames.getD q ⟨#[]⟩) = true := by
  match q, h with
  | 0, _ => decide
  | 1, _ => decide
  | 2, _ => decide
  | 3, _ => decide
theorem keepNames_cell {w : World} {bn : Nat} (h : Blk w bn 9 (strs keepNames)) {q : Nat} (hq : q < 4) : w.cell? ⟨bn, q, none⟩ = some (.string (keepNames.getD q ⟨#[]⟩)) := by
  rw [h.cell q]
  match q, hq with
  | 0, _ => rfl
  | 1, _ => rfl
  | 2, _ => rfl
  | 3, _ => rfl
theorem keepValues_cell {w : World} {bn : Nat} (h : Blk w bn 9 (strs keepValues)) {q : Nat} (hq : q < 8) : w.cell? ⟨bn, q, none⟩ = some (.string (keepValues.getD q ⟨#[]⟩)) := by
  rw [h.cell q]
  match q, hq with
  | 0, _ => rfl
  | 1, _ => rfl
  | 2, _ => rfl
  | 3, _ => rfl
  | 4, _ => rfl
  | 5, _ => rfl
  | 6, _ => rfl
  | 7, _ => rfl
end Go.Proofs.Ytpeakblpmcfdnaa
