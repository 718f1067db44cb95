/- Package span: Turns, Right. -/
import Derived.Test.YtogdollfndpleaaSpanMore
import Derived.Deep.CutBlock
namespace Go.Proofs.Ytogdollfndpleaa
open Go.ChangeShapes Go.WideShapes Go.ChangeAt Go.RowKit
set_option linter.unusedVariables false
set_option maxRecDepth 100000
def turnCells (l : List (Int × Int)) : List Value := l.flatMap fun x => [.int .i64 x.1, .int .i64 x.2, .slice none 0 0]
theorem turnCells_length (l : List (Int × Int)) : (turnCells l).length = l.length * 3 := by
  induction l with
  | nil => rfl
  | cons x l ih => simp only [turnCells, List.flatMap_cons, List.length_append, List.length_cons, List.length_nil] at ih ⊢; omega
theorem turnCells_append (l m : List (Int × Int)) : turnCells (l ++ m) = turnCells l ++ turnCells m := by simp [turnCells]
theorem turnCells_get (l : List (Int × Int)) (p : Nat) (h : p < l.length) : (turnCells l)[p * 3]? = some (.int .i64 l[p].1) ∧ (turnCells l)[p * 3 + 1]? = some (.int .i64 l[p].2) ∧ (turnCells l)[p * 3 + 2]? = some (.slice none 0 0) := by
  have e : turnCells l = turnCells (l.take p) ++ (turnCells [l[p]] ++ turnCells (l.drop (p + 1))) := by
    rw [← turnCells_append, ← turnCells_append, List.singleton_append, ← List.drop_eq_getElem_cons h, List.take_append_drop]
  have hl : (turnCells (l.take p)).length = p * 3 := by rw [turnCells_length, List.length_take]; omega
  rw [e]
  refine ⟨?_, ?_, ?_⟩
  · rw [List.getElem?_append_right (by omega), hl, Nat.sub_self]; rfl
  · rw [List.getElem?_append_right (by omega), hl, show p * 3 + 1 - p * 3 = 1 by omega]; rfl
  · rw [List.getElem?_append_right (by omega), hl, show p * 3 + 2 - p * 3 = 2 by omega]; rfl
/-- A turn of a slice of turns: its cells, by its place. -/
theorem Sees.turn {w : World} {B : Nat} {A : Option Addr} {n : Nat} {l : List (Int × Int)} (h : Sees w B 3 A n (turnCells l)) {k : Nat} (hk : k < n) :
    ∃ ad, ∃ hl : k < l.length, A = some ad ∧ w.cell? (ad.add (k * 3)) = some (.int .i64 l[k].1) ∧ w.cell? ⟨(ad.add (k * 3)).block, (ad.add (k * 3)).off + 1, none⟩ = some (.int .i64 l[k].2) ∧ w.cell? ⟨(ad.add (k * 3)).block, (ad.add (k * 3)).off + 2, none⟩ = some (.slice none 0 0) := by
  have hl : k < l.length := by have := h.len; rw [turnCells_length] at this; omega
  obtain ⟨ad, e, _, hc⟩ := h.at_ (by omega)
  obtain ⟨h0, h1, h2⟩ := turnCells_get l k hl
  exact ⟨ad, hl, e, hc _ _ h0, by rw [add_spelt _ _ _ (by omega)]; exact hc _ _ h1, by rw [add_spelt _ _ _ (by omega)]; exact hc _ _ h2⟩
theorem Sees.turn_len {w : World} {B : Nat} {A : Option Addr} {n : Nat} {l : List (Int × Int)} (h : Sees w B 3 A n (turnCells l)) : l.length = n := by
  have := h.len; rw [turnCells_length] at this; omega
theorem turnCells_one (l : List (Int × Int)) : ∀ u ∈ turnCells l, u.oneCell' = true := by
  intro u hu
  simp only [turnCells, List.mem_flatMap] at hu
  obtain ⟨x, _, hu⟩ := hu
  simp at hu
  rcases hu with rfl | rfl | rfl <;> rfl
theorem turn_sees {w : World} {t : TypeId} (a b : Int) : Sees (w.alloc (.cells #[.int .i64 a, .int .i64 b, .slice none 0 0] t)) (w.alloc (.cells #[.int .i64 a, .int .i64 b, .slice none 0 0] t)).heap.size 3 (some ⟨w.heap.size, 0, none⟩) 1 (turnCells [(a, b)]) := by
  have hk : Blk (w.alloc (.cells #[.int .i64 a, .int .i64 b, .slice none 0 0] t)) w.heap.size t (turnCells [(a, b)]) := Blk.mk (heap_alloc_new w _)
  exact hk.sees (turnCells_length _) (List.prefix_refl _)
/-- The state at t. -/
def stateF (p f : List (Int × Int)) (t : Int) : Int := if hasF p t = true then 1 else if hasF f t = true then 2 else 0
def turnsG (p f : List (Int × Int)) : Int → Int → Nat → List (Int × Int)
  | _, _, 0 => []
  | a, t, n + 1 => (if stateF p f t = a then [] else [(t, stateF p f t)]) ++ turnsG p f (stateF p f t) (t + 1) n
def turnsN (n : Int) : Nat := (if 201 < n then 201 else n).toNat
end Go.Proofs.Ytogdollfndpleaa
