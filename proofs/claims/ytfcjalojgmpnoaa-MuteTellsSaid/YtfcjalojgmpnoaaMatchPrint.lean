/- The text of matchers: match.Print. -/
import Derived.Test.YtfcjalojgmpnoaaMatchRight
namespace Go.Proofs.Ytfcjalojgmpnoaa
open Go.ChangeShapes Go.WideShapes Go.ChangeAt Go.RowKit
set_option linter.unusedVariables false
set_option maxRecDepth 100000
/-- One matcher's text. -/
def mtcL (x : Mtc) : List UInt8 := x.1.data.toList ++ ((signF x.2.2).data.toList ++ quoteL x.2.1.data.toList)
/-- Matchers' texts, commas between. -/
def joinM : List Mtc → List UInt8
  | [] => []
  | x :: l => mtcL x ++ (if l.isEmpty then [] else 44 :: joinM l)
theorem joinM_snoc (l : List Mtc) (x : Mtc) : joinM (l ++ [x]) = joinM l ++ (if l.isEmpty then mtcL x else 44 :: mtcL x) := by
  induction l with
  | nil => simp [joinM]
  | cons y l ih =>
    rw [List.cons_append, joinM, joinM, ih]
    cases l <;> simp [joinM]
theorem signF_size (k : Int) : (signF k).size ≤ 2 := by
  unfold signF
  split
  · decide
  · split
    · decide
    · split
      · decide
      · split
        · decide
        · decide
theorem mtcOk_size {x : Mtc} (h : mtcOk x = true) : x.1.size ≤ 24 ∧ x.2.1.size ≤ 24 := by
  simp only [mtcOk, Bool.and_eq_true, decide_eq_true_eq] at h
  exact ⟨(wordF_size h.1).2, h.2.1⟩
theorem mtcL_length_le (x : Mtc) (h1 : x.1.size ≤ 24) (h2 : x.2.1.size ≤ 24) : (mtcL x).length ≤ 76 := by
  have := quoteL_length_le x.2.1.data.toList
  have e1 : x.1.data.toList.length = x.1.size := by simp
  have e2 : x.2.1.data.toList.length = x.2.1.size := by simp
  have e3 : (signF x.2.2).data.toList.length = (signF x.2.2).size := by simp
  have e4 := signF_size x.2.2
  rw [mtcL, List.length_append, List.length_append]; omega
theorem joinM_length_le (l : List Mtc) (h : ∀ x ∈ l, x.1.size ≤ 24 ∧ x.2.1.size ≤ 24) : (joinM l).length ≤ 77 * l.length := by
  induction l with
  | nil => simp [joinM]
  | cons x l ih =>
    have h1 := mtcL_length_le x (h x List.mem_cons_self).1 (h x List.mem_cons_self).2
    have h2 := ih fun y hy => h y (List.mem_cons_of_mem _ hy)
    rw [joinM, List.length_append, List.length_cons]
    split
    · simp; omega
    · rw [List.length_cons]; omega
/-- Right matchers' text; none, if they aren't right. -/
def printM (l : List Mtc) : List UInt8 := if rightM l then 123 :: (joinM l ++ [125]) else []
theorem rightM_len {l : List Mtc} (h : rightM l = true) : l.length ≤ 6 := by simp [rightM] at h; exact h.1
theorem rightM_ok {l : List Mtc} (h : rightM l = true) : ∀ x ∈ l, mtcOk x = true := by
  simp only [rightM, Bool.and_eq_true] at h
  exact List.all_eq_true.1 h.2
theorem rightM_sizes {l : List Mtc} (h : rightM l = true) : ∀ x ∈ l, x.1.size ≤ 24 ∧ x.2.1.size ≤ 24 := fun x hx => mtcOk_size (rightM_ok h x hx)
theorem take_emptyM {l : List Mtc} {k : Nat} (h : k < l.length) : (l.take k).isEmpty = decide (k = 0) := by
  cases k with
  | zero => simp
  | succ k => cases l with
    | nil => simp at h
    | cons x l => simp
/-- Within Print's round: the builder, the box of the matcher, all that was there. -/
structure MPrintAt (w0 : World) (bb xb : Nat) (a b : ByteArray) (kd : Int) (l : List UInt8) (w : World) : Prop where
  bld : BldAt w bb bb (Lib.byteCells l)
  box : Blk w xb 56 [.string a, .string b, .int .i64 kd]
  bel : Below w0.heap.size w0 w
  big : bb + 1 ≤ w.heap.size
  ne : xb ≠ bb
theorem MPrintAt.kept {w0 w w' : World} {bb xb : Nat} {a b : ByteArray} {kd : Int} {l l' : List UInt8} (h : MPrintAt w0 bb xb a b kd l w) (h0 : w0.heap.size ≤ bb) (hb : BldAt w' bb bb (Lib.byteCells l')) (hk : BldKept bb bb w w') : MPrintAt w0 bb xb a b kd l' w' :=
  ⟨hb, hk.blk h.box h.ne (by decide), h.bel.trans (hk.1.mono h0), Nat.le_trans h.big hk.1.size, h.ne⟩
theorem MPrintAt.below {w0 w w' : World} {bb xb : Nat} {a b : ByteArray} {kd : Int} {l : List UInt8} (h : MPrintAt w0 bb xb a b kd l w) (hb : Below w.heap.size w w') : MPrintAt w0 bb xb a b kd l w' :=
  ⟨h.bld.below hb, h.box.below hb h.box.lt, h.bel.trans (hb.mono h.bel.size), Nat.le_trans h.big hb.size, h.ne⟩
theorem MPrintAt.cells {w0 w : World} {bb xb : Nat} {a b : ByteArray} {kd : Int} {l : List UInt8} (h : MPrintAt w0 bb xb a b kd l w) : w.cell? ⟨xb, 0, none⟩ = some (.string a) ∧ w.cell? ⟨xb, 1, none⟩ = some (.string b) ∧ w.cell? ⟨xb, 2, none⟩ = some (.int .i64 kd) := by
  have e0 := h.box.cell 0
  have e1 := h.box.cell 1
  have e2 := h.box.cell 2
  simp only [List.getElem?_cons_zero, List.getElem?_cons_succ] at e0 e1 e2
  exact ⟨e0, e1, e2⟩
end Go.Proofs.Ytfcjalojgmpnoaa
