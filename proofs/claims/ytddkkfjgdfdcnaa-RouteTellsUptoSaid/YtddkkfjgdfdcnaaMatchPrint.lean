/- The text of matchers: match.Print. -/
import Derived.Test.YtddkkfjgdfdcnaaMatchRight
namespace Go.Proofs.Ytddkkfjgdfdcnaa
open Go.ChangeShapes Go.WideShapes Go.ChangeAt Go.RowKit
set_option linter.unusedVariables false
set_option maxRecDepth 100000
/-- One matcher's text. -/
def mtcL (x : Mtc) : List UInt8 := x.1.data.toList ++ ((signF x.2.2).data.toList ++ quoteL x.2.1.data.toList)
/-- Matchers' texts, commas between. -/
def joinM : List Mtc → List UInt8
  | [] => []
  | x :: l => mtcL x ++ (if l.isEmpty then [] else 44 :: joinM l)
theorem joinM_snoc (l : List Mtc) (x : Mtc) : joinM (l ++ [x]) = joinM l ++ (if l.isEmpty then mtcL x else 44 :: mtcL x) := by
  induction l with
  | nil => simp [joinM]
  | cons y l ih =>
    rw [List.cons_append, joinM, joinM, ih]
    cases l <;> simp [joinM]
theorem signF_size (k : Int) : (signF k).size ≤ 2 := by
  unfold signF
  split
  · decide
  · split
    · decide
    · split
      · decide
      · split
        · decide
        · decide
theorem mtcOk_size {x : Mtc} (h : mtcOk x = true) : x.1.size ≤ 24 ∧ x.2.1.size ≤ 24 := by
  simp only [mtcOk, Bool.and_eq_true, decide_eq_true_eq] at h
  exact ⟨(wordF_size h.1).2, h.2.1⟩
theorem mtcL_length_le (x : Mtc) (h1 : x.1.size ≤ 24) (h2 : x.2.1.size ≤ 24) : (mtcL x).length ≤ 76 := by
  have := quoteL_length_le x.2.1.data.toList
  have e1 : x.1.data.toList.length = x.1.size := by simp
  have e2 : x.2.1.data.toList.length = x.2.1.size := by simp
  have e3 : (signF x.2.2).data.toList.length = (signF x.2.2).size := by simp
  have e4 := signF_size x.2.2
  rw [mtcL, List.length_append, List.length_append]; omega
theorem joinM_length_le (l : List Mtc) (h : ∀ x ∈ l, x.1.size ≤ 24 ∧ x.2.1.size ≤ 24) : (joinM l).length ≤ 77 * l.length := by
  induction l with
  | nil => simp [joinM]
  | cons x l ih =>
    have h1 := mtcL_length_le x (h x List.mem_cons_self).1 (h x List.mem_cons_self).2
    have h2 := ih fun y hy => h y (List.mem_cons_of_mem _ hy)
    rw [joinM, List.length_append, List.length_cons]
    split
    · simp; omega
    · rw [List.length_cons]; omega
/-- Right matchers' text; none, if they aren't right. -/
def printM (l : List Mtc) : List UInt8 := if rightM l then 123 :: (joinM l ++ [125]) else []
theorem rightM_len {l : List Mtc} (h : rightM l = true) : l.length ≤ 6 := by simp [rightM] at h; exact h.1
theorem rightM_ok {l : List Mtc} (h : rightM l = true) : ∀ x ∈ l, mtcOk x = true := by
  simp only [rightM, Bool.and_eq_true] at h
  exact List.all_eq_true.1 h.2
theorem rightM_sizes {l : List Mtc} (h : rightM l = true) : ∀ x ∈ l, x.1.size ≤ 24 ∧ x.2.1.size ≤ 24 := fun x hx => mtcOk_size (rightM_ok h x hx)
theorem take_emptyM {l : List Mtc} {k : Nat} (h : k < l.length) : (l.take k).isEmpty = decide (k = 0) := by
  cases k with
  | zero => simp
  | succ k => cases l with
    | nil => simp at h
    | cons x l => simp
end Go.Proofs.Ytddkkfjgdfdcnaa
