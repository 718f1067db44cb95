/- Matchers in parts, in another order; a label more: plain mathematics. -/
import Derived.Test.YtpeakblpmcfdnaaExactMath
namespace Go.Proofs.Ytpeakblpmcfdnaa
open Go.ChangeShapes Go.WideShapes Go.ChangeAt Go.RowKit
set_option linter.unusedVariables false
theorem allF_append (l : List Lbl) (a b : List Mtc) : allF l (a ++ b) = (allF l a && allF l b) := by simp [allF]
theorem allF_parts (l : List Lbl) (a : List Mtc) (c : Nat) : allF l a = (allF l (a.take c) && allF l (a.drop c)) := by rw [← allF_append, List.take_append_drop]
theorem allF_turned (l : List Lbl) (a : List Mtc) (c : Nat) : allF l (a.drop c ++ a.take c) = allF l a := by rw [allF_append, Bool.and_comm, ← allF_parts]
theorem allF_one (l : List Lbl) (x : Mtc) : allF l [x] = holdsF l x := by simp [allF]
theorem allF_nil (l : List Lbl) : allF l [] = true := rfl
theorem holdsF_same {l m : List Lbl} {x : Mtc} (h : getF l x.1 = getF m x.1) : holdsF l x = holdsF m x := by unfold holdsF; rw [h]
theorem allF_same {l m : List Lbl} {a : List Mtc} (h : ∀ x ∈ a, getF l x.1 = getF m x.1) : allF l a = allF m a := by
  induction a with
  | nil => rfl
  | cons x a ih =>
    show (holdsF l x && allF l a) = (holdsF m x && allF m a)
    rw [holdsF_same (h x List.mem_cons_self), ih (fun y hy => h y (List.mem_cons_of_mem _ hy))]
theorem eq_not_ne (l : List Lbl) (n v : ByteArray) : holdsF l (n, v, 2) = !holdsF l (n, v, 1) := rfl
theorem has_not_not (l : List Lbl) (n v : ByteArray) : holdsF l (n, v, 4) = !holdsF l (n, v, 3) := rfl
end Go.Proofs.Ytpeakblpmcfdnaa
