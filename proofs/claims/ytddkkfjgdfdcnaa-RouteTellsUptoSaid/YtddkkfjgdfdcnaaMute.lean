/- mute.Silenced, Inhibited, Heard. -/
import Derived.Test.YtddkkfjgdfdcnaaMuteMath
import Derived.Deep.CutBlock
import Derived.Deep.DeepCutAuto
namespace Go.Proofs.Ytddkkfjgdfdcnaa
open Go.ChangeShapes Go.WideShapes Go.ChangeAt Go.RowKit
set_option linter.unusedVariables false
set_option maxRecDepth 100000
theorem all_h {W : World} {v vm : Value} {l : List Lbl} {ms : List Mtc} (h : HasL W v l) (h2 : HasM W vm ms) :
    Calls Try.prog 29 #[v, vm] W fun e w' => e = .returned (.bool (allF l ms)) ∧ Below W.heap.size W w' := by
  obtain ⟨A, c, rfl, h3, h4, h5⟩ := h
  obtain ⟨A2, c2, rfl, k3, k4, k5⟩ := h2
  exact all_any A _ c _ l A2 _ c2 _ ms W h3 (Nat.le_refl _) (by omega) k3 (Nat.le_refl _) (by omega)
theorem HasM.form {w : World} {v : Value} {l : List Mtc} (h : HasM w v l) : ∃ A c, v = .slice A l.length c := by
  obtain ⟨A, c, h1, _⟩ := h; exact ⟨A, c, h1⟩
theorem HasS.form {w : World} {v : Value} {l : List ByteArray} (h : HasS w v l) : ∃ A c, v = .slice A l.length c ∧ l.length ≤ c ∧ c ≤ 9223372036854775807 := by
  obtain ⟨A, c, h1, _, h2⟩ := h; exact ⟨A, c, h1, h2⟩
theorem HasS.sees {w : World} {A : Option Addr} {n c : Nat} {l : List ByteArray} (h : HasS w (.slice A n c) l) : Sees w w.heap.size 1 A n (strs l) := by
  obtain ⟨A', c', h1, h2, h3, h4⟩ := h
  injection h1 with h1 h5 h6
  subst h1; subst h5; subst h6
  exact h2
theorem silOne_no {l : List Lbl} {t : Int} {s : Sil} (h : ¬ s.f ≤ t ∨ ¬ t < s.t ∨ allF l s.ms = false) : silOne l t s = false := by
  unfold silOne
  rcases h with h | h | h
  · rw [decide_eq_false h, Bool.false_and]
  · rw [decide_eq_false h, Bool.false_and, Bool.and_false]
  · rw [h, Bool.and_false, Bool.and_false]
theorem silOne_yes {l : List Lbl} {t : Int} {s : Sil} (h : s.f ≤ t) (h2 : t < s.t) (h3 : allF l s.ms = true) : silOne l t s = true := by
  unfold silOne; rw [decide_eq_true h, decide_eq_true h2, h3]; rfl
end Go.Proofs.Ytddkkfjgdfdcnaa
