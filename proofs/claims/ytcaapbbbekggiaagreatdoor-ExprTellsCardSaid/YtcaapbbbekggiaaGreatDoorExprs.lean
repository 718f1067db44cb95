/- klaxonkeep.Exprs. -/
import Derived.Test.YtcaapbbbekggiaaGreatDoorDeep
import Derived.Test.YtcaapbbbekggiaaGreatDoorSameMtc
import Derived.Test.YtcaapbbbekggiaaGreatDoorSameStr
namespace Go.Proofs.YtcaapbbbekggiaaGreatDoor
open Go.ChangeShapes Go.WideShapes Go.ChangeAt Go.RowKit
set_option linter.unusedVariables false
set_option linter.unusedSimpArgs false
set_option maxRecDepth 100000
theorem below_dn2 (w : World) (k : Nat) : Below w.heap.size w (w.drewN k) := { size := Nat.le_refl _, os := rfl, tape := rfl, output := rfl, block := fun _ _ => rfl }
mutual
/-- Are two expressions the same. -/
def eqPE : PE → PE → Bool
  | .mk k n ms ns ks, .mk k' n' ms' ns' ks' => decide (k = k') && (decide (n = n') && (decide (ms = ms') && (decide (ns = ns') && eqPs ks ks')))
def eqPs : List PE → List PE → Bool
  | [], [] => true
  | x :: l, y :: m => eqPE x y && eqPs l m
  | [], _ :: _ => false
  | _ :: _, [] => false
end
mutual
theorem eqPE_iff : ∀ (a b : PE), eqPE a b = true ↔ a = b
  | .mk k n ms ns ks, .mk k' n' ms' ns' ks' => by
    unfold eqPE
    rw [Bool.and_eq_true, Bool.and_eq_true, Bool.and_eq_true, Bool.and_eq_true, decide_eq_true_iff, decide_eq_true_iff, decide_eq_true_iff, decide_eq_true_iff, eqPs_iff ks ks']
    constructor
    · rintro ⟨rfl, rfl, rfl, rfl, rfl⟩; rfl
    · intro h; injection h with h1 h2 h3 h4 h5; exact ⟨h1, h2, h3, h4, h5⟩
theorem eqPs_iff : ∀ (a b : List PE), eqPs a b = true ↔ a = b
  | [], [] => by simp [eqPs]
  | x :: l, y :: m => by
    unfold eqPs
    rw [Bool.and_eq_true, eqPE_iff x y, eqPs_iff l m]
    constructor
    · rintro ⟨rfl, rfl⟩; rfl
    · intro h; injection h with h1 h2; exact ⟨h1, h2⟩
  | [], y :: m => by simp [eqPs]
  | x :: l, [] => by simp [eqPs]
end
theorem eqPE_no {a b : PE} (h : a ≠ b) : eqPE a b = false := by
  cases he : eqPE a b with
  | false => rfl
  | true => exact absurd ((eqPE_iff a b).1 he) h
theorem eqPE_yes {a b : PE} (h : a = b) : eqPE a b = true := (eqPE_iff a b).2 h
theorem pesX_get (l : List XE) (i : Nat) (h : i < l.length) : (pesX l)[i]'(by rw [pesX_length]; exact h) = l[i].pe := by
  simp only [pesX_map, List.getElem_map]
end Go.Proofs.YtcaapbbbekggiaaGreatDoor
