/- Labels as cells. -/
import Derived.Test.YtcaapbbbekggiaaGreatDoorBase
import Derived.WalkKit
import Derived.ProofKit
namespace Go.Proofs.YtcaapbbbekggiaaGreatDoor
open Go.RowKit
set_option linter.unusedVariables false
/-- Labels as cells: names and values. -/
def lbls (l : List (ByteArray × ByteArray)) : List Value := l.flatMap fun x => [.string x.1, .string x.2]
theorem lbls_length (l : List (ByteArray × ByteArray)) : (lbls l).length = l.length * 2 := by
  induction l with
  | nil => rfl
  | cons x l ih => simp only [lbls, List.flatMap_cons, List.length_append, List.length_cons, List.length_nil] at ih ⊢; omega
theorem lbls_append (l m : List (ByteArray × ByteArray)) : lbls (l ++ m) = lbls l ++ lbls m := by simp [lbls]
theorem lbls_one (l : List (ByteArray × ByteArray)) : ∀ u ∈ lbls l, u.oneCell' = true := by
  intro u hu
  simp only [lbls, List.mem_flatMap] at hu
  obtain ⟨x, _, hu⟩ := hu
  simp at hu
  rcases hu with rfl | rfl <;> rfl
theorem lbls_get (l : List (ByteArray × ByteArray)) (p : Nat) (h : p < l.length) : (lbls l)[p * 2]? = some (.string l[p].1) ∧ (lbls l)[p * 2 + 1]? = some (.string l[p].2) := by
  have e : lbls l = lbls (l.take p) ++ (lbls [l[p]] ++ lbls (l.drop (p + 1))) := by
    rw [← lbls_append, ← lbls_append, List.singleton_append, ← List.drop_eq_getElem_cons h, List.take_append_drop]
  have hl : (lbls (l.take p)).length = p * 2 := by rw [lbls_length, List.length_take]; omega
  rw [e]
  refine ⟨?_, ?_⟩
  · rw [List.getElem?_append_right (by omega), hl, Nat.sub_self]; rfl
  · rw [List.getElem?_append_right (by omega), hl, show p * 2 + 1 - p * 2 = 1 by omega]; rfl
theorem lbls_take (l : List (ByteArray × ByteArray)) (k : Nat) : (lbls l).take (k * 2) = lbls (l.take k) := by
  by_cases h : k ≤ l.length
  · conv => lhs; rw [← List.take_append_drop k l, lbls_append]
    rw [List.take_append_of_le_length (by rw [lbls_length, List.length_take]; omega), List.take_of_length_le (by rw [lbls_length, List.length_take]; omega)]
  · rw [List.take_of_length_le (by rw [lbls_length]; omega), List.take_of_length_le (by omega)]
theorem lbls_drop (l : List (ByteArray × ByteArray)) (k : Nat) : (lbls l).drop (k * 2) = lbls (l.drop k) := by
  by_cases h : k ≤ l.length
  · have hl : (lbls (l.take k)).length = k * 2 := by rw [lbls_length, List.length_take]; omega
    conv => lhs; rw [← List.take_append_drop k l, lbls_append]
    rw [← hl, List.drop_left]
  · rw [List.drop_of_length_le (by rw [lbls_length]; omega), List.drop_of_length_le (by omega)]; rfl
theorem Sees.lbl {w : World} {B : Nat} {A : Option Addr} {n : Nat} {l : List (ByteArray × ByteArray)} (h : Sees w B 2 A n (lbls l)) {k : Nat} (hk : k < n) :
    ∃ ad, ∃ hl : k < l.length, A = some ad ∧ w.cell? (ad.add (k * 2)) = some (.string l[k].1) ∧ w.cell? ⟨(ad.add (k * 2)).block, (ad.add (k * 2)).off + 1, none⟩ = some (.string l[k].2) := by
  have hl : k < l.length := by have := h.len; rw [lbls_length] at this; omega
  obtain ⟨ad, e, _, hc⟩ := h.at_ (by omega)
  obtain ⟨h0, h1⟩ := lbls_get l k hl
  exact ⟨ad, hl, e, hc _ _ h0, by rw [add_spelt _ _ _ (by omega)]; exact hc _ _ h1⟩
theorem Sees.lbl_len {w : World} {B : Nat} {A : Option Addr} {n : Nat} {l : List (ByteArray × ByteArray)} (h : Sees w B 2 A n (lbls l)) : l.length = n := by
  have := h.len; rw [lbls_length] at this; omega
end Go.Proofs.YtcaapbbbekggiaaGreatDoor
