/- Samples as cells. -/
import Derived.Test.YtlcpnlmfnllgmaaAppend
import Derived.Test.YtlcpnlmfnllgmaaNumMath
import Derived.WalkKit
import Derived.ProofKit
namespace Go.Proofs.Ytlcpnlmfnllgmaa
open Go.RowKit
set_option linter.unusedVariables false
/-- Samples as cells: times and values. -/
def smps (l : List (Int × Int)) : List Value := l.flatMap fun x => [.int .i64 x.1, .int .i64 x.2]
theorem smps_length (l : List (Int × Int)) : (smps l).length = l.length * 2 := by
  induction l with
  | nil => rfl
  | cons x l ih => simp only [smps, List.flatMap_cons, List.length_append, List.length_cons, List.length_nil] at ih ⊢; omega
theorem smps_append (l m : List (Int × Int)) : smps (l ++ m) = smps l ++ smps m := by simp [smps]
theorem smps_one (l : List (Int × Int)) : ∀ u ∈ smps l, u.oneCell' = true := by
  intro u hu
  simp only [smps, List.mem_flatMap] at hu
  obtain ⟨x, _, hu⟩ := hu
  simp at hu
  rcases hu with rfl | rfl <;> rfl
theorem smps_get (l : List (Int × Int)) (p : Nat) (h : p < l.length) : (smps l)[p * 2]? = some (.int .i64 l[p].1) ∧ (smps l)[p * 2 + 1]? = some (.int .i64 l[p].2) := by
  have e : smps l = smps (l.take p) ++ (smps [l[p]] ++ smps (l.drop (p + 1))) := by
    rw [← smps_append, ← smps_append, List.singleton_append, ← List.drop_eq_getElem_cons h, List.take_append_drop]
  have hl : (smps (l.take p)).length = p * 2 := by rw [smps_length, List.length_take]; omega
  rw [e]
  refine ⟨?_, ?_⟩
  · rw [List.getElem?_append_right (by omega), hl, Nat.sub_self]; rfl
  · rw [List.getElem?_append_right (by omega), hl, show p * 2 + 1 - p * 2 = 1 by omega]; rfl
theorem Sees.smp {w : World} {B : Nat} {A : Option Addr} {n : Nat} {l : List (Int × Int)} (h : Sees w B 2 A n (smps l)) {k : Nat} (hk : k < n) :
    ∃ ad, ∃ hl : k < l.length, A = some ad ∧ w.cell? (ad.add (k * 2)) = some (.int .i64 l[k].1) ∧ w.cell? ⟨(ad.add (k * 2)).block, (ad.add (k * 2)).off + 1, none⟩ = some (.int .i64 l[k].2) := by
  have hl : k < l.length := by have := h.len; rw [smps_length] at this; omega
  obtain ⟨ad, e, _, hc⟩ := h.at_ (by omega)
  obtain ⟨h0, h1⟩ := smps_get l k hl
  exact ⟨ad, hl, e, hc _ _ h0, by rw [add_spelt _ _ _ (by omega)]; exact hc _ _ h1⟩
theorem Sees.smp_len {w : World} {B : Nat} {A : Option Addr} {n : Nat} {l : List (Int × Int)} (h : Sees w B 2 A n (smps l)) : l.length = n := by
  have := h.len; rw [smps_length] at this; omega
end Go.Proofs.Ytlcpnlmfnllgmaa
