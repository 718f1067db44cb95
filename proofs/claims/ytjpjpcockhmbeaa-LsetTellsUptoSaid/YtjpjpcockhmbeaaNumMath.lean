/- Plain facts on ints of 64 bits: what fits, what wraps. No program in it. -/
import Derived.RowKit
import Derived.IntWalk
import Derived.Calls
namespace Go.Proofs.Ytjpjpcockhmbeaa
open Go.RowKit
set_option linter.unusedVariables false
theorem ret_int {k : IntKind} {a b : Int} (h : a = b) : Ending.returned (.int k a) = .returned (.int k b) := by rw [h]
theorem ret_int1 {k : IntKind} {a b : Int} {v : Value} (h : a = b) : Ending.returned (.tuple #[.int k a, v]) = .returned (.tuple #[.int k b, v]) := by rw [h]
theorem ret_bool {a b : Bool} (h : a = b) : Ending.returned (.bool a) = .returned (.bool b) := by rw [h]
/-- n fits an int of 64 bits. -/
def I64 (a : Int) : Prop := -9223372036854775808 ≤ a ∧ a ≤ 9223372036854775807
instance (a : Int) : Decidable (I64 a) := by unfold I64; exact inferInstance
/-- The int that is told of a result that would be n. -/
def nV (n : Int) : Int := if I64 n then n else 0
/-- The error beside it. -/
def nE (n : Int) : Int := if I64 n then 0 else 3
def nB (n : Int) : Bool := decide (I64 n)
theorem nV_in {n : Int} (h : I64 n) : nV n = n := by simp [nV, h]
theorem nV_out {n : Int} (h : ¬ I64 n) : nV n = 0 := by simp [nV, h]
theorem nE_in {n : Int} (h : I64 n) : nE n = 0 := by simp [nE, h]
theorem nE_out {n : Int} (h : ¬ I64 n) : nE n = 3 := by simp [nE, h]
theorem nB_in {n : Int} (h : I64 n) : nB n = true := by simp [nB, h]
theorem nB_out {n : Int} (h : ¬ I64 n) : nB n = false := by simp [nB, h]
theorem wf_of {a : Int} (h : (Lit.int .i64 a).wf = true) : I64 a := by
  simpa [Lit.wf, IntKind.min, IntKind.max, IntKind.signed, IntKind.bits, I64] using h
theorem wrap64_of {n : Int} (h : I64 n) : wrap64 n = n := by unfold I64 at h; unfold wrap64; omega
theorem I64_wrap (n : Int) : I64 (wrap64 n) := by unfold I64 wrap64; omega
/-- A wrap that turns a number moves it by whole rounds. -/
theorem wrap64_rounds (n : Int) : ∃ k : Int, wrap64 n = n - k * 18446744073709551616 ∧ (¬ I64 n → k ≠ 0) := by
  refine ⟨(n + 9223372036854775808) / 18446744073709551616, ?_, ?_⟩
  · unfold wrap64; omega
  · intro h; unfold I64 at h; omega
theorem sum_ge {a b : Int} (wa : I64 a) (wb : I64 b) (h : 9223372036854775807 < a + b) : ¬ a < wrap64 (a + b) ∧ 0 < b := by
  unfold wrap64; unfold I64 at *; omega
theorem sum_le {a b : Int} (wa : I64 a) (wb : I64 b) (h : a + b < -9223372036854775808) : a < wrap64 (a + b) ∧ ¬ 0 < b := by
  unfold wrap64; unfold I64 at *; omega
theorem sub_ge {a b : Int} (wa : I64 a) (wb : I64 b) (h : 9223372036854775807 < a - b) : wrap64 (a - b) < a ∧ ¬ 0 < b := by
  unfold wrap64; unfold I64 at *; omega
theorem sub_le {a b : Int} (wa : I64 a) (wb : I64 b) (h : a - b < -9223372036854775808) : ¬ wrap64 (a - b) < a ∧ 0 < b := by
  unfold wrap64; unfold I64 at *; omega
theorem out_cases {n : Int} (h : ¬ I64 n) : 9223372036854775807 < n ∨ n < -9223372036854775808 := by unfold I64 at h; omega
/-- A quotient cut towards nought is no further from nought than what is parted. -/
theorem tdiv_in {a b : Int} (wa : I64 a) (h : ¬ (a = -9223372036854775808 ∧ b = -1)) : I64 (a.tdiv b) := by
  have h1 : (a.tdiv b).natAbs ≤ a.natAbs := by rw [Int.natAbs_tdiv]; exact Nat.div_le_self _ _
  unfold I64 at *
  by_cases hq : a.tdiv b = 9223372036854775808
  · exfalso; apply h
    have ha : a = -9223372036854775808 := by omega
    refine ⟨ha, ?_⟩
    have h2 := Int.natAbs_tdiv a b
    rw [hq, ha] at h2
    have h3 : (9223372036854775808 : Int).natAbs = 9223372036854775808 := rfl
    have h4 : (-9223372036854775808 : Int).natAbs = 9223372036854775808 := rfl
    rw [h3, h4] at h2
    have h5 : b.natAbs = 1 := by
      rcases Nat.lt_or_ge 1 b.natAbs with h6 | h6
      · have := Nat.div_lt_self (n := 9223372036854775808) (k := b.natAbs) (by omega) h6; exact absurd h2 (Nat.ne_of_gt this)
      · rcases Nat.eq_zero_or_pos b.natAbs with h7 | h7
        · rw [h7] at h2; simp at h2
        · omega
    rcases Int.natAbs_eq b with h6 | h6
    · rw [h5] at h6; rw [ha, h6] at hq; simp at hq
    · rw [h5] at h6; exact h6
  · omega
/-- Divided back, a product that has wrapped tells it. -/
theorem mul_wraps {a b : Int} (wa : I64 a) (wb : I64 b) (hb : b ≠ 0) (h : ¬ I64 (a * b)) : wrap64 ((wrap64 (a * b)).tdiv b) ≠ a ∨ b = -1 ∧ a = -9223372036854775808 := by
  by_cases hm : b = -1 ∧ a = -9223372036854775808
  · exact .inr hm
  refine .inl fun he => ?_
  obtain ⟨k, hk, hk0⟩ := wrap64_rounds (a * b)
  have hk0 := hk0 h
  by_cases hp : wrap64 (a * b) = -9223372036854775808 ∧ b = -1
  · obtain ⟨hp, rfl⟩ := hp
    rw [hp] at he
    have : (-9223372036854775808 : Int).tdiv (-1) = 9223372036854775808 := by decide
    rw [this] at he
    have : wrap64 9223372036854775808 = -9223372036854775808 := by unfold wrap64; omega
    omega
  have hi := tdiv_in (I64_wrap (a * b)) (b := b) hp
  rw [wrap64_of hi] at he
  have h1 := Int.mul_tdiv_add_tmod (wrap64 (a * b)) b
  rw [he] at h1
  have h2 := Int.natAbs_tmod (wrap64 (a * b)) b
  have h3 : (wrap64 (a * b)).natAbs % b.natAbs < b.natAbs := Nat.mod_lt _ (by omega)
  have h4 : a * b = b * a := Int.mul_comm _ _
  have h5 : b.natAbs ≤ 9223372036854775808 := by unfold I64 at wb; omega
  generalize (wrap64 (a * b)).tmod b = r at *
  rw [hk, h4] at h1
  omega
theorem mul_stays {a b : Int} (wa : I64 a) (hb : b ≠ 0) (h : I64 (a * b)) : wrap64 ((wrap64 (a * b)).tdiv b) = a ∧ ¬ (b = -1 ∧ a = -9223372036854775808) := by
  rw [wrap64_of h, Int.mul_tdiv_cancel _ hb, wrap64_of wa]
  refine ⟨rfl, ?_⟩
  rintro ⟨rfl, rfl⟩
  revert h; decide
theorem mul_rem {a b : Int} (h : I64 (a * b)) : (wrap64 (a * b)).tmod b = 0 := by
  rw [wrap64_of h, Int.mul_tmod_left]
/-- What ref.Mul asks: divided back, it is the same, and nothing is left, just if it fits. -/
theorem mul_wraps' {a b : Int} (wa : I64 a) (wb : I64 b) (hb : b ≠ 0) (h1 : ¬ (b = -1 ∧ a = -9223372036854775808)) (h : wrap64 ((wrap64 (a * b)).tdiv b) = a) : I64 (a * b) := by
  by_cases hi : I64 (a * b)
  · exact hi
  · rcases mul_wraps wa wb hb hi with h2 | h2
    · exact absurd h h2
    · exact absurd h2 h1
end Go.Proofs.Ytjpjpcockhmbeaa
