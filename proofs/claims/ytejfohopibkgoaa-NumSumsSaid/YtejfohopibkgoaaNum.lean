/- The contracts of package num: what each function answers, of any two ints. -/
import Derived.Test.YtejfohopibkgoaaRows
import Derived.Test.YtejfohopibkgoaaNumMath
import Derived.WalkKit
import Derived.ProofKit
import Derived.Lib.Hide
namespace Go.Proofs.Ytejfohopibkgoaa
open Go.ChangeShapes Go.WideShapes Go.ChangeAt Go.RowKit
set_option linter.unusedVariables false

theorem num_add_any (a b : Int) (w : World) (wa : I64 a) (wb : I64 b) :
    Calls Try.prog 8 #[.int .i64 a, .int .i64 b] w fun e w' => e = .returned (.tuple #[.int .i64 (nV (a + b)), .int .i64 (nE (a + b))]) ∧ w = w' := by
  by_cases h : I64 (a + b)
  · rw [nV_in h, nE_in h]
    unfold I64 at *
    by_cases hb : 0 < b
    · have h1 : a < a + b := by omega
      go_enter Try.func8, Try.ntmps8
      go_wp2
      go_ret2
      exact ⟨rfl, rfl⟩
    · have h1 : ¬ a < a + b := by omega
      go_enter Try.func8, Try.ntmps8
      go_wp2
      go_ret2
      exact ⟨rfl, rfl⟩
  · rw [nV_out h, nE_out h]
    rcases out_cases h with h | h
    · obtain ⟨h1, h2⟩ := sum_ge wa wb h
      clear h wa wb
      go_enter Try.func8, Try.ntmps8
      go_wp2
      go_ret2
      exact ⟨rfl, rfl⟩
    · obtain ⟨h1, h2⟩ := sum_le wa wb h
      clear h wa wb
      go_enter Try.func8, Try.ntmps8
      go_wp2
      go_ret2
      exact ⟨rfl, rfl⟩

theorem num_sub_any (a b : Int) (w : World) (wa : I64 a) (wb : I64 b) :
    Calls Try.prog 12 #[.int .i64 a, .int .i64 b] w fun e w' => e = .returned (.tuple #[.int .i64 (nV (a - b)), .int .i64 (nE (a - b))]) ∧ w = w' := by
  by_cases h : I64 (a - b)
  · rw [nV_in h, nE_in h]
    unfold I64 at *
    by_cases hb : 0 < b
    · have h1 : a - b < a := by omega
      go_enter Try.func12, Try.ntmps12
      go_wp2
      go_ret2
      exact ⟨rfl, rfl⟩
    · have h1 : ¬ a - b < a := by omega
      go_enter Try.func12, Try.ntmps12
      go_wp2
      go_ret2
      exact ⟨rfl, rfl⟩
  · rw [nV_out h, nE_out h]
    rcases out_cases h with h | h
    · obtain ⟨h1, h2⟩ := sub_ge wa wb h
      clear h wa wb
      go_enter Try.func12, Try.ntmps12
      go_wp2
      go_ret2
      exact ⟨rfl, rfl⟩
    · obtain ⟨h1, h2⟩ := sub_le wa wb h
      clear h wa wb
      go_enter Try.func12, Try.ntmps12
      go_wp2
      go_ret2
      exact ⟨rfl, rfl⟩
theorem num_mul_any (a b : Int) (w : World) (wa : I64 a) (wb : I64 b) :
    Calls Try.prog 13 #[.int .i64 a, .int .i64 b] w fun e w' => e = .returned (.tuple #[.int .i64 (nV (a * b)), .int .i64 (nE (a * b))]) ∧ w = w' := by
  by_cases hb : b = 0
  · subst hb
    have h : I64 (a * 0) := by rw [Int.mul_zero]; exact ⟨by omega, by omega⟩
    rw [nV_in h, nE_in h, Int.mul_zero]
    clear h wa wb
    go_enter Try.func13, Try.ntmps13
    go_wp2
    go_ret2
    exact ⟨rfl, rfl⟩
  · have hb0 : (b == 0) = false := by simpa using hb
    by_cases h : I64 (a * b)
    · have h2 := mul_stays wa hb h
      rw [nV_in h, nE_in h]
      have HW := Lib.hid (wrap64_of h)
      have HM := Lib.hid h2
      clear h h2 wa wb
      go_enter Try.func13, Try.ntmps13
      go_wp2
      all_goals first
        | (go_ret2; exact ⟨ret_int1 HW.out, rfl⟩)
        | (have hb1 : b = -1 := ‹_›; subst hb1; go_ret2; exact ⟨ret_int1 (by simpa using HW.out), rfl⟩)
        | (exfalso; obtain ⟨h1, h2⟩ := HM.out; first | exact absurd h1 ‹_› | exact h2 ⟨‹b = -1›, by simpa using ‹(a == _) = true›⟩)
    · have h2 := mul_wraps wa wb hb h
      rw [nV_out h, nE_out h]
      have HM := Lib.hid h2
      clear h h2 wa wb
      go_enter Try.func13, Try.ntmps13
      go_wp2
      all_goals first
        | (go_ret2; exact ⟨rfl, rfl⟩)
        | (exfalso; rcases HM.out with h1 | ⟨h1, h2⟩; exact h1 ‹_›; first | exact absurd h1 ‹_› | exact absurd h2 (by simpa using ‹(a == _) = false›))
theorem num_div_zero (a : Int) (w : World) :
    Calls Try.prog 9 #[.int .i64 a, .int .i64 0] w fun e w' => e = .returned (.tuple #[.int .i64 0, .int .i64 4]) ∧ w = w' := by
  go_enter Try.func9, Try.ntmps9
  go_wp2
  go_ret2
  exact ⟨rfl, rfl⟩
theorem num_div_over (w : World) :
    Calls Try.prog 9 #[.int .i64 (-9223372036854775808), .int .i64 (-1)] w fun e w' => e = .returned (.tuple #[.int .i64 0, .int .i64 3]) ∧ w = w' := by
  go_enter Try.func9, Try.ntmps9
  go_wp2
  go_ret2
  exact ⟨rfl, rfl⟩
theorem num_div_any (a b : Int) (w : World) (wa : I64 a) (hb : b ≠ 0) (ho : ¬ (a = -9223372036854775808 ∧ b = -1)) :
    Calls Try.prog 9 #[.int .i64 a, .int .i64 b] w fun e w' => e = .returned (.tuple #[.int .i64 (a.tdiv b), .int .i64 0]) ∧ w = w' := by
  have hb0 : (b == 0) = false := by simpa using hb
  have HD := Lib.hid (wrap64_of (tdiv_in wa ho))
  have HO := Lib.hid ho
  clear wa ho hb
  go_enter Try.func9, Try.ntmps9
  go_wp2
  all_goals first
    | (go_ret2; exact ⟨ret_int1 HD.out, rfl⟩)
    | (have hb1 : b = -1 := ‹_›; subst hb1; go_ret2; exact ⟨ret_int1 (by simpa using HD.out), rfl⟩)
    | (exfalso; first | exact HO.out ⟨by simpa using ‹(a == _) = true›, ‹b = -1›⟩ | (simp at hb0; exact hb0 ‹b = 0›))
theorem num_mod_zero (a : Int) (w : World) :
    Calls Try.prog 10 #[.int .i64 a, .int .i64 0] w fun e w' => e = .returned (.tuple #[.int .i64 0, .int .i64 4]) ∧ w = w' := by
  go_enter Try.func10, Try.ntmps10
  go_wp2
  go_ret2
  exact ⟨rfl, rfl⟩
theorem num_mod_any (a b : Int) (w : World) (hb : b ≠ 0) :
    Calls Try.prog 10 #[.int .i64 a, .int .i64 b] w fun e w' => e = .returned (.tuple #[.int .i64 (a.tmod b), .int .i64 0]) ∧ w = w' := by
  have hb0 : (b == 0) = false := by simpa using hb
  go_enter Try.func10, Try.ntmps10
  go_wp2
  all_goals first
    | (go_ret2; exact ⟨rfl, rfl⟩)
    | (exfalso; simp at hb0; exact hb0 ‹b = 0›)
/-- A quotient, up to the next whole number. -/
def nUp (a b : Int) : Int := if a < 0 ∨ b < 1 then 0 else (a + b - 1) / b
theorem nUp_up {a b : Int} (ha : 0 ≤ a) (hb : 1 ≤ b) (h : 0 < a % b) : a / b + 1 = nUp a b := by
  unfold nUp
  rw [if_neg (by omega)]
  have h1 := Int.mul_ediv_add_emod a b
  have h2 := Int.emod_lt_of_pos a (show 0 < b by omega)
  have h3 : a + b - 1 = (a % b - 1) + b * (a / b + 1) := by rw [Int.mul_add]; omega
  rw [h3, Int.add_mul_ediv_left _ _ (by omega), Int.ediv_eq_zero_of_lt (a := a % b - 1) (by omega) (by omega)]; omega
theorem nUp_even {a b : Int} (ha : 0 ≤ a) (hb : 1 ≤ b) (h : ¬ 0 < a % b) : a / b = nUp a b := by
  unfold nUp
  rw [if_neg (by omega)]
  have h1 := Int.mul_ediv_add_emod a b
  have h2 := Int.emod_nonneg a (show b ≠ 0 by omega)
  have h3 : a + b - 1 = (b - 1) + b * (a / b) := by omega
  rw [h3, Int.add_mul_ediv_left _ _ (by omega), Int.ediv_eq_zero_of_lt (a := b - 1) (by omega) (by omega)]; omega
theorem num_up_none (a b : Int) (w : World) (h : a < 0 ∨ b < 1) :
    Calls Try.prog 11 #[.int .i64 a, .int .i64 b] w fun e w' => e = .returned (.int .i64 0) ∧ w = w' := by
  by_cases ha : a < 0
  · clear h
    go_enter Try.func11, Try.ntmps11
    go_wp2
    go_ret
    exact ⟨rfl, rfl⟩
  · have hb : b < 1 := by omega
    clear h
    go_enter Try.func11, Try.ntmps11
    go_wp2
    go_ret
    exact ⟨rfl, rfl⟩
theorem num_up_any (a b : Int) (w : World) (wa : I64 a) (wb : I64 b) (ha : 0 ≤ a) (hb : 1 ≤ b) :
    Calls Try.prog 11 #[.int .i64 a, .int .i64 b] w fun e w' => e = .returned (.int .i64 (nUp a b)) ∧ w = w' := by
  have h0 : 0 ≤ a / b := Int.ediv_nonneg ha (by omega)
  have h1 : a / b ≤ a := Int.ediv_le_self b ha
  unfold I64 at wa wb
  by_cases hm : 0 < a % b
  · have HU := Lib.hid (nUp_up ha hb hm)
    have h2 : a / b + 1 ≤ 9223372036854775807 := by
      by_cases h1b : b = 1
      · subst h1b; omega
      · have := Int.mul_ediv_add_emod a b
        have h3 : 2 * (a / b) ≤ b * (a / b) := Int.mul_le_mul_of_nonneg_right (by omega) h0
        omega
    go_enter Try.func11, Try.ntmps11
    go_wp2
    go_ret
    exact ⟨ret_int HU.out, rfl⟩
  · have HU := Lib.hid (nUp_even ha hb hm)
    go_enter Try.func11, Try.ntmps11
    go_wp2
    go_ret
    exact ⟨ret_int HU.out, rfl⟩
end Go.Proofs.Ytejfohopibkgoaa
