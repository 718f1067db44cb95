/- The contracts of package num: what each function answers, of any two ints. -/
import Derived.Test.YtokcmppcmobbmaaRows
import Derived.Test.YtokcmppcmobbmaaNumMath
import Derived.WalkKit
import Derived.ProofKit
import Derived.Lib.Hide
namespace Go.Proofs.Ytokcmppcmobbmaa
open Go.ChangeShapes Go.WideShapes Go.ChangeAt Go.RowKit
set_option linter.unusedVariables false

/-- A quotient, up to the next whole number. -/
def nUp (a b : Int) : Int := if a < 0 ∨ b < 1 then 0 else (a + b - 1) / b
theorem nUp_up {a b : Int} (ha : 0 ≤ a) (hb : 1 ≤ b) (h : 0 < a % b) : a / b + 1 = nUp a b := by
  unfold nUp
  rw [if_neg (by omega)]
  have h1 := Int.mul_ediv_add_emod a b
  have h2 := Int.emod_lt_of_pos a (show 0 < b by omega)
  have h3 : a + b - 1 = (a % b - 1) + b * (a / b + 1) := by rw [Int.mul_add]; omega
  rw [h3, Int.add_mul_ediv_left _ _ (by omega), Int.ediv_eq_zero_of_lt (a := a % b - 1) (by omega) (by omega)]; omega
theorem nUp_even {a b : Int} (ha : 0 ≤ a) (hb : 1 ≤ b) (h : ¬ 0 < a % b) : a / b = nUp a b := by
  unfold nUp
  rw [if_neg (by omega)]
  have h1 := Int.mul_ediv_add_emod a b
  have h2 := Int.emod_nonneg a (show b ≠ 0 by omega)
  have h3 : a + b - 1 = (b - 1) + b * (a / b) := by omega
  rw [h3, Int.add_mul_ediv_left _ _ (by omega), Int.ediv_eq_zero_of_lt (a := b - 1) (by omega) (by omega)]; omega
theorem num_up_none (a b : Int) (w : World) (h : a < 0 ∨ b < 1) :
    Calls Try.prog 27 #[.int .i64 a, .int .i64 b] w fun e w' => e = .returned (.int .i64 0) ∧ w = w' := by
  by_cases ha : a < 0
  · clear h
    go_enter Try.func27, Try.ntmps27
    go_wp2
    go_ret
    exact ⟨rfl, rfl⟩
  · have hb : b < 1 := by omega
    clear h
    go_enter Try.func27, Try.ntmps27
    go_wp2
    go_ret
    exact ⟨rfl, rfl⟩
theorem num_up_any (a b : Int) (w : World) (wa : I64 a) (wb : I64 b) (ha : 0 ≤ a) (hb : 1 ≤ b) :
    Calls Try.prog 27 #[.int .i64 a, .int .i64 b] w fun e w' => e = .returned (.int .i64 (nUp a b)) ∧ w = w' := by
  have h0 : 0 ≤ a / b := Int.ediv_nonneg ha (by omega)
  have h1 : a / b ≤ a := Int.ediv_le_self b ha
  unfold I64 at wa wb
  by_cases hm : 0 < a % b
  · have HU := Lib.hid (nUp_up ha hb hm)
    have h2 : a / b + 1 ≤ 9223372036854775807 := by
      by_cases h1b : b = 1
      · subst h1b; omega
      · have := Int.mul_ediv_add_emod a b
        have h3 : 2 * (a / b) ≤ b * (a / b) := Int.mul_le_mul_of_nonneg_right (by omega) h0
        omega
    go_enter Try.func27, Try.ntmps27
    go_wp2
    go_ret
    exact ⟨ret_int HU.out, rfl⟩
  · have HU := Lib.hid (nUp_even ha hb hm)
    go_enter Try.func27, Try.ntmps27
    go_wp2
    go_ret
    exact ⟨ret_int HU.out, rfl⟩
end Go.Proofs.Ytokcmppcmobbmaa
