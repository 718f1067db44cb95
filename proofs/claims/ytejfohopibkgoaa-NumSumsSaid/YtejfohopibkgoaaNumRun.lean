/- Chapter 1's runs, walked. -/
import Derived.Test.YtejfohopibkgoaaNum
import Derived.OpenShut
namespace Go.Proofs.Ytejfohopibkgoaa
open Go.ChangeShapes Go.WideShapes Go.ChangeAt Go.RowKit
set_option linter.unusedVariables false
theorem num_add_top (w : World) : Calls Try.prog 8 #[.int .i64 9223372036854775807, .int .i64 1] w fun e w' => e = .returned (.tuple #[.int .i64 0, .int .i64 3]) ∧ w = w' := by
  have h : ¬ I64 (9223372036854775807 + 1) := by unfold I64; omega
  have := num_add_any 9223372036854775807 1 w (by unfold I64; omega) (by unfold I64; omega)
  rwa [nV_out h, nE_out h] at this
theorem num_div_run (w : World) : Calls Try.prog 9 #[.int .i64 (-7), .int .i64 2] w fun e w' => e = .returned (.tuple #[.int .i64 (-3), .int .i64 0]) ∧ w = w' :=
  num_div_any (-7) 2 w (by unfold I64; omega) (by omega) (by omega)
theorem num_mod_run (w : World) : Calls Try.prog 10 #[.int .i64 (-7), .int .i64 2] w fun e w' => e = .returned (.tuple #[.int .i64 (-1), .int .i64 0]) ∧ w = w' :=
  num_mod_any (-7) 2 w (by omega)
theorem num_up_run (w : World) : Calls Try.prog 11 #[.int .i64 7, .int .i64 3] w fun e w' => e = .returned (.int .i64 3) ∧ w = w' := by
  have := num_up_any 7 3 w (by unfold I64; omega) (by unfold I64; omega) (by omega) (by omega)
  rwa [show nUp 7 3 = 3 from by decide] at this
theorem num_runs (w : World) : Calls Try.prog 3 #[] w fun e w' => e = .returned (.bool true) ∧ w = w' := by
  go_enter Try.func3, Try.ntmps3
  go_wp2_with fail
  refine (num_add_top _).mono ?_; rintro e w' ⟨rfl, rfl⟩
  go_wp2_with fail
  refine (num_div_run _).mono ?_; rintro e w' ⟨rfl, rfl⟩
  go_wp2_with fail
  refine (num_mod_run _).mono ?_; rintro e w' ⟨rfl, rfl⟩
  go_wp2_with fail
  refine (num_div_over _).mono ?_; rintro e w' ⟨rfl, rfl⟩
  go_wp2_with fail
  refine (num_mod_zero _ _).mono ?_; rintro e w' ⟨rfl, rfl⟩
  go_wp2_with (go_at_call 11; refine (num_up_run _).mono ?_; rintro e w' ⟨rfl, rfl⟩)
  go_ret
  exact ⟨rfl, rfl⟩
end Go.Proofs.Ytejfohopibkgoaa
