/- The walk of NumTells, out of the contracts. -/
import Derived.Test.YtejfohopibkgoaaNumRun
import Derived.Test.YtejfohopibkgoaaNumRef
namespace Go.Proofs.Ytejfohopibkgoaa
open Go.ChangeShapes Go.WideShapes Go.ChangeAt Go.RowKit
set_option linter.unusedVariables false
set_option maxRecDepth 100000

/-- What is asked behind the first test: the quotients. -/
def QuoAsk (a b q h m i : Int) : Prop :=
  ((b == 0) = true ∧ q = 0 ∧ h = 4 ∧ m = 0 ∧ i = 4) ∨ ((b == 0) = false ∧ (a == -9223372036854775808) = true ∧ (b == -1) = true ∧ q = 0 ∧ h = 3 ∧ m = 0 ∧ i = 0) ∨
  ((b == 0) = false ∧ ((a == -9223372036854775808) = false ∨ (a == -9223372036854775808) = true ∧ (b == -1) = false) ∧ wrap64 (a.tdiv b) = a.tdiv b ∧ q = a.tdiv b ∧ h = 0 ∧ m = a.tmod b ∧ i = 0)

set_option maxHeartbeats 400000 in
theorem tells_fff0 (a b va vm z q h m i : Int) (w : World)
    (c8 : Hid (∀ w, Calls Try.prog 8 #[.int .i64 a, .int .i64 b] w fun e w' => e = .returned (.tuple #[.int .i64 va, .int .i64 (cond false 0 3)]) ∧ w = w'))
    (c12 : Hid (∀ w, Calls Try.prog 12 #[.int .i64 a, .int .i64 b] w fun e w' => e = .returned (.tuple #[.int .i64 (cond false z 0), .int .i64 (cond false 0 3)]) ∧ w = w'))
    (c13 : Hid (∀ w, Calls Try.prog 13 #[.int .i64 a, .int .i64 b] w fun e w' => e = .returned (.tuple #[.int .i64 vm, .int .i64 (cond false 0 3)]) ∧ w = w'))
    (c14 : Hid (∀ w, Calls Try.prog 14 #[.int .i64 a, .int .i64 b] w fun e w' => e = .returned (.tuple #[.int .i64 va, .bool false]) ∧ w = w'))
    (c15 : Hid (∀ w, Calls Try.prog 15 #[.int .i64 a, .int .i64 b] w fun e w' => e = .returned (.tuple #[.int .i64 vm, .bool false]) ∧ w = w'))
    (c9 : Hid (∀ w, Calls Try.prog 9 #[.int .i64 a, .int .i64 b] w fun e w' => e = .returned (.tuple #[.int .i64 q, .int .i64 h]) ∧ w = w'))
    (c10 : Hid (∀ w, Calls Try.prog 10 #[.int .i64 a, .int .i64 b] w fun e w' => e = .returned (.tuple #[.int .i64 m, .int .i64 i]) ∧ w = w'))
    (hz : wrap64 (a - b) = z) (hin : (decide (z < a) == decide (0 < b)) = false) (hq : (b == 0) = true ∧ q = 0 ∧ h = 4 ∧ m = 0 ∧ i = 4) :
    Calls Try.prog 4 #[.int .i64 a, .int .i64 b] w fun e w' => e = .returned (.bool true) ∧ w = w' := by
  obtain ⟨h1, rfl, rfl, rfl, rfl⟩ := hq
  go_enter Try.func4, Try.ntmps4
  go_wp2_with fail
  refine (c8.out _).mono ?_; rintro e w' ⟨rfl, rfl⟩
  go_wp2_with fail
  refine (c12.out _).mono ?_; rintro e w' ⟨rfl, rfl⟩
  go_wp2_with fail
  refine (c13.out _).mono ?_; rintro e w' ⟨rfl, rfl⟩
  go_wp2_with fail
  refine (c14.out _).mono ?_; rintro e w' ⟨rfl, rfl⟩
  go_wp2_with fail
  refine (c15.out _).mono ?_; rintro e w' ⟨rfl, rfl⟩
  go_wp2_with fail
  refine (c9.out _).mono ?_; rintro e w' ⟨rfl, rfl⟩
  go_wp2_with fail
  refine (c10.out _).mono ?_; rintro e w' ⟨rfl, rfl⟩
  go_wp2_with fail
  refine (num_runs _).mono ?_; rintro e w' ⟨rfl, rfl⟩
  go_wp2_with fail
  go_ret
  exact ⟨rfl, rfl⟩
set_option maxHeartbeats 400000 in
theorem tells_fff1 (a b va vm z q h m i : Int) (w : World)
    (c8 : Hid (∀ w, Calls Try.prog 8 #[.int .i64 a, .int .i64 b] w fun e w' => e = .returned (.tuple #[.int .i64 va, .int .i64 (cond false 0 3)]) ∧ w = w'))
    (c12 : Hid (∀ w, Calls Try.prog 12 #[.int .i64 a, .int .i64 b] w fun e w' => e = .returned (.tuple #[.int .i64 (cond false z 0), .int .i64 (cond false 0 3)]) ∧ w = w'))
    (c13 : Hid (∀ w, Calls Try.prog 13 #[.int .i64 a, .int .i64 b] w fun e w' => e = .returned (.tuple #[.int .i64 vm, .int .i64 (cond false 0 3)]) ∧ w = w'))
    (c14 : Hid (∀ w, Calls Try.prog 14 #[.int .i64 a, .int .i64 b] w fun e w' => e = .returned (.tuple #[.int .i64 va, .bool false]) ∧ w = w'))
    (c15 : Hid (∀ w, Calls Try.prog 15 #[.int .i64 a, .int .i64 b] w fun e w' => e = .returned (.tuple #[.int .i64 vm, .bool false]) ∧ w = w'))
    (c9 : Hid (∀ w, Calls Try.prog 9 #[.int .i64 a, .int .i64 b] w fun e w' => e = .returned (.tuple #[.int .i64 q, .int .i64 h]) ∧ w = w'))
    (c10 : Hid (∀ w, Calls Try.prog 10 #[.int .i64 a, .int .i64 b] w fun e w' => e = .returned (.tuple #[.int .i64 m, .int .i64 i]) ∧ w = w'))
    (hz : wrap64 (a - b) = z) (hin : (decide (z < a) == decide (0 < b)) = false) (hq : (b == 0) = false ∧ (a == -9223372036854775808) = true ∧ (b == -1) = true ∧ q = 0 ∧ h = 3 ∧ m = 0 ∧ i = 0) :
    Calls Try.prog 4 #[.int .i64 a, .int .i64 b] w fun e w' => e = .returned (.bool true) ∧ w = w' := by
  obtain ⟨h1, h2, h3, rfl, rfl, rfl, rfl⟩ := hq
  go_enter Try.func4, Try.ntmps4
  go_wp2_with fail
  refine (c8.out _).mono ?_; rintro e w' ⟨rfl, rfl⟩
  go_wp2_with fail
  refine (c12.out _).mono ?_; rintro e w' ⟨rfl, rfl⟩
  go_wp2_with fail
  refine (c13.out _).mono ?_; rintro e w' ⟨rfl, rfl⟩
  go_wp2_with fail
  refine (c14.out _).mono ?_; rintro e w' ⟨rfl, rfl⟩
  go_wp2_with fail
  refine (c15.out _).mono ?_; rintro e w' ⟨rfl, rfl⟩
  go_wp2_with fail
  refine (c9.out _).mono ?_; rintro e w' ⟨rfl, rfl⟩
  go_wp2_with fail
  refine (c10.out _).mono ?_; rintro e w' ⟨rfl, rfl⟩
  go_wp2_with fail
  refine (num_runs _).mono ?_; rintro e w' ⟨rfl, rfl⟩
  go_wp2_with fail
  go_ret
  exact ⟨rfl, rfl⟩
set_option maxHeartbeats 400000 in
theorem tells_fff2 (a b va vm z q h m i : Int) (w : World)
    (c8 : Hid (∀ w, Calls Try.prog 8 #[.int .i64 a, .int .i64 b] w fun e w' => e = .returned (.tuple #[.int .i64 va, .int .i64 (cond false 0 3)]) ∧ w = w'))
    (c12 : Hid (∀ w, Calls Try.prog 12 #[.int .i64 a, .int .i64 b] w fun e w' => e = .returned (.tuple #[.int .i64 (cond false z 0), .int .i64 (cond false 0 3)]) ∧ w = w'))
    (c13 : Hid (∀ w, Calls Try.prog 13 #[.int .i64 a, .int .i64 b] w fun e w' => e = .returned (.tuple #[.int .i64 vm, .int .i64 (cond false 0 3)]) ∧ w = w'))
    (c14 : Hid (∀ w, Calls Try.prog 14 #[.int .i64 a, .int .i64 b] w fun e w' => e = .returned (.tuple #[.int .i64 va, .bool false]) ∧ w = w'))
    (c15 : Hid (∀ w, Calls Try.prog 15 #[.int .i64 a, .int .i64 b] w fun e w' => e = .returned (.tuple #[.int .i64 vm, .bool false]) ∧ w = w'))
    (c9 : Hid (∀ w, Calls Try.prog 9 #[.int .i64 a, .int .i64 b] w fun e w' => e = .returned (.tuple #[.int .i64 q, .int .i64 h]) ∧ w = w'))
    (c10 : Hid (∀ w, Calls Try.prog 10 #[.int .i64 a, .int .i64 b] w fun e w' => e = .returned (.tuple #[.int .i64 m, .int .i64 i]) ∧ w = w'))
    (hz : wrap64 (a - b) = z) (hin : (decide (z < a) == decide (0 < b)) = false) (hq : (b == 0) = false ∧ ((a == -9223372036854775808) = false ∨ (a == -9223372036854775808) = true ∧ (b == -1) = false) ∧ wrap64 (a.tdiv b) = a.tdiv b ∧ q = a.tdiv b ∧ h = 0 ∧ m = a.tmod b ∧ i = 0) :
    Calls Try.prog 4 #[.int .i64 a, .int .i64 b] w fun e w' => e = .returned (.bool true) ∧ w = w' := by
  obtain ⟨h1, h2, h3, rfl, rfl, rfl, rfl⟩ := hq
  have hb : ¬ b = 0 := by simpa using h1
  have HQ := Lib.hid h3; clear h3
  rcases h2 with h2 | ⟨h2, h4⟩
  all_goals
    go_enter Try.func4, Try.ntmps4
    go_wp2_with fail
    refine (c8.out _).mono ?_; rintro e w' ⟨rfl, rfl⟩
    go_wp2_with fail
    refine (c12.out _).mono ?_; rintro e w' ⟨rfl, rfl⟩
    go_wp2_with fail
    refine (c13.out _).mono ?_; rintro e w' ⟨rfl, rfl⟩
    go_wp2_with fail
    refine (c14.out _).mono ?_; rintro e w' ⟨rfl, rfl⟩
    go_wp2_with fail
    refine (c15.out _).mono ?_; rintro e w' ⟨rfl, rfl⟩
    go_wp2_with fail
    refine (c9.out _).mono ?_; rintro e w' ⟨rfl, rfl⟩
    go_wp2_with fail
    refine (c10.out _).mono ?_; rintro e w' ⟨rfl, rfl⟩
    have h3 := HQ.out
    go_wp2_with fail
    refine (num_runs _).mono ?_; rintro e w' ⟨rfl, rfl⟩
    go_wp2_with fail
    go_ret
    exact ⟨rfl, rfl⟩
set_option maxHeartbeats 400000 in
theorem tells_fft0 (a b va vm z q h m i : Int) (w : World)
    (c8 : Hid (∀ w, Calls Try.prog 8 #[.int .i64 a, .int .i64 b] w fun e w' => e = .returned (.tuple #[.int .i64 va, .int .i64 (cond false 0 3)]) ∧ w = w'))
    (c12 : Hid (∀ w, Calls Try.prog 12 #[.int .i64 a, .int .i64 b] w fun e w' => e = .returned (.tuple #[.int .i64 (cond false z 0), .int .i64 (cond false 0 3)]) ∧ w = w'))
    (c13 : Hid (∀ w, Calls Try.prog 13 #[.int .i64 a, .int .i64 b] w fun e w' => e = .returned (.tuple #[.int .i64 vm, .int .i64 (cond true 0 3)]) ∧ w = w'))
    (c14 : Hid (∀ w, Calls Try.prog 14 #[.int .i64 a, .int .i64 b] w fun e w' => e = .returned (.tuple #[.int .i64 va, .bool false]) ∧ w = w'))
    (c15 : Hid (∀ w, Calls Try.prog 15 #[.int .i64 a, .int .i64 b] w fun e w' => e = .returned (.tuple #[.int .i64 vm, .bool true]) ∧ w = w'))
    (c9 : Hid (∀ w, Calls Try.prog 9 #[.int .i64 a, .int .i64 b] w fun e w' => e = .returned (.tuple #[.int .i64 q, .int .i64 h]) ∧ w = w'))
    (c10 : Hid (∀ w, Calls Try.prog 10 #[.int .i64 a, .int .i64 b] w fun e w' => e = .returned (.tuple #[.int .i64 m, .int .i64 i]) ∧ w = w'))
    (hz : wrap64 (a - b) = z) (hin : (decide (z < a) == decide (0 < b)) = false) (hq : (b == 0) = true ∧ q = 0 ∧ h = 4 ∧ m = 0 ∧ i = 4) :
    Calls Try.prog 4 #[.int .i64 a, .int .i64 b] w fun e w' => e = .returned (.bool true) ∧ w = w' := by
  obtain ⟨h1, rfl, rfl, rfl, rfl⟩ := hq
  go_enter Try.func4, Try.ntmps4
  go_wp2_with fail
  refine (c8.out _).mono ?_; rintro e w' ⟨rfl, rfl⟩
  go_wp2_with fail
  refine (c12.out _).mono ?_; rintro e w' ⟨rfl, rfl⟩
  go_wp2_with fail
  refine (c13.out _).mono ?_; rintro e w' ⟨rfl, rfl⟩
  go_wp2_with fail
  refine (c14.out _).mono ?_; rintro e w' ⟨rfl, rfl⟩
  go_wp2_with fail
  refine (c15.out _).mono ?_; rintro e w' ⟨rfl, rfl⟩
  go_wp2_with fail
  refine (c9.out _).mono ?_; rintro e w' ⟨rfl, rfl⟩
  go_wp2_with fail
  refine (c10.out _).mono ?_; rintro e w' ⟨rfl, rfl⟩
  go_wp2_with fail
  refine (num_runs _).mono ?_; rintro e w' ⟨rfl, rfl⟩
  go_wp2_with fail
  go_ret
  exact ⟨rfl, rfl⟩
set_option maxHeartbeats 400000 in
theorem tells_fft1 (a b va vm z q h m i : Int) (w : World)
    (c8 : Hid (∀ w, Calls Try.prog 8 #[.int .i64 a, .int .i64 b] w fun e w' => e = .returned (.tuple #[.int .i64 va, .int .i64 (cond false 0 3)]) ∧ w = w'))
    (c12 : Hid (∀ w, Calls Try.prog 12 #[.int .i64 a, .int .i64 b] w fun e w' => e = .returned (.tuple #[.int .i64 (cond false z 0), .int .i64 (cond false 0 3)]) ∧ w = w'))
    (c13 : Hid (∀ w, Calls Try.prog 13 #[.int .i64 a, .int .i64 b] w fun e w' => e = .returned (.tuple #[.int .i64 vm, .int .i64 (cond true 0 3)]) ∧ w = w'))
    (c14 : Hid (∀ w, Calls Try.prog 14 #[.int .i64 a, .int .i64 b] w fun e w' => e = .returned (.tuple #[.int .i64 va, .bool false]) ∧ w = w'))
    (c15 : Hid (∀ w, Calls Try.prog 15 #[.int .i64 a, .int .i64 b] w fun e w' => e = .returned (.tuple #[.int .i64 vm, .bool true]) ∧ w = w'))
    (c9 : Hid (∀ w, Calls Try.prog 9 #[.int .i64 a, .int .i64 b] w fun e w' => e = .returned (.tuple #[.int .i64 q, .int .i64 h]) ∧ w = w'))
    (c10 : Hid (∀ w, Calls Try.prog 10 #[.int .i64 a, .int .i64 b] w fun e w' => e = .returned (.tuple #[.int .i64 m, .int .i64 i]) ∧ w = w'))
    (hz : wrap64 (a - b) = z) (hin : (decide (z < a) == decide (0 < b)) = false) (hq : (b == 0) = false ∧ (a == -9223372036854775808) = true ∧ (b == -1) = true ∧ q = 0 ∧ h = 3 ∧ m = 0 ∧ i = 0) :
    Calls Try.prog 4 #[.int .i64 a, .int .i64 b] w fun e w' => e = .returned (.bool true) ∧ w = w' := by
  obtain ⟨h1, h2, h3, rfl, rfl, rfl, rfl⟩ := hq
  go_enter Try.func4, Try.ntmps4
  go_wp2_with fail
  refine (c8.out _).mono ?_; rintro e w' ⟨rfl, rfl⟩
  go_wp2_with fail
  refine (c12.out _).mono ?_; rintro e w' ⟨rfl, rfl⟩
  go_wp2_with fail
  refine (c13.out _).mono ?_; rintro e w' ⟨rfl, rfl⟩
  go_wp2_with fail
  refine (c14.out _).mono ?_; rintro e w' ⟨rfl, rfl⟩
  go_wp2_with fail
  refine (c15.out _).mono ?_; rintro e w' ⟨rfl, rfl⟩
  go_wp2_with fail
  refine (c9.out _).mono ?_; rintro e w' ⟨rfl, rfl⟩
  go_wp2_with fail
  refine (c10.out _).mono ?_; rintro e w' ⟨rfl, rfl⟩
  go_wp2_with fail
  refine (num_runs _).mono ?_; rintro e w' ⟨rfl, rfl⟩
  go_wp2_with fail
  go_ret
  exact ⟨rfl, rfl⟩
set_option maxHeartbeats 400000 in
theorem tells_fft2 (a b va vm z q h m i : Int) (w : World)
    (c8 : Hid (∀ w, Calls Try.prog 8 #[.int .i64 a, .int .i64 b] w fun e w' => e = .returned (.tuple #[.int .i64 va, .int .i64 (cond false 0 3)]) ∧ w = w'))
    (c12 : Hid (∀ w, Calls Try.prog 12 #[.int .i64 a, .int .i64 b] w fun e w' => e = .returned (.tuple #[.int .i64 (cond false z 0), .int .i64 (cond false 0 3)]) ∧ w = w'))
    (c13 : Hid (∀ w, Calls Try.prog 13 #[.int .i64 a, .int .i64 b] w fun e w' => e = .returned (.tuple #[.int .i64 vm, .int .i64 (cond true 0 3)]) ∧ w = w'))
    (c14 : Hid (∀ w, Calls Try.prog 14 #[.int .i64 a, .int .i64 b] w fun e w' => e = .returned (.tuple #[.int .i64 va, .bool false]) ∧ w = w'))
    (c15 : Hid (∀ w, Calls Try.prog 15 #[.int .i64 a, .int .i64 b] w fun e w' => e = .returned (.tuple #[.int .i64 vm, .bool true]) ∧ w = w'))
    (c9 : Hid (∀ w, Calls Try.prog 9 #[.int .i64 a, .int .i64 b] w fun e w' => e = .returned (.tuple #[.int .i64 q, .int .i64 h]) ∧ w = w'))
    (c10 : Hid (∀ w, Calls Try.prog 10 #[.int .i64 a, .int .i64 b] w fun e w' => e = .returned (.tuple #[.int .i64 m, .int .i64 i]) ∧ w = w'))
    (hz : wrap64 (a - b) = z) (hin : (decide (z < a) == decide (0 < b)) = false) (hq : (b == 0) = false ∧ ((a == -9223372036854775808) = false ∨ (a == -9223372036854775808) = true ∧ (b == -1) = false) ∧ wrap64 (a.tdiv b) = a.tdiv b ∧ q = a.tdiv b ∧ h = 0 ∧ m = a.tmod b ∧ i = 0) :
    Calls Try.prog 4 #[.int .i64 a, .int .i64 b] w fun e w' => e = .returned (.bool true) ∧ w = w' := by
  obtain ⟨h1, h2, h3, rfl, rfl, rfl, rfl⟩ := hq
  have hb : ¬ b = 0 := by simpa using h1
  have HQ := Lib.hid h3; clear h3
  rcases h2 with h2 | ⟨h2, h4⟩
  all_goals
    go_enter Try.func4, Try.ntmps4
    go_wp2_with fail
    refine (c8.out _).mono ?_; rintro e w' ⟨rfl, rfl⟩
    go_wp2_with fail
    refine (c12.out _).mono ?_; rintro e w' ⟨rfl, rfl⟩
    go_wp2_with fail
    refine (c13.out _).mono ?_; rintro e w' ⟨rfl, rfl⟩
    go_wp2_with fail
    refine (c14.out _).mono ?_; rintro e w' ⟨rfl, rfl⟩
    go_wp2_with fail
    refine (c15.out _).mono ?_; rintro e w' ⟨rfl, rfl⟩
    go_wp2_with fail
    refine (c9.out _).mono ?_; rintro e w' ⟨rfl, rfl⟩
    go_wp2_with fail
    refine (c10.out _).mono ?_; rintro e w' ⟨rfl, rfl⟩
    have h3 := HQ.out
    go_wp2_with fail
    refine (num_runs _).mono ?_; rintro e w' ⟨rfl, rfl⟩
    go_wp2_with fail
    go_ret
    exact ⟨rfl, rfl⟩
set_option maxHeartbeats 400000 in
theorem tells_ftf0 (a b va vm z q h m i : Int) (w : World)
    (c8 : Hid (∀ w, Calls Try.prog 8 #[.int .i64 a, .int .i64 b] w fun e w' => e = .returned (.tuple #[.int .i64 va, .int .i64 (cond false 0 3)]) ∧ w = w'))
    (c12 : Hid (∀ w, Calls Try.prog 12 #[.int .i64 a, .int .i64 b] w fun e w' => e = .returned (.tuple #[.int .i64 (cond true z 0), .int .i64 (cond true 0 3)]) ∧ w = w'))
    (c13 : Hid (∀ w, Calls Try.prog 13 #[.int .i64 a, .int .i64 b] w fun e w' => e = .returned (.tuple #[.int .i64 vm, .int .i64 (cond false 0 3)]) ∧ w = w'))
    (c14 : Hid (∀ w, Calls Try.prog 14 #[.int .i64 a, .int .i64 b] w fun e w' => e = .returned (.tuple #[.int .i64 va, .bool false]) ∧ w = w'))
    (c15 : Hid (∀ w, Calls Try.prog 15 #[.int .i64 a, .int .i64 b] w fun e w' => e = .returned (.tuple #[.int .i64 vm, .bool false]) ∧ w = w'))
    (c9 : Hid (∀ w, Calls Try.prog 9 #[.int .i64 a, .int .i64 b] w fun e w' => e = .returned (.tuple #[.int .i64 q, .int .i64 h]) ∧ w = w'))
    (c10 : Hid (∀ w, Calls Try.prog 10 #[.int .i64 a, .int .i64 b] w fun e w' => e = .returned (.tuple #[.int .i64 m, .int .i64 i]) ∧ w = w'))
    (hz : wrap64 (a - b) = z) (hin : (decide (z < a) == decide (0 < b)) = true) (hq : (b == 0) = true ∧ q = 0 ∧ h = 4 ∧ m = 0 ∧ i = 4) :
    Calls Try.prog 4 #[.int .i64 a, .int .i64 b] w fun e w' => e = .returned (.bool true) ∧ w = w' := by
  obtain ⟨h1, rfl, rfl, rfl, rfl⟩ := hq
  go_enter Try.func4, Try.ntmps4
  go_wp2_with fail
  refine (c8.out _).mono ?_; rintro e w' ⟨rfl, rfl⟩
  go_wp2_with fail
  refine (c12.out _).mono ?_; rintro e w' ⟨rfl, rfl⟩
  go_wp2_with fail
  refine (c13.out _).mono ?_; rintro e w' ⟨rfl, rfl⟩
  go_wp2_with fail
  refine (c14.out _).mono ?_; rintro e w' ⟨rfl, rfl⟩
  go_wp2_with fail
  refine (c15.out _).mono ?_; rintro e w' ⟨rfl, rfl⟩
  go_wp2_with fail
  refine (c9.out _).mono ?_; rintro e w' ⟨rfl, rfl⟩
  go_wp2_with fail
  refine (c10.out _).mono ?_; rintro e w' ⟨rfl, rfl⟩
  go_wp2_with fail
  refine (num_runs _).mono ?_; rintro e w' ⟨rfl, rfl⟩
  go_wp2_with fail
  go_ret
  exact ⟨rfl, rfl⟩
set_option maxHeartbeats 400000 in
theorem tells_ftf1 (a b va vm z q h m i : Int) (w : World)
    (c8 : Hid (∀ w, Calls Try.prog 8 #[.int .i64 a, .int .i64 b] w fun e w' => e = .returned (.tuple #[.int .i64 va, .int .i64 (cond false 0 3)]) ∧ w = w'))
    (c12 : Hid (∀ w, Calls Try.prog 12 #[.int .i64 a, .int .i64 b] w fun e w' => e = .returned (.tuple #[.int .i64 (cond true z 0), .int .i64 (cond true 0 3)]) ∧ w = w'))
    (c13 : Hid (∀ w, Calls Try.prog 13 #[.int .i64 a, .int .i64 b] w fun e w' => e = .returned (.tuple #[.int .i64 vm, .int .i64 (cond false 0 3)]) ∧ w = w'))
    (c14 : Hid (∀ w, Calls Try.prog 14 #[.int .i64 a, .int .i64 b] w fun e w' => e = .returned (.tuple #[.int .i64 va, .bool false]) ∧ w = w'))
    (c15 : Hid (∀ w, Calls Try.prog 15 #[.int .i64 a, .int .i64 b] w fun e w' => e = .returned (.tuple #[.int .i64 vm, .bool false]) ∧ w = w'))
    (c9 : Hid (∀ w, Calls Try.prog 9 #[.int .i64 a, .int .i64 b] w fun e w' => e = .returned (.tuple #[.int .i64 q, .int .i64 h]) ∧ w = w'))
    (c10 : Hid (∀ w, Calls Try.prog 10 #[.int .i64 a, .int .i64 b] w fun e w' => e = .returned (.tuple #[.int .i64 m, .int .i64 i]) ∧ w = w'))
    (hz : wrap64 (a - b) = z) (hin : (decide (z < a) == decide (0 < b)) = true) (hq : (b == 0) = false ∧ (a == -9223372036854775808) = true ∧ (b == -1) = true ∧ q = 0 ∧ h = 3 ∧ m = 0 ∧ i = 0) :
    Calls Try.prog 4 #[.int .i64 a, .int .i64 b] w fun e w' => e = .returned (.bool true) ∧ w = w' := by
  obtain ⟨h1, h2, h3, rfl, rfl, rfl, rfl⟩ := hq
  go_enter Try.func4, Try.ntmps4
  go_wp2_with fail
  refine (c8.out _).mono ?_; rintro e w' ⟨rfl, rfl⟩
  go_wp2_with fail
  refine (c12.out _).mono ?_; rintro e w' ⟨rfl, rfl⟩
  go_wp2_with fail
  refine (c13.out _).mono ?_; rintro e w' ⟨rfl, rfl⟩
  go_wp2_with fail
  refine (c14.out _).mono ?_; rintro e w' ⟨rfl, rfl⟩
  go_wp2_with fail
  refine (c15.out _).mono ?_; rintro e w' ⟨rfl, rfl⟩
  go_wp2_with fail
  refine (c9.out _).mono ?_; rintro e w' ⟨rfl, rfl⟩
  go_wp2_with fail
  refine (c10.out _).mono ?_; rintro e w' ⟨rfl, rfl⟩
  go_wp2_with fail
  refine (num_runs _).mono ?_; rintro e w' ⟨rfl, rfl⟩
  go_wp2_with fail
  go_ret
  exact ⟨rfl, rfl⟩
set_option maxHeartbeats 400000 in
theorem tells_ftf2 (a b va vm z q h m i : Int) (w : World)
    (c8 : Hid (∀ w, Calls Try.prog 8 #[.int .i64 a, .int .i64 b] w fun e w' => e = .returned (.tuple #[.int .i64 va, .int .i64 (cond false 0 3)]) ∧ w = w'))
    (c12 : Hid (∀ w, Calls Try.prog 12 #[.int .i64 a, .int .i64 b] w fun e w' => e = .returned (.tuple #[.int .i64 (cond true z 0), .int .i64 (cond true 0 3)]) ∧ w = w'))
    (c13 : Hid (∀ w, Calls Try.prog 13 #[.int .i64 a, .int .i64 b] w fun e w' => e = .returned (.tuple #[.int .i64 vm, .int .i64 (cond false 0 3)]) ∧ w = w'))
    (c14 : Hid (∀ w, Calls Try.prog 14 #[.int .i64 a, .int .i64 b] w fun e w' => e = .returned (.tuple #[.int .i64 va, .bool false]) ∧ w = w'))
    (c15 : Hid (∀ w, Calls Try.prog 15 #[.int .i64 a, .int .i64 b] w fun e w' => e = .returned (.tuple #[.int .i64 vm, .bool false]) ∧ w = w'))
    (c9 : Hid (∀ w, Calls Try.prog 9 #[.int .i64 a, .int .i64 b] w fun e w' => e = .returned (.tuple #[.int .i64 q, .int .i64 h]) ∧ w = w'))
    (c10 : Hid (∀ w, Calls Try.prog 10 #[.int .i64 a, .int .i64 b] w fun e w' => e = .returned (.tuple #[.int .i64 m, .int .i64 i]) ∧ w = w'))
    (hz : wrap64 (a - b) = z) (hin : (decide (z < a) == decide (0 < b)) = true) (hq : (b == 0) = false ∧ ((a == -9223372036854775808) = false ∨ (a == -9223372036854775808) = true ∧ (b == -1) = false) ∧ wrap64 (a.tdiv b) = a.tdiv b ∧ q = a.tdiv b ∧ h = 0 ∧ m = a.tmod b ∧ i = 0) :
    Calls Try.prog 4 #[.int .i64 a, .int .i64 b] w fun e w' => e = .returned (.bool true) ∧ w = w' := by
  obtain ⟨h1, h2, h3, rfl, rfl, rfl, rfl⟩ := hq
  have hb : ¬ b = 0 := by simpa using h1
  have HQ := Lib.hid h3; clear h3
  rcases h2 with h2 | ⟨h2, h4⟩
  all_goals
    go_enter Try.func4, Try.ntmps4
    go_wp2_with fail
    refine (c8.out _).mono ?_; rintro e w' ⟨rfl, rfl⟩
    go_wp2_with fail
    refine (c12.out _).mono ?_; rintro e w' ⟨rfl, rfl⟩
    go_wp2_with fail
    refine (c13.out _).mono ?_; rintro e w' ⟨rfl, rfl⟩
    go_wp2_with fail
    refine (c14.out _).mono ?_; rintro e w' ⟨rfl, rfl⟩
    go_wp2_with fail
    refine (c15.out _).mono ?_; rintro e w' ⟨rfl, rfl⟩
    go_wp2_with fail
    refine (c9.out _).mono ?_; rintro e w' ⟨rfl, rfl⟩
    go_wp2_with fail
    refine (c10.out _).mono ?_; rintro e w' ⟨rfl, rfl⟩
    have h3 := HQ.out
    go_wp2_with fail
    refine (num_runs _).mono ?_; rintro e w' ⟨rfl, rfl⟩
    go_wp2_with fail
    go_ret
    exact ⟨rfl, rfl⟩
set_option maxHeartbeats 400000 in
theorem tells_ftt0 (a b va vm z q h m i : Int) (w : World)
    (c8 : Hid (∀ w, Calls Try.prog 8 #[.int .i64 a, .int .i64 b] w fun e w' => e = .returned (.tuple #[.int .i64 va, .int .i64 (cond false 0 3)]) ∧ w = w'))
    (c12 : Hid (∀ w, Calls Try.prog 12 #[.int .i64 a, .int .i64 b] w fun e w' => e = .returned (.tuple #[.int .i64 (cond true z 0), .int .i64 (cond true 0 3)]) ∧ w = w'))
    (c13 : Hid (∀ w, Calls Try.prog 13 #[.int .i64 a, .int .i64 b] w fun e w' => e = .returned (.tuple #[.int .i64 vm, .int .i64 (cond true 0 3)]) ∧ w = w'))
    (c14 : Hid (∀ w, Calls Try.prog 14 #[.int .i64 a, .int .i64 b] w fun e w' => e = .returned (.tuple #[.int .i64 va, .bool false]) ∧ w = w'))
    (c15 : Hid (∀ w, Calls Try.prog 15 #[.int .i64 a, .int .i64 b] w fun e w' => e = .returned (.tuple #[.int .i64 vm, .bool true]) ∧ w = w'))
    (c9 : Hid (∀ w, Calls Try.prog 9 #[.int .i64 a, .int .i64 b] w fun e w' => e = .returned (.tuple #[.int .i64 q, .int .i64 h]) ∧ w = w'))
    (c10 : Hid (∀ w, Calls Try.prog 10 #[.int .i64 a, .int .i64 b] w fun e w' => e = .returned (.tuple #[.int .i64 m, .int .i64 i]) ∧ w = w'))
    (hz : wrap64 (a - b) = z) (hin : (decide (z < a) == decide (0 < b)) = true) (hq : (b == 0) = true ∧ q = 0 ∧ h = 4 ∧ m = 0 ∧ i = 4) :
    Calls Try.prog 4 #[.int .i64 a, .int .i64 b] w fun e w' => e = .returned (.bool true) ∧ w = w' := by
  obtain ⟨h1, rfl, rfl, rfl, rfl⟩ := hq
  go_enter Try.func4, Try.ntmps4
  go_wp2_with fail
  refine (c8.out _).mono ?_; rintro e w' ⟨rfl, rfl⟩
  go_wp2_with fail
  refine (c12.out _).mono ?_; rintro e w' ⟨rfl, rfl⟩
  go_wp2_with fail
  refine (c13.out _).mono ?_; rintro e w' ⟨rfl, rfl⟩
  go_wp2_with fail
  refine (c14.out _).mono ?_; rintro e w' ⟨rfl, rfl⟩
  go_wp2_with fail
  refine (c15.out _).mono ?_; rintro e w' ⟨rfl, rfl⟩
  go_wp2_with fail
  refine (c9.out _).mono ?_; rintro e w' ⟨rfl, rfl⟩
  go_wp2_with fail
  refine (c10.out _).mono ?_; rintro e w' ⟨rfl, rfl⟩
  go_wp2_with fail
  refine (num_runs _).mono ?_; rintro e w' ⟨rfl, rfl⟩
  go_wp2_with fail
  go_ret
  exact ⟨rfl, rfl⟩
set_option maxHeartbeats 400000 in
theorem tells_ftt1 (a b va vm z q h m i : Int) (w : World)
    (c8 : Hid (∀ w, Calls Try.prog 8 #[.int .i64 a, .int .i64 b] w fun e w' => e = .returned (.tuple #[.int .i64 va, .int .i64 (cond false 0 3)]) ∧ w = w'))
    (c12 : Hid (∀ w, Calls Try.prog 12 #[.int .i64 a, .int .i64 b] w fun e w' => e = .returned (.tuple #[.int .i64 (cond true z 0), .int .i64 (cond true 0 3)]) ∧ w = w'))
    (c13 : Hid (∀ w, Calls Try.prog 13 #[.int .i64 a, .int .i64 b] w fun e w' => e = .returned (.tuple #[.int .i64 vm, .int .i64 (cond true 0 3)]) ∧ w = w'))
    (c14 : Hid (∀ w, Calls Try.prog 14 #[.int .i64 a, .int .i64 b] w fun e w' => e = .returned (.tuple #[.int .i64 va, .bool false]) ∧ w = w'))
    (c15 : Hid (∀ w, Calls Try.prog 15 #[.int .i64 a, .int .i64 b] w fun e w' => e = .returned (.tuple #[.int .i64 vm, .bool true]) ∧ w = w'))
    (c9 : Hid (∀ w, Calls Try.prog 9 #[.int .i64 a, .int .i64 b] w fun e w' => e = .returned (.tuple #[.int .i64 q, .int .i64 h]) ∧ w = w'))
    (c10 : Hid (∀ w, Calls Try.prog 10 #[.int .i64 a, .int .i64 b] w fun e w' => e = .returned (.tuple #[.int .i64 m, .int .i64 i]) ∧ w = w'))
    (hz : wrap64 (a - b) = z) (hin : (decide (z < a) == decide (0 < b)) = true) (hq : (b == 0) = false ∧ (a == -9223372036854775808) = true ∧ (b == -1) = true ∧ q = 0 ∧ h = 3 ∧ m = 0 ∧ i = 0) :
    Calls Try.prog 4 #[.int .i64 a, .int .i64 b] w fun e w' => e = .returned (.bool true) ∧ w = w' := by
  obtain ⟨h1, h2, h3, rfl, rfl, rfl, rfl⟩ := hq
  go_enter Try.func4, Try.ntmps4
  go_wp2_with fail
  refine (c8.out _).mono ?_; rintro e w' ⟨rfl, rfl⟩
  go_wp2_with fail
  refine (c12.out _).mono ?_; rintro e w' ⟨rfl, rfl⟩
  go_wp2_with fail
  refine (c13.out _).mono ?_; rintro e w' ⟨rfl, rfl⟩
  go_wp2_with fail
  refine (c14.out _).mono ?_; rintro e w' ⟨rfl, rfl⟩
  go_wp2_with fail
  refine (c15.out _).mono ?_; rintro e w' ⟨rfl, rfl⟩
  go_wp2_with fail
  refine (c9.out _).mono ?_; rintro e w' ⟨rfl, rfl⟩
  go_wp2_with fail
  refine (c10.out _).mono ?_; rintro e w' ⟨rfl, rfl⟩
  go_wp2_with fail
  refine (num_runs _).mono ?_; rintro e w' ⟨rfl, rfl⟩
  go_wp2_with fail
  go_ret
  exact ⟨rfl, rfl⟩
set_option maxHeartbeats 400000 in
theorem tells_ftt2 (a b va vm z q h m i : Int) (w : World)
    (c8 : Hid (∀ w, Calls Try.prog 8 #[.int .i64 a, .int .i64 b] w fun e w' => e = .returned (.tuple #[.int .i64 va, .int .i64 (cond false 0 3)]) ∧ w = w'))
    (c12 : Hid (∀ w, Calls Try.prog 12 #[.int .i64 a, .int .i64 b] w fun e w' => e = .returned (.tuple #[.int .i64 (cond true z 0), .int .i64 (cond true 0 3)]) ∧ w = w'))
    (c13 : Hid (∀ w, Calls Try.prog 13 #[.int .i64 a, .int .i64 b] w fun e w' => e = .returned (.tuple #[.int .i64 vm, .int .i64 (cond true 0 3)]) ∧ w = w'))
    (c14 : Hid (∀ w, Calls Try.prog 14 #[.int .i64 a, .int .i64 b] w fun e w' => e = .returned (.tuple #[.int .i64 va, .bool false]) ∧ w = w'))
    (c15 : Hid (∀ w, Calls Try.prog 15 #[.int .i64 a, .int .i64 b] w fun e w' => e = .returned (.tuple #[.int .i64 vm, .bool true]) ∧ w = w'))
    (c9 : Hid (∀ w, Calls Try.prog 9 #[.int .i64 a, .int .i64 b] w fun e w' => e = .returned (.tuple #[.int .i64 q, .int .i64 h]) ∧ w = w'))
    (c10 : Hid (∀ w, Calls Try.prog 10 #[.int .i64 a, .int .i64 b] w fun e w' => e = .returned (.tuple #[.int .i64 m, .int .i64 i]) ∧ w = w'))
    (hz : wrap64 (a - b) = z) (hin : (decide (z < a) == decide (0 < b)) = true) (hq : (b == 0) = false ∧ ((a == -9223372036854775808) = false ∨ (a == -9223372036854775808) = true ∧ (b == -1) = false) ∧ wrap64 (a.tdiv b) = a.tdiv b ∧ q = a.tdiv b ∧ h = 0 ∧ m = a.tmod b ∧ i = 0) :
    Calls Try.prog 4 #[.int .i64 a, .int .i64 b] w fun e w' => e = .returned (.bool true) ∧ w = w' := by
  obtain ⟨h1, h2, h3, rfl, rfl, rfl, rfl⟩ := hq
  have hb : ¬ b = 0 := by simpa using h1
  have HQ := Lib.hid h3; clear h3
  rcases h2 with h2 | ⟨h2, h4⟩
  all_goals
    go_enter Try.func4, Try.ntmps4
    go_wp2_with fail
    refine (c8.out _).mono ?_; rintro e w' ⟨rfl, rfl⟩
    go_wp2_with fail
    refine (c12.out _).mono ?_; rintro e w' ⟨rfl, rfl⟩
    go_wp2_with fail
    refine (c13.out _).mono ?_; rintro e w' ⟨rfl, rfl⟩
    go_wp2_with fail
    refine (c14.out _).mono ?_; rintro e w' ⟨rfl, rfl⟩
    go_wp2_with fail
    refine (c15.out _).mono ?_; rintro e w' ⟨rfl, rfl⟩
    go_wp2_with fail
    refine (c9.out _).mono ?_; rintro e w' ⟨rfl, rfl⟩
    go_wp2_with fail
    refine (c10.out _).mono ?_; rintro e w' ⟨rfl, rfl⟩
    have h3 := HQ.out
    go_wp2_with fail
    refine (num_runs _).mono ?_; rintro e w' ⟨rfl, rfl⟩
    go_wp2_with fail
    go_ret
    exact ⟨rfl, rfl⟩
set_option maxHeartbeats 400000 in
theorem tells_tff0 (a b va vm z q h m i : Int) (w : World)
    (c8 : Hid (∀ w, Calls Try.prog 8 #[.int .i64 a, .int .i64 b] w fun e w' => e = .returned (.tuple #[.int .i64 va, .int .i64 (cond true 0 3)]) ∧ w = w'))
    (c12 : Hid (∀ w, Calls Try.prog 12 #[.int .i64 a, .int .i64 b] w fun e w' => e = .returned (.tuple #[.int .i64 (cond false z 0), .int .i64 (cond false 0 3)]) ∧ w = w'))
    (c13 : Hid (∀ w, Calls Try.prog 13 #[.int .i64 a, .int .i64 b] w fun e w' => e = .returned (.tuple #[.int .i64 vm, .int .i64 (cond false 0 3)]) ∧ w = w'))
    (c14 : Hid (∀ w, Calls Try.prog 14 #[.int .i64 a, .int .i64 b] w fun e w' => e = .returned (.tuple #[.int .i64 va, .bool true]) ∧ w = w'))
    (c15 : Hid (∀ w, Calls Try.prog 15 #[.int .i64 a, .int .i64 b] w fun e w' => e = .returned (.tuple #[.int .i64 vm, .bool false]) ∧ w = w'))
    (c9 : Hid (∀ w, Calls Try.prog 9 #[.int .i64 a, .int .i64 b] w fun e w' => e = .returned (.tuple #[.int .i64 q, .int .i64 h]) ∧ w = w'))
    (c10 : Hid (∀ w, Calls Try.prog 10 #[.int .i64 a, .int .i64 b] w fun e w' => e = .returned (.tuple #[.int .i64 m, .int .i64 i]) ∧ w = w'))
    (hz : wrap64 (a - b) = z) (hin : (decide (z < a) == decide (0 < b)) = false) (hq : (b == 0) = true ∧ q = 0 ∧ h = 4 ∧ m = 0 ∧ i = 4) :
    Calls Try.prog 4 #[.int .i64 a, .int .i64 b] w fun e w' => e = .returned (.bool true) ∧ w = w' := by
  obtain ⟨h1, rfl, rfl, rfl, rfl⟩ := hq
  go_enter Try.func4, Try.ntmps4
  go_wp2_with fail
  refine (c8.out _).mono ?_; rintro e w' ⟨rfl, rfl⟩
  go_wp2_with fail
  refine (c12.out _).mono ?_; rintro e w' ⟨rfl, rfl⟩
  go_wp2_with fail
  refine (c13.out _).mono ?_; rintro e w' ⟨rfl, rfl⟩
  go_wp2_with fail
  refine (c14.out _).mono ?_; rintro e w' ⟨rfl, rfl⟩
  go_wp2_with fail
  refine (c15.out _).mono ?_; rintro e w' ⟨rfl, rfl⟩
  go_wp2_with fail
  refine (c9.out _).mono ?_; rintro e w' ⟨rfl, rfl⟩
  go_wp2_with fail
  refine (c10.out _).mono ?_; rintro e w' ⟨rfl, rfl⟩
  go_wp2_with fail
  refine (num_runs _).mono ?_; rintro e w' ⟨rfl, rfl⟩
  go_wp2_with fail
  go_ret
  exact ⟨rfl, rfl⟩
set_option maxHeartbeats 400000 in
theorem tells_tff1 (a b va vm z q h m i : Int) (w : World)
    (c8 : Hid (∀ w, Calls Try.prog 8 #[.int .i64 a, .int .i64 b] w fun e w' => e = .returned (.tuple #[.int .i64 va, .int .i64 (cond true 0 3)]) ∧ w = w'))
    (c12 : Hid (∀ w, Calls Try.prog 12 #[.int .i64 a, .int .i64 b] w fun e w' => e = .returned (.tuple #[.int .i64 (cond false z 0), .int .i64 (cond false 0 3)]) ∧ w = w'))
    (c13 : Hid (∀ w, Calls Try.prog 13 #[.int .i64 a, .int .i64 b] w fun e w' => e = .returned (.tuple #[.int .i64 vm, .int .i64 (cond false 0 3)]) ∧ w = w'))
    (c14 : Hid (∀ w, Calls Try.prog 14 #[.int .i64 a, .int .i64 b] w fun e w' => e = .returned (.tuple #[.int .i64 va, .bool true]) ∧ w = w'))
    (c15 : Hid (∀ w, Calls Try.prog 15 #[.int .i64 a, .int .i64 b] w fun e w' => e = .returned (.tuple #[.int .i64 vm, .bool false]) ∧ w = w'))
    (c9 : Hid (∀ w, Calls Try.prog 9 #[.int .i64 a, .int .i64 b] w fun e w' => e = .returned (.tuple #[.int .i64 q, .int .i64 h]) ∧ w = w'))
    (c10 : Hid (∀ w, Calls Try.prog 10 #[.int .i64 a, .int .i64 b] w fun e w' => e = .returned (.tuple #[.int .i64 m, .int .i64 i]) ∧ w = w'))
    (hz : wrap64 (a - b) = z) (hin : (decide (z < a) == decide (0 < b)) = false) (hq : (b == 0) = false ∧ (a == -9223372036854775808) = true ∧ (b == -1) = true ∧ q = 0 ∧ h = 3 ∧ m = 0 ∧ i = 0) :
    Calls Try.prog 4 #[.int .i64 a, .int .i64 b] w fun e w' => e = .returned (.bool true) ∧ w = w' := by
  obtain ⟨h1, h2, h3, rfl, rfl, rfl, rfl⟩ := hq
  go_enter Try.func4, Try.ntmps4
  go_wp2_with fail
  refine (c8.out _).mono ?_; rintro e w' ⟨rfl, rfl⟩
  go_wp2_with fail
  refine (c12.out _).mono ?_; rintro e w' ⟨rfl, rfl⟩
  go_wp2_with fail
  refine (c13.out _).mono ?_; rintro e w' ⟨rfl, rfl⟩
  go_wp2_with fail
  refine (c14.out _).mono ?_; rintro e w' ⟨rfl, rfl⟩
  go_wp2_with fail
  refine (c15.out _).mono ?_; rintro e w' ⟨rfl, rfl⟩
  go_wp2_with fail
  refine (c9.out _).mono ?_; rintro e w' ⟨rfl, rfl⟩
  go_wp2_with fail
  refine (c10.out _).mono ?_; rintro e w' ⟨rfl, rfl⟩
  go_wp2_with fail
  refine (num_runs _).mono ?_; rintro e w' ⟨rfl, rfl⟩
  go_wp2_with fail
  go_ret
  exact ⟨rfl, rfl⟩
set_option maxHeartbeats 400000 in
theorem tells_tff2 (a b va vm z q h m i : Int) (w : World)
    (c8 : Hid (∀ w, Calls Try.prog 8 #[.int .i64 a, .int .i64 b] w fun e w' => e = .returned (.tuple #[.int .i64 va, .int .i64 (cond true 0 3)]) ∧ w = w'))
    (c12 : Hid (∀ w, Calls Try.prog 12 #[.int .i64 a, .int .i64 b] w fun e w' => e = .returned (.tuple #[.int .i64 (cond false z 0), .int .i64 (cond false 0 3)]) ∧ w = w'))
    (c13 : Hid (∀ w, Calls Try.prog 13 #[.int .i64 a, .int .i64 b] w fun e w' => e = .returned (.tuple #[.int .i64 vm, .int .i64 (cond false 0 3)]) ∧ w = w'))
    (c14 : Hid (∀ w, Calls Try.prog 14 #[.int .i64 a, .int .i64 b] w fun e w' => e = .returned (.tuple #[.int .i64 va, .bool true]) ∧ w = w'))
    (c15 : Hid (∀ w, Calls Try.prog 15 #[.int .i64 a, .int .i64 b] w fun e w' => e = .returned (.tuple #[.int .i64 vm, .bool false]) ∧ w = w'))
    (c9 : Hid (∀ w, Calls Try.prog 9 #[.int .i64 a, .int .i64 b] w fun e w' => e = .returned (.tuple #[.int .i64 q, .int .i64 h]) ∧ w = w'))
    (c10 : Hid (∀ w, Calls Try.prog 10 #[.int .i64 a, .int .i64 b] w fun e w' => e = .returned (.tuple #[.int .i64 m, .int .i64 i]) ∧ w = w'))
    (hz : wrap64 (a - b) = z) (hin : (decide (z < a) == decide (0 < b)) = false) (hq : (b == 0) = false ∧ ((a == -9223372036854775808) = false ∨ (a == -9223372036854775808) = true ∧ (b == -1) = false) ∧ wrap64 (a.tdiv b) = a.tdiv b ∧ q = a.tdiv b ∧ h = 0 ∧ m = a.tmod b ∧ i = 0) :
    Calls Try.prog 4 #[.int .i64 a, .int .i64 b] w fun e w' => e = .returned (.bool true) ∧ w = w' := by
  obtain ⟨h1, h2, h3, rfl, rfl, rfl, rfl⟩ := hq
  have hb : ¬ b = 0 := by simpa using h1
  have HQ := Lib.hid h3; clear h3
  rcases h2 with h2 | ⟨h2, h4⟩
  all_goals
    go_enter Try.func4, Try.ntmps4
    go_wp2_with fail
    refine (c8.out _).mono ?_; rintro e w' ⟨rfl, rfl⟩
    go_wp2_with fail
    refine (c12.out _).mono ?_; rintro e w' ⟨rfl, rfl⟩
    go_wp2_with fail
    refine (c13.out _).mono ?_; rintro e w' ⟨rfl, rfl⟩
    go_wp2_with fail
    refine (c14.out _).mono ?_; rintro e w' ⟨rfl, rfl⟩
    go_wp2_with fail
    refine (c15.out _).mono ?_; rintro e w' ⟨rfl, rfl⟩
    go_wp2_with fail
    refine (c9.out _).mono ?_; rintro e w' ⟨rfl, rfl⟩
    go_wp2_with fail
    refine (c10.out _).mono ?_; rintro e w' ⟨rfl, rfl⟩
    have h3 := HQ.out
    go_wp2_with fail
    refine (num_runs _).mono ?_; rintro e w' ⟨rfl, rfl⟩
    go_wp2_with fail
    go_ret
    exact ⟨rfl, rfl⟩
set_option maxHeartbeats 400000 in
theorem tells_tft0 (a b va vm z q h m i : Int) (w : World)
    (c8 : Hid (∀ w, Calls Try.prog 8 #[.int .i64 a, .int .i64 b] w fun e w' => e = .returned (.tuple #[.int .i64 va, .int .i64 (cond true 0 3)]) ∧ w = w'))
    (c12 : Hid (∀ w, Calls Try.prog 12 #[.int .i64 a, .int .i64 b] w fun e w' => e = .returned (.tuple #[.int .i64 (cond false z 0), .int .i64 (cond false 0 3)]) ∧ w = w'))
    (c13 : Hid (∀ w, Calls Try.prog 13 #[.int .i64 a, .int .i64 b] w fun e w' => e = .returned (.tuple #[.int .i64 vm, .int .i64 (cond true 0 3)]) ∧ w = w'))
    (c14 : Hid (∀ w, Calls Try.prog 14 #[.int .i64 a, .int .i64 b] w fun e w' => e = .returned (.tuple #[.int .i64 va, .bool true]) ∧ w = w'))
    (c15 : Hid (∀ w, Calls Try.prog 15 #[.int .i64 a, .int .i64 b] w fun e w' => e = .returned (.tuple #[.int .i64 vm, .bool true]) ∧ w = w'))
    (c9 : Hid (∀ w, Calls Try.prog 9 #[.int .i64 a, .int .i64 b] w fun e w' => e = .returned (.tuple #[.int .i64 q, .int .i64 h]) ∧ w = w'))
    (c10 : Hid (∀ w, Calls Try.prog 10 #[.int .i64 a, .int .i64 b] w fun e w' => e = .returned (.tuple #[.int .i64 m, .int .i64 i]) ∧ w = w'))
    (hz : wrap64 (a - b) = z) (hin : (decide (z < a) == decide (0 < b)) = false) (hq : (b == 0) = true ∧ q = 0 ∧ h = 4 ∧ m = 0 ∧ i = 4) :
    Calls Try.prog 4 #[.int .i64 a, .int .i64 b] w fun e w' => e = .returned (.bool true) ∧ w = w' := by
  obtain ⟨h1, rfl, rfl, rfl, rfl⟩ := hq
  go_enter Try.func4, Try.ntmps4
  go_wp2_with fail
  refine (c8.out _).mono ?_; rintro e w' ⟨rfl, rfl⟩
  go_wp2_with fail
  refine (c12.out _).mono ?_; rintro e w' ⟨rfl, rfl⟩
  go_wp2_with fail
  refine (c13.out _).mono ?_; rintro e w' ⟨rfl, rfl⟩
  go_wp2_with fail
  refine (c14.out _).mono ?_; rintro e w' ⟨rfl, rfl⟩
  go_wp2_with fail
  refine (c15.out _).mono ?_; rintro e w' ⟨rfl, rfl⟩
  go_wp2_with fail
  refine (c9.out _).mono ?_; rintro e w' ⟨rfl, rfl⟩
  go_wp2_with fail
  refine (c10.out _).mono ?_; rintro e w' ⟨rfl, rfl⟩
  go_wp2_with fail
  refine (num_runs _).mono ?_; rintro e w' ⟨rfl, rfl⟩
  go_wp2_with fail
  go_ret
  exact ⟨rfl, rfl⟩
set_option maxHeartbeats 400000 in
theorem tells_tft1 (a b va vm z q h m i : Int) (w : World)
    (c8 : Hid (∀ w, Calls Try.prog 8 #[.int .i64 a, .int .i64 b] w fun e w' => e = .returned (.tuple #[.int .i64 va, .int .i64 (cond true 0 3)]) ∧ w = w'))
    (c12 : Hid (∀ w, Calls Try.prog 12 #[.int .i64 a, .int .i64 b] w fun e w' => e = .returned (.tuple #[.int .i64 (cond false z 0), .int .i64 (cond false 0 3)]) ∧ w = w'))
    (c13 : Hid (∀ w, Calls Try.prog 13 #[.int .i64 a, .int .i64 b] w fun e w' => e = .returned (.tuple #[.int .i64 vm, .int .i64 (cond true 0 3)]) ∧ w = w'))
    (c14 : Hid (∀ w, Calls Try.prog 14 #[.int .i64 a, .int .i64 b] w fun e w' => e = .returned (.tuple #[.int .i64 va, .bool true]) ∧ w = w'))
    (c15 : Hid (∀ w, Calls Try.prog 15 #[.int .i64 a, .int .i64 b] w fun e w' => e = .returned (.tuple #[.int .i64 vm, .bool true]) ∧ w = w'))
    (c9 : Hid (∀ w, Calls Try.prog 9 #[.int .i64 a, .int .i64 b] w fun e w' => e = .returned (.tuple #[.int .i64 q, .int .i64 h]) ∧ w = w'))
    (c10 : Hid (∀ w, Calls Try.prog 10 #[.int .i64 a, .int .i64 b] w fun e w' => e = .returned (.tuple #[.int .i64 m, .int .i64 i]) ∧ w = w'))
    (hz : wrap64 (a - b) = z) (hin : (decide (z < a) == decide (0 < b)) = false) (hq : (b == 0) = false ∧ (a == -9223372036854775808) = true ∧ (b == -1) = true ∧ q = 0 ∧ h = 3 ∧ m = 0 ∧ i = 0) :
    Calls Try.prog 4 #[.int .i64 a, .int .i64 b] w fun e w' => e = .returned (.bool true) ∧ w = w' := by
  obtain ⟨h1, h2, h3, rfl, rfl, rfl, rfl⟩ := hq
  go_enter Try.func4, Try.ntmps4
  go_wp2_with fail
  refine (c8.out _).mono ?_; rintro e w' ⟨rfl, rfl⟩
  go_wp2_with fail
  refine (c12.out _).mono ?_; rintro e w' ⟨rfl, rfl⟩
  go_wp2_with fail
  refine (c13.out _).mono ?_; rintro e w' ⟨rfl, rfl⟩
  go_wp2_with fail
  refine (c14.out _).mono ?_; rintro e w' ⟨rfl, rfl⟩
  go_wp2_with fail
  refine (c15.out _).mono ?_; rintro e w' ⟨rfl, rfl⟩
  go_wp2_with fail
  refine (c9.out _).mono ?_; rintro e w' ⟨rfl, rfl⟩
  go_wp2_with fail
  refine (c10.out _).mono ?_; rintro e w' ⟨rfl, rfl⟩
  go_wp2_with fail
  refine (num_runs _).mono ?_; rintro e w' ⟨rfl, rfl⟩
  go_wp2_with fail
  go_ret
  exact ⟨rfl, rfl⟩
set_option maxHeartbeats 400000 in
theorem tells_tft2 (a b va vm z q h m i : Int) (w : World)
    (c8 : Hid (∀ w, Calls Try.prog 8 #[.int .i64 a, .int .i64 b] w fun e w' => e = .returned (.tuple #[.int .i64 va, .int .i64 (cond true 0 3)]) ∧ w = w'))
    (c12 : Hid (∀ w, Calls Try.prog 12 #[.int .i64 a, .int .i64 b] w fun e w' => e = .returned (.tuple #[.int .i64 (cond false z 0), .int .i64 (cond false 0 3)]) ∧ w = w'))
    (c13 : Hid (∀ w, Calls Try.prog 13 #[.int .i64 a, .int .i64 b] w fun e w' => e = .returned (.tuple #[.int .i64 vm, .int .i64 (cond true 0 3)]) ∧ w = w'))
    (c14 : Hid (∀ w, Calls Try.prog 14 #[.int .i64 a, .int .i64 b] w fun e w' => e = .returned (.tuple #[.int .i64 va, .bool true]) ∧ w = w'))
    (c15 : Hid (∀ w, Calls Try.prog 15 #[.int .i64 a, .int .i64 b] w fun e w' => e = .returned (.tuple #[.int .i64 vm, .bool true]) ∧ w = w'))
    (c9 : Hid (∀ w, Calls Try.prog 9 #[.int .i64 a, .int .i64 b] w fun e w' => e = .returned (.tuple #[.int .i64 q, .int .i64 h]) ∧ w = w'))
    (c10 : Hid (∀ w, Calls Try.prog 10 #[.int .i64 a, .int .i64 b] w fun e w' => e = .returned (.tuple #[.int .i64 m, .int .i64 i]) ∧ w = w'))
    (hz : wrap64 (a - b) = z) (hin : (decide (z < a) == decide (0 < b)) = false) (hq : (b == 0) = false ∧ ((a == -9223372036854775808) = false ∨ (a == -9223372036854775808) = true ∧ (b == -1) = false) ∧ wrap64 (a.tdiv b) = a.tdiv b ∧ q = a.tdiv b ∧ h = 0 ∧ m = a.tmod b ∧ i = 0) :
    Calls Try.prog 4 #[.int .i64 a, .int .i64 b] w fun e w' => e = .returned (.bool true) ∧ w = w' := by
  obtain ⟨h1, h2, h3, rfl, rfl, rfl, rfl⟩ := hq
  have hb : ¬ b = 0 := by simpa using h1
  have HQ := Lib.hid h3; clear h3
  rcases h2 with h2 | ⟨h2, h4⟩
  all_goals
    go_enter Try.func4, Try.ntmps4
    go_wp2_with fail
    refine (c8.out _).mono ?_; rintro e w' ⟨rfl, rfl⟩
    go_wp2_with fail
    refine (c12.out _).mono ?_; rintro e w' ⟨rfl, rfl⟩
    go_wp2_with fail
    refine (c13.out _).mono ?_; rintro e w' ⟨rfl, rfl⟩
    go_wp2_with fail
    refine (c14.out _).mono ?_; rintro e w' ⟨rfl, rfl⟩
    go_wp2_with fail
    refine (c15.out _).mono ?_; rintro e w' ⟨rfl, rfl⟩
    go_wp2_with fail
    refine (c9.out _).mono ?_; rintro e w' ⟨rfl, rfl⟩
    go_wp2_with fail
    refine (c10.out _).mono ?_; rintro e w' ⟨rfl, rfl⟩
    have h3 := HQ.out
    go_wp2_with fail
    refine (num_runs _).mono ?_; rintro e w' ⟨rfl, rfl⟩
    go_wp2_with fail
    go_ret
    exact ⟨rfl, rfl⟩
set_option maxHeartbeats 400000 in
theorem tells_ttf0 (a b va vm z q h m i : Int) (w : World)
    (c8 : Hid (∀ w, Calls Try.prog 8 #[.int .i64 a, .int .i64 b] w fun e w' => e = .returned (.tuple #[.int .i64 va, .int .i64 (cond true 0 3)]) ∧ w = w'))
    (c12 : Hid (∀ w, Calls Try.prog 12 #[.int .i64 a, .int .i64 b] w fun e w' => e = .returned (.tuple #[.int .i64 (cond true z 0), .int .i64 (cond true 0 3)]) ∧ w = w'))
    (c13 : Hid (∀ w, Calls Try.prog 13 #[.int .i64 a, .int .i64 b] w fun e w' => e = .returned (.tuple #[.int .i64 vm, .int .i64 (cond false 0 3)]) ∧ w = w'))
    (c14 : Hid (∀ w, Calls Try.prog 14 #[.int .i64 a, .int .i64 b] w fun e w' => e = .returned (.tuple #[.int .i64 va, .bool true]) ∧ w = w'))
    (c15 : Hid (∀ w, Calls Try.prog 15 #[.int .i64 a, .int .i64 b] w fun e w' => e = .returned (.tuple #[.int .i64 vm, .bool false]) ∧ w = w'))
    (c9 : Hid (∀ w, Calls Try.prog 9 #[.int .i64 a, .int .i64 b] w fun e w' => e = .returned (.tuple #[.int .i64 q, .int .i64 h]) ∧ w = w'))
    (c10 : Hid (∀ w, Calls Try.prog 10 #[.int .i64 a, .int .i64 b] w fun e w' => e = .returned (.tuple #[.int .i64 m, .int .i64 i]) ∧ w = w'))
    (hz : wrap64 (a - b) = z) (hin : (decide (z < a) == decide (0 < b)) = true) (hq : (b == 0) = true ∧ q = 0 ∧ h = 4 ∧ m = 0 ∧ i = 4) :
    Calls Try.prog 4 #[.int .i64 a, .int .i64 b] w fun e w' => e = .returned (.bool true) ∧ w = w' := by
  obtain ⟨h1, rfl, rfl, rfl, rfl⟩ := hq
  go_enter Try.func4, Try.ntmps4
  go_wp2_with fail
  refine (c8.out _).mono ?_; rintro e w' ⟨rfl, rfl⟩
  go_wp2_with fail
  refine (c12.out _).mono ?_; rintro e w' ⟨rfl, rfl⟩
  go_wp2_with fail
  refine (c13.out _).mono ?_; rintro e w' ⟨rfl, rfl⟩
  go_wp2_with fail
  refine (c14.out _).mono ?_; rintro e w' ⟨rfl, rfl⟩
  go_wp2_with fail
  refine (c15.out _).mono ?_; rintro e w' ⟨rfl, rfl⟩
  go_wp2_with fail
  refine (c9.out _).mono ?_; rintro e w' ⟨rfl, rfl⟩
  go_wp2_with fail
  refine (c10.out _).mono ?_; rintro e w' ⟨rfl, rfl⟩
  go_wp2_with fail
  refine (num_runs _).mono ?_; rintro e w' ⟨rfl, rfl⟩
  go_wp2_with fail
  go_ret
  exact ⟨rfl, rfl⟩
set_option maxHeartbeats 400000 in
theorem tells_ttf1 (a b va vm z q h m i : Int) (w : World)
    (c8 : Hid (∀ w, Calls Try.prog 8 #[.int .i64 a, .int .i64 b] w fun e w' => e = .returned (.tuple #[.int .i64 va, .int .i64 (cond true 0 3)]) ∧ w = w'))
    (c12 : Hid (∀ w, Calls Try.prog 12 #[.int .i64 a, .int .i64 b] w fun e w' => e = .returned (.tuple #[.int .i64 (cond true z 0), .int .i64 (cond true 0 3)]) ∧ w = w'))
    (c13 : Hid (∀ w, Calls Try.prog 13 #[.int .i64 a, .int .i64 b] w fun e w' => e = .returned (.tuple #[.int .i64 vm, .int .i64 (cond false 0 3)]) ∧ w = w'))
    (c14 : Hid (∀ w, Calls Try.prog 14 #[.int .i64 a, .int .i64 b] w fun e w' => e = .returned (.tuple #[.int .i64 va, .bool true]) ∧ w = w'))
    (c15 : Hid (∀ w, Calls Try.prog 15 #[.int .i64 a, .int .i64 b] w fun e w' => e = .returned (.tuple #[.int .i64 vm, .bool false]) ∧ w = w'))
    (c9 : Hid (∀ w, Calls Try.prog 9 #[.int .i64 a, .int .i64 b] w fun e w' => e = .returned (.tuple #[.int .i64 q, .int .i64 h]) ∧ w = w'))
    (c10 : Hid (∀ w, Calls Try.prog 10 #[.int .i64 a, .int .i64 b] w fun e w' => e = .returned (.tuple #[.int .i64 m, .int .i64 i]) ∧ w = w'))
    (hz : wrap64 (a - b) = z) (hin : (decide (z < a) == decide (0 < b)) = true) (hq : (b == 0) = false ∧ (a == -9223372036854775808) = true ∧ (b == -1) = true ∧ q = 0 ∧ h = 3 ∧ m = 0 ∧ i = 0) :
    Calls Try.prog 4 #[.int .i64 a, .int .i64 b] w fun e w' => e = .returned (.bool true) ∧ w = w' := by
  obtain ⟨h1, h2, h3, rfl, rfl, rfl, rfl⟩ := hq
  go_enter Try.func4, Try.ntmps4
  go_wp2_with fail
  refine (c8.out _).mono ?_; rintro e w' ⟨rfl, rfl⟩
  go_wp2_with fail
  refine (c12.out _).mono ?_; rintro e w' ⟨rfl, rfl⟩
  go_wp2_with fail
  refine (c13.out _).mono ?_; rintro e w' ⟨rfl, rfl⟩
  go_wp2_with fail
  refine (c14.out _).mono ?_; rintro e w' ⟨rfl, rfl⟩
  go_wp2_with fail
  refine (c15.out _).mono ?_; rintro e w' ⟨rfl, rfl⟩
  go_wp2_with fail
  refine (c9.out _).mono ?_; rintro e w' ⟨rfl, rfl⟩
  go_wp2_with fail
  refine (c10.out _).mono ?_; rintro e w' ⟨rfl, rfl⟩
  go_wp2_with fail
  refine (num_runs _).mono ?_; rintro e w' ⟨rfl, rfl⟩
  go_wp2_with fail
  go_ret
  exact ⟨rfl, rfl⟩
set_option maxHeartbeats 400000 in
theorem tells_ttf2 (a b va vm z q h m i : Int) (w : World)
    (c8 : Hid (∀ w, Calls Try.prog 8 #[.int .i64 a, .int .i64 b] w fun e w' => e = .returned (.tuple #[.int .i64 va, .int .i64 (cond true 0 3)]) ∧ w = w'))
    (c12 : Hid (∀ w, Calls Try.prog 12 #[.int .i64 a, .int .i64 b] w fun e w' => e = .returned (.tuple #[.int .i64 (cond true z 0), .int .i64 (cond true 0 3)]) ∧ w = w'))
    (c13 : Hid (∀ w, Calls Try.prog 13 #[.int .i64 a, .int .i64 b] w fun e w' => e = .returned (.tuple #[.int .i64 vm, .int .i64 (cond false 0 3)]) ∧ w = w'))
    (c14 : Hid (∀ w, Calls Try.prog 14 #[.int .i64 a, .int .i64 b] w fun e w' => e = .returned (.tuple #[.int .i64 va, .bool true]) ∧ w = w'))
    (c15 : Hid (∀ w, Calls Try.prog 15 #[.int .i64 a, .int .i64 b] w fun e w' => e = .returned (.tuple #[.int .i64 vm, .bool false]) ∧ w = w'))
    (c9 : Hid (∀ w, Calls Try.prog 9 #[.int .i64 a, .int .i64 b] w fun e w' => e = .returned (.tuple #[.int .i64 q, .int .i64 h]) ∧ w = w'))
    (c10 : Hid (∀ w, Calls Try.prog 10 #[.int .i64 a, .int .i64 b] w fun e w' => e = .returned (.tuple #[.int .i64 m, .int .i64 i]) ∧ w = w'))
    (hz : wrap64 (a - b) = z) (hin : (decide (z < a) == decide (0 < b)) = true) (hq : (b == 0) = false ∧ ((a == -9223372036854775808) = false ∨ (a == -9223372036854775808) = true ∧ (b == -1) = false) ∧ wrap64 (a.tdiv b) = a.tdiv b ∧ q = a.tdiv b ∧ h = 0 ∧ m = a.tmod b ∧ i = 0) :
    Calls Try.prog 4 #[.int .i64 a, .int .i64 b] w fun e w' => e = .returned (.bool true) ∧ w = w' := by
  obtain ⟨h1, h2, h3, rfl, rfl, rfl, rfl⟩ := hq
  have hb : ¬ b = 0 := by simpa using h1
  have HQ := Lib.hid h3; clear h3
  rcases h2 with h2 | ⟨h2, h4⟩
  all_goals
    go_enter Try.func4, Try.ntmps4
    go_wp2_with fail
    refine (c8.out _).mono ?_; rintro e w' ⟨rfl, rfl⟩
    go_wp2_with fail
    refine (c12.out _).mono ?_; rintro e w' ⟨rfl, rfl⟩
    go_wp2_with fail
    refine (c13.out _).mono ?_; rintro e w' ⟨rfl, rfl⟩
    go_wp2_with fail
    refine (c14.out _).mono ?_; rintro e w' ⟨rfl, rfl⟩
    go_wp2_with fail
    refine (c15.out _).mono ?_; rintro e w' ⟨rfl, rfl⟩
    go_wp2_with fail
    refine (c9.out _).mono ?_; rintro e w' ⟨rfl, rfl⟩
    go_wp2_with fail
    refine (c10.out _).mono ?_; rintro e w' ⟨rfl, rfl⟩
    have h3 := HQ.out
    go_wp2_with fail
    refine (num_runs _).mono ?_; rintro e w' ⟨rfl, rfl⟩
    go_wp2_with fail
    go_ret
    exact ⟨rfl, rfl⟩
set_option maxHeartbeats 400000 in
theorem tells_ttt0 (a b va vm z q h m i : Int) (w : World)
    (c8 : Hid (∀ w, Calls Try.prog 8 #[.int .i64 a, .int .i64 b] w fun e w' => e = .returned (.tuple #[.int .i64 va, .int .i64 (cond true 0 3)]) ∧ w = w'))
    (c12 : Hid (∀ w, Calls Try.prog 12 #[.int .i64 a, .int .i64 b] w fun e w' => e = .returned (.tuple #[.int .i64 (cond true z 0), .int .i64 (cond true 0 3)]) ∧ w = w'))
    (c13 : Hid (∀ w, Calls Try.prog 13 #[.int .i64 a, .int .i64 b] w fun e w' => e = .returned (.tuple #[.int .i64 vm, .int .i64 (cond true 0 3)]) ∧ w = w'))
    (c14 : Hid (∀ w, Calls Try.prog 14 #[.int .i64 a, .int .i64 b] w fun e w' => e = .returned (.tuple #[.int .i64 va, .bool true]) ∧ w = w'))
    (c15 : Hid (∀ w, Calls Try.prog 15 #[.int .i64 a, .int .i64 b] w fun e w' => e = .returned (.tuple #[.int .i64 vm, .bool true]) ∧ w = w'))
    (c9 : Hid (∀ w, Calls Try.prog 9 #[.int .i64 a, .int .i64 b] w fun e w' => e = .returned (.tuple #[.int .i64 q, .int .i64 h]) ∧ w = w'))
    (c10 : Hid (∀ w, Calls Try.prog 10 #[.int .i64 a, .int .i64 b] w fun e w' => e = .returned (.tuple #[.int .i64 m, .int .i64 i]) ∧ w = w'))
    (hz : wrap64 (a - b) = z) (hin : (decide (z < a) == decide (0 < b)) = true) (hq : (b == 0) = true ∧ q = 0 ∧ h = 4 ∧ m = 0 ∧ i = 4) :
    Calls Try.prog 4 #[.int .i64 a, .int .i64 b] w fun e w' => e = .returned (.bool true) ∧ w = w' := by
  obtain ⟨h1, rfl, rfl, rfl, rfl⟩ := hq
  go_enter Try.func4, Try.ntmps4
  go_wp2_with fail
  refine (c8.out _).mono ?_; rintro e w' ⟨rfl, rfl⟩
  go_wp2_with fail
  refine (c12.out _).mono ?_; rintro e w' ⟨rfl, rfl⟩
  go_wp2_with fail
  refine (c13.out _).mono ?_; rintro e w' ⟨rfl, rfl⟩
  go_wp2_with fail
  refine (c14.out _).mono ?_; rintro e w' ⟨rfl, rfl⟩
  go_wp2_with fail
  refine (c15.out _).mono ?_; rintro e w' ⟨rfl, rfl⟩
  go_wp2_with fail
  refine (c9.out _).mono ?_; rintro e w' ⟨rfl, rfl⟩
  go_wp2_with fail
  refine (c10.out _).mono ?_; rintro e w' ⟨rfl, rfl⟩
  go_wp2_with fail
  refine (num_runs _).mono ?_; rintro e w' ⟨rfl, rfl⟩
  go_wp2_with fail
  go_ret
  exact ⟨rfl, rfl⟩
set_option maxHeartbeats 400000 in
theorem tells_ttt1 (a b va vm z q h m i : Int) (w : World)
    (c8 : Hid (∀ w, Calls Try.prog 8 #[.int .i64 a, .int .i64 b] w fun e w' => e = .returned (.tuple #[.int .i64 va, .int .i64 (cond true 0 3)]) ∧ w = w'))
    (c12 : Hid (∀ w, Calls Try.prog 12 #[.int .i64 a, .int .i64 b] w fun e w' => e = .returned (.tuple #[.int .i64 (cond true z 0), .int .i64 (cond true 0 3)]) ∧ w = w'))
    (c13 : Hid (∀ w, Calls Try.prog 13 #[.int .i64 a, .int .i64 b] w fun e w' => e = .returned (.tuple #[.int .i64 vm, .int .i64 (cond true 0 3)]) ∧ w = w'))
    (c14 : Hid (∀ w, Calls Try.prog 14 #[.int .i64 a, .int .i64 b] w fun e w' => e = .returned (.tuple #[.int .i64 va, .bool true]) ∧ w = w'))
    (c15 : Hid (∀ w, Calls Try.prog 15 #[.int .i64 a, .int .i64 b] w fun e w' => e = .returned (.tuple #[.int .i64 vm, .bool true]) ∧ w = w'))
    (c9 : Hid (∀ w, Calls Try.prog 9 #[.int .i64 a, .int .i64 b] w fun e w' => e = .returned (.tuple #[.int .i64 q, .int .i64 h]) ∧ w = w'))
    (c10 : Hid (∀ w, Calls Try.prog 10 #[.int .i64 a, .int .i64 b] w fun e w' => e = .returned (.tuple #[.int .i64 m, .int .i64 i]) ∧ w = w'))
    (hz : wrap64 (a - b) = z) (hin : (decide (z < a) == decide (0 < b)) = true) (hq : (b == 0) = false ∧ (a == -9223372036854775808) = true ∧ (b == -1) = true ∧ q = 0 ∧ h = 3 ∧ m = 0 ∧ i = 0) :
    Calls Try.prog 4 #[.int .i64 a, .int .i64 b] w fun e w' => e = .returned (.bool true) ∧ w = w' := by
  obtain ⟨h1, h2, h3, rfl, rfl, rfl, rfl⟩ := hq
  go_enter Try.func4, Try.ntmps4
  go_wp2_with fail
  refine (c8.out _).mono ?_; rintro e w' ⟨rfl, rfl⟩
  go_wp2_with fail
  refine (c12.out _).mono ?_; rintro e w' ⟨rfl, rfl⟩
  go_wp2_with fail
  refine (c13.out _).mono ?_; rintro e w' ⟨rfl, rfl⟩
  go_wp2_with fail
  refine (c14.out _).mono ?_; rintro e w' ⟨rfl, rfl⟩
  go_wp2_with fail
  refine (c15.out _).mono ?_; rintro e w' ⟨rfl, rfl⟩
  go_wp2_with fail
  refine (c9.out _).mono ?_; rintro e w' ⟨rfl, rfl⟩
  go_wp2_with fail
  refine (c10.out _).mono ?_; rintro e w' ⟨rfl, rfl⟩
  go_wp2_with fail
  refine (num_runs _).mono ?_; rintro e w' ⟨rfl, rfl⟩
  go_wp2_with fail
  go_ret
  exact ⟨rfl, rfl⟩
set_option maxHeartbeats 400000 in
theorem tells_ttt2 (a b va vm z q h m i : Int) (w : World)
    (c8 : Hid (∀ w, Calls Try.prog 8 #[.int .i64 a, .int .i64 b] w fun e w' => e = .returned (.tuple #[.int .i64 va, .int .i64 (cond true 0 3)]) ∧ w = w'))
    (c12 : Hid (∀ w, Calls Try.prog 12 #[.int .i64 a, .int .i64 b] w fun e w' => e = .returned (.tuple #[.int .i64 (cond true z 0), .int .i64 (cond true 0 3)]) ∧ w = w'))
    (c13 : Hid (∀ w, Calls Try.prog 13 #[.int .i64 a, .int .i64 b] w fun e w' => e = .returned (.tuple #[.int .i64 vm, .int .i64 (cond true 0 3)]) ∧ w = w'))
    (c14 : Hid (∀ w, Calls Try.prog 14 #[.int .i64 a, .int .i64 b] w fun e w' => e = .returned (.tuple #[.int .i64 va, .bool true]) ∧ w = w'))
    (c15 : Hid (∀ w, Calls Try.prog 15 #[.int .i64 a, .int .i64 b] w fun e w' => e = .returned (.tuple #[.int .i64 vm, .bool true]) ∧ w = w'))
    (c9 : Hid (∀ w, Calls Try.prog 9 #[.int .i64 a, .int .i64 b] w fun e w' => e = .returned (.tuple #[.int .i64 q, .int .i64 h]) ∧ w = w'))
    (c10 : Hid (∀ w, Calls Try.prog 10 #[.int .i64 a, .int .i64 b] w fun e w' => e = .returned (.tuple #[.int .i64 m, .int .i64 i]) ∧ w = w'))
    (hz : wrap64 (a - b) = z) (hin : (decide (z < a) == decide (0 < b)) = true) (hq : (b == 0) = false ∧ ((a == -9223372036854775808) = false ∨ (a == -9223372036854775808) = true ∧ (b == -1) = false) ∧ wrap64 (a.tdiv b) = a.tdiv b ∧ q = a.tdiv b ∧ h = 0 ∧ m = a.tmod b ∧ i = 0) :
    Calls Try.prog 4 #[.int .i64 a, .int .i64 b] w fun e w' => e = .returned (.bool true) ∧ w = w' := by
  obtain ⟨h1, h2, h3, rfl, rfl, rfl, rfl⟩ := hq
  have hb : ¬ b = 0 := by simpa using h1
  have HQ := Lib.hid h3; clear h3
  rcases h2 with h2 | ⟨h2, h4⟩
  all_goals
    go_enter Try.func4, Try.ntmps4
    go_wp2_with fail
    refine (c8.out _).mono ?_; rintro e w' ⟨rfl, rfl⟩
    go_wp2_with fail
    refine (c12.out _).mono ?_; rintro e w' ⟨rfl, rfl⟩
    go_wp2_with fail
    refine (c13.out _).mono ?_; rintro e w' ⟨rfl, rfl⟩
    go_wp2_with fail
    refine (c14.out _).mono ?_; rintro e w' ⟨rfl, rfl⟩
    go_wp2_with fail
    refine (c15.out _).mono ?_; rintro e w' ⟨rfl, rfl⟩
    go_wp2_with fail
    refine (c9.out _).mono ?_; rintro e w' ⟨rfl, rfl⟩
    go_wp2_with fail
    refine (c10.out _).mono ?_; rintro e w' ⟨rfl, rfl⟩
    have h3 := HQ.out
    go_wp2_with fail
    refine (num_runs _).mono ?_; rintro e w' ⟨rfl, rfl⟩
    go_wp2_with fail
    go_ret
    exact ⟨rfl, rfl⟩

theorem cond_V (n : Int) : cond (nB n) n 0 = nV n := by by_cases h : I64 n <;> simp [nB, nV, h]
theorem cond_E (n : Int) : cond (nB n) 0 3 = nE n := by by_cases h : I64 n <;> simp [nB, nE, h]
theorem sub_told (a b : Int) (wa : I64 a) (wb : I64 b) : cond (nB (a - b)) (wrap64 (a - b)) 0 = nV (a - b) ∧ (decide (wrap64 (a - b) < a) == decide (0 < b)) = nB (a - b) := by
  by_cases h : I64 (a - b)
  · rw [nB_in h, nV_in h, wrap64_of h]
    refine ⟨rfl, ?_⟩
    rw [beq_iff_eq, decide_eq_decide]; omega
  · rw [nB_out h, nV_out h]
    refine ⟨rfl, ?_⟩
    rw [beq_eq_false_iff_ne, Ne, decide_eq_decide]
    rcases out_cases h with h | h
    · have := sub_ge wa wb h; omega
    · have := sub_le wa wb h; omega
theorem quo_told (a b : Int) (w : World) (wa : I64 a) : ∃ q h m i, QuoAsk a b q h m i ∧
    (∀ w, Calls Try.prog 9 #[.int .i64 a, .int .i64 b] w fun e w' => e = .returned (.tuple #[.int .i64 q, .int .i64 h]) ∧ w = w') ∧
    (∀ w, Calls Try.prog 10 #[.int .i64 a, .int .i64 b] w fun e w' => e = .returned (.tuple #[.int .i64 m, .int .i64 i]) ∧ w = w') := by
  by_cases hb : b = 0
  · subst hb
    exact ⟨0, 4, 0, 4, .inl ⟨rfl, rfl, rfl, rfl, rfl⟩, num_div_zero a, num_mod_zero a⟩
  by_cases ho : a = -9223372036854775808 ∧ b = -1
  · obtain ⟨rfl, rfl⟩ := ho
    exact ⟨0, 3, 0, 0, .inr (.inl ⟨rfl, rfl, rfl, rfl, rfl, rfl, rfl⟩), num_div_over, fun w => num_mod_any _ _ w hb⟩
  · refine ⟨a.tdiv b, 0, a.tmod b, 0, .inr (.inr ⟨by simpa using hb, ?_, wrap64_of (tdiv_in wa ho), rfl, rfl, rfl, rfl⟩), fun w => num_div_any a b w wa hb ho, fun w => num_mod_any a b w hb⟩
    by_cases h1 : a = -9223372036854775808
    · exact .inr ⟨by simpa using h1, by simpa using fun h2 => ho ⟨h1, h2⟩⟩
    · exact .inl (by simpa using h1)
theorem num_tells (a b : Int) (w : World) (wa : I64 a) (wb : I64 b) :
    Calls Try.prog 4 #[.int .i64 a, .int .i64 b] w fun e w' => e = .returned (.bool true) ∧ w = w' := by
  obtain ⟨q, h, m, i, hq, c9, c10⟩ := quo_told a b w wa
  obtain ⟨hs1, hs2⟩ := sub_told a b wa wb
  have c8 := fun w => num_add_any a b w wa wb
  have c12 := fun w => num_sub_any a b w wa wb
  have c13 := fun w => num_mul_any a b w wa wb
  have c14 := fun w => ref_add_any a b w wa wb
  have c15 := fun w => ref_mul_any a b w wa wb
  rw [← hs1] at c12
  rw [← cond_E] at c8 c12 c13
  generalize nB (a + b) = A at *
  generalize nB (a - b) = S at *
  generalize nB (a * b) = M at *
  rcases hq with hq | hq | hq

  · cases A <;> cases S <;> cases M
    · exact tells_fff0 a b _ _ _ q h m i w (Lib.hid c8) (Lib.hid c12) (Lib.hid c13) (Lib.hid c14) (Lib.hid c15) (Lib.hid c9) (Lib.hid c10) rfl hs2 hq
    · exact tells_fft0 a b _ _ _ q h m i w (Lib.hid c8) (Lib.hid c12) (Lib.hid c13) (Lib.hid c14) (Lib.hid c15) (Lib.hid c9) (Lib.hid c10) rfl hs2 hq
    · exact tells_ftf0 a b _ _ _ q h m i w (Lib.hid c8) (Lib.hid c12) (Lib.hid c13) (Lib.hid c14) (Lib.hid c15) (Lib.hid c9) (Lib.hid c10) rfl hs2 hq
    · exact tells_ftt0 a b _ _ _ q h m i w (Lib.hid c8) (Lib.hid c12) (Lib.hid c13) (Lib.hid c14) (Lib.hid c15) (Lib.hid c9) (Lib.hid c10) rfl hs2 hq
    · exact tells_tff0 a b _ _ _ q h m i w (Lib.hid c8) (Lib.hid c12) (Lib.hid c13) (Lib.hid c14) (Lib.hid c15) (Lib.hid c9) (Lib.hid c10) rfl hs2 hq
    · exact tells_tft0 a b _ _ _ q h m i w (Lib.hid c8) (Lib.hid c12) (Lib.hid c13) (Lib.hid c14) (Lib.hid c15) (Lib.hid c9) (Lib.hid c10) rfl hs2 hq
    · exact tells_ttf0 a b _ _ _ q h m i w (Lib.hid c8) (Lib.hid c12) (Lib.hid c13) (Lib.hid c14) (Lib.hid c15) (Lib.hid c9) (Lib.hid c10) rfl hs2 hq
    · exact tells_ttt0 a b _ _ _ q h m i w (Lib.hid c8) (Lib.hid c12) (Lib.hid c13) (Lib.hid c14) (Lib.hid c15) (Lib.hid c9) (Lib.hid c10) rfl hs2 hq
  · cases A <;> cases S <;> cases M
    · exact tells_fff1 a b _ _ _ q h m i w (Lib.hid c8) (Lib.hid c12) (Lib.hid c13) (Lib.hid c14) (Lib.hid c15) (Lib.hid c9) (Lib.hid c10) rfl hs2 hq
    · exact tells_fft1 a b _ _ _ q h m i w (Lib.hid c8) (Lib.hid c12) (Lib.hid c13) (Lib.hid c14) (Lib.hid c15) (Lib.hid c9) (Lib.hid c10) rfl hs2 hq
    · exact tells_ftf1 a b _ _ _ q h m i w (Lib.hid c8) (Lib.hid c12) (Lib.hid c13) (Lib.hid c14) (Lib.hid c15) (Lib.hid c9) (Lib.hid c10) rfl hs2 hq
    · exact tells_ftt1 a b _ _ _ q h m i w (Lib.hid c8) (Lib.hid c12) (Lib.hid c13) (Lib.hid c14) (Lib.hid c15) (Lib.hid c9) (Lib.hid c10) rfl hs2 hq
    · exact tells_tff1 a b _ _ _ q h m i w (Lib.hid c8) (Lib.hid c12) (Lib.hid c13) (Lib.hid c14) (Lib.hid c15) (Lib.hid c9) (Lib.hid c10) rfl hs2 hq
    · exact tells_tft1 a b _ _ _ q h m i w (Lib.hid c8) (Lib.hid c12) (Lib.hid c13) (Lib.hid c14) (Lib.hid c15) (Lib.hid c9) (Lib.hid c10) rfl hs2 hq
    · exact tells_ttf1 a b _ _ _ q h m i w (Lib.hid c8) (Lib.hid c12) (Lib.hid c13) (Lib.hid c14) (Lib.hid c15) (Lib.hid c9) (Lib.hid c10) rfl hs2 hq
    · exact tells_ttt1 a b _ _ _ q h m i w (Lib.hid c8) (Lib.hid c12) (Lib.hid c13) (Lib.hid c14) (Lib.hid c15) (Lib.hid c9) (Lib.hid c10) rfl hs2 hq
  · cases A <;> cases S <;> cases M
    · exact tells_fff2 a b _ _ _ q h m i w (Lib.hid c8) (Lib.hid c12) (Lib.hid c13) (Lib.hid c14) (Lib.hid c15) (Lib.hid c9) (Lib.hid c10) rfl hs2 hq
    · exact tells_fft2 a b _ _ _ q h m i w (Lib.hid c8) (Lib.hid c12) (Lib.hid c13) (Lib.hid c14) (Lib.hid c15) (Lib.hid c9) (Lib.hid c10) rfl hs2 hq
    · exact tells_ftf2 a b _ _ _ q h m i w (Lib.hid c8) (Lib.hid c12) (Lib.hid c13) (Lib.hid c14) (Lib.hid c15) (Lib.hid c9) (Lib.hid c10) rfl hs2 hq
    · exact tells_ftt2 a b _ _ _ q h m i w (Lib.hid c8) (Lib.hid c12) (Lib.hid c13) (Lib.hid c14) (Lib.hid c15) (Lib.hid c9) (Lib.hid c10) rfl hs2 hq
    · exact tells_tff2 a b _ _ _ q h m i w (Lib.hid c8) (Lib.hid c12) (Lib.hid c13) (Lib.hid c14) (Lib.hid c15) (Lib.hid c9) (Lib.hid c10) rfl hs2 hq
    · exact tells_tft2 a b _ _ _ q h m i w (Lib.hid c8) (Lib.hid c12) (Lib.hid c13) (Lib.hid c14) (Lib.hid c15) (Lib.hid c9) (Lib.hid c10) rfl hs2 hq
    · exact tells_ttf2 a b _ _ _ q h m i w (Lib.hid c8) (Lib.hid c12) (Lib.hid c13) (Lib.hid c14) (Lib.hid c15) (Lib.hid c9) (Lib.hid c10) rfl hs2 hq
    · exact tells_ttt2 a b _ _ _ q h m i w (Lib.hid c8) (Lib.hid c12) (Lib.hid c13) (Lib.hid c14) (Lib.hid c15) (Lib.hid c9) (Lib.hid c10) rfl hs2 hq
end Go.Proofs.Ytejfohopibkgoaa
