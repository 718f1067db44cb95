/- Package text: which bytes are which. -/
import Derived.Test.YtjpjpcockhmbeaaRows
import Derived.Test.YtjpjpcockhmbeaaNumMath
import Derived.WalkKit
import Derived.ProofKit
import Derived.Lib.Hide
import Derived.Deep.LoopGhost
namespace Go.Proofs.Ytjpjpcockhmbeaa
open Go.ChangeShapes Go.WideShapes Go.ChangeAt Go.RowKit
set_option linter.unusedVariables false
set_option maxRecDepth 100000
def smallN (c : Nat) : Bool := decide (97 ≤ c) && decide (c ≤ 122)
def digitN (c : Nat) : Bool := decide (48 ≤ c) && decide (c ≤ 57)
def withinN (c : Nat) : Bool := smallN c || digitN c || decide (c = 95)
def escN (c : Nat) : Bool := decide (c = 34) || decide (c = 92)
theorem smallN_yes {c : Nat} (h1 : 97 ≤ c) (h2 : c ≤ 122) : smallN c = true := by simp [smallN, h1, h2]
theorem smallN_low {c : Nat} (h1 : ¬ 97 ≤ c) : smallN c = false := by simp [smallN, h1]
theorem smallN_high {c : Nat} (h1 : ¬ c ≤ 122) : smallN c = false := by simp [smallN, h1]
theorem digitN_yes {c : Nat} (h1 : 48 ≤ c) (h2 : c ≤ 57) : digitN c = true := by simp [digitN, h1, h2]
theorem digitN_low {c : Nat} (h1 : ¬ 48 ≤ c) : digitN c = false := by simp [digitN, h1]
theorem digitN_high {c : Nat} (h1 : ¬ c ≤ 57) : digitN c = false := by simp [digitN, h1]
theorem ret_yes {e : Ending} {b : Bool} (h : e = .returned (.bool true)) (hb : b = true) : e = .returned (.bool b) := by rw [hb]; exact h
theorem ret_no {e : Ending} {b : Bool} (h : e = .returned (.bool false)) (hb : b = false) : e = .returned (.bool b) := by rw [hb]; exact h
theorem small_any (c : Nat) (w : World) : Calls Try.prog 24 #[.int .u8 c] w fun e w' => e = .returned (.bool (smallN c)) ∧ w = w' := by
  by_cases h1 : 97 ≤ c
  · by_cases h2 : c ≤ 122
    · have H := Lib.hid (smallN_yes h1 h2)
      have i1 : (97 : Int) ≤ c := by omega
      have i2 : (c : Int) ≤ 122 := by omega
      go_enter Try.func24, Try.ntmps24
      go_wp2_with fail
      go_ret
      exact ⟨ret_yes rfl H.out, rfl⟩
    · have H := Lib.hid (smallN_high h2)
      have i1 : (97 : Int) ≤ c := by omega
      have i2 : ¬ (c : Int) ≤ 122 := by omega
      go_enter Try.func24, Try.ntmps24
      go_wp2_with fail
      go_ret
      exact ⟨ret_no rfl H.out, rfl⟩
  · have H := Lib.hid (smallN_low h1)
    have i1 : ¬ (97 : Int) ≤ c := by omega
    go_enter Try.func24, Try.ntmps24
    go_wp2_with fail
    go_ret
    exact ⟨ret_no rfl H.out, rfl⟩
theorem digit_any (c : Nat) (w : World) : Calls Try.prog 31 #[.int .u8 c] w fun e w' => e = .returned (.bool (digitN c)) ∧ w = w' := by
  by_cases h1 : 48 ≤ c
  · by_cases h2 : c ≤ 57
    · have H := Lib.hid (digitN_yes h1 h2)
      have i1 : (48 : Int) ≤ c := by omega
      have i2 : (c : Int) ≤ 57 := by omega
      go_enter Try.func31, Try.ntmps31
      go_wp2_with fail
      go_ret
      exact ⟨ret_yes rfl H.out, rfl⟩
    · have H := Lib.hid (digitN_high h2)
      have i1 : (48 : Int) ≤ c := by omega
      have i2 : ¬ (c : Int) ≤ 57 := by omega
      go_enter Try.func31, Try.ntmps31
      go_wp2_with fail
      go_ret
      exact ⟨ret_no rfl H.out, rfl⟩
  · have H := Lib.hid (digitN_low h1)
    have i1 : ¬ (48 : Int) ≤ c := by omega
    go_enter Try.func31, Try.ntmps31
    go_wp2_with fail
    go_ret
    exact ⟨ret_no rfl H.out, rfl⟩
theorem textWithin_any (c : Nat) (w : World) : Calls Try.prog 25 #[.int .u8 c] w fun e w' => e = .returned (.bool (withinN c)) ∧ w = w' := by
  have HS := Lib.hid (small_any c w)
  have HD := Lib.hid (digit_any c w)
  have HW : Hid (withinN c = (smallN c || digitN c || decide (c = 95))) := Lib.hid rfl
  generalize withinN c = r at *
  generalize smallN c = a at *
  generalize digitN c = b at *
  cases a with
  | true =>
    have HR : Hid (r = true) := Lib.hid (by rw [HW.out]; simp)
    clear HW HD
    go_enter Try.func25, Try.ntmps25
    go_wp2_with fail
    refine HS.out.mono ?_; rintro e w' ⟨rfl, rfl⟩
    go_wp2_with fail
    go_ret
    exact ⟨ret_yes rfl HR.out, rfl⟩
  | false =>
    cases b with
    | true =>
      have HR : Hid (r = true) := Lib.hid (by rw [HW.out]; simp)
      clear HW
      go_enter Try.func25, Try.ntmps25
      go_wp2_with fail
      refine HS.out.mono ?_; rintro e w' ⟨rfl, rfl⟩
      go_wp2_with fail
      refine HD.out.mono ?_; rintro e w' ⟨rfl, rfl⟩
      go_wp2_with fail
      go_ret
      exact ⟨ret_yes rfl HR.out, rfl⟩
    | false =>
      obtain ⟨q, hq⟩ : ∃ q, ((c : Int) == 95) = q := ⟨_, rfl⟩
      have HR : Hid (r = q) := Lib.hid (by
        rw [HW.out, ← hq, Bool.eq_iff_iff]
        simp only [Bool.or_self, Bool.false_or, decide_eq_true_eq, beq_iff_eq]
        omega)
      clear HW
      go_enter Try.func25, Try.ntmps25
      go_wp2_with fail
      refine HS.out.mono ?_; rintro e w' ⟨rfl, rfl⟩
      go_wp2_with fail
      refine HD.out.mono ?_; rintro e w' ⟨rfl, rfl⟩
      go_wp2_with fail
      go_ret
      exact ⟨by rw [HR.out]; rfl, rfl⟩
theorem escaped_any (c : Nat) (w : World) : Calls Try.prog 33 #[.int .u8 c] w fun e w' => e = .returned (.bool (escN c)) ∧ w = w' := by
  by_cases h1 : c = 34
  · subst h1
    go_enter Try.func33, Try.ntmps33
    go_wp2_with fail
    go_ret
    exact ⟨rfl, rfl⟩
  · by_cases h2 : c = 92
    · subst h2
      go_enter Try.func33, Try.ntmps33
      go_wp2_with fail
      go_ret
      exact ⟨rfl, rfl⟩
    · have H := Lib.hid (show escN c = false by simp [escN, h1, h2])
      have i1 : ((c : Int) == 34) = false := by rw [beq_eq_false_iff_ne]; omega
      have i2 : ((c : Int) == 92) = false := by rw [beq_eq_false_iff_ne]; omega
      clear h1 h2
      go_enter Try.func33, Try.ntmps33
      go_wp2_with fail
      go_ret
      exact ⟨ret_no rfl H.out, rfl⟩
end Go.Proofs.Ytjpjpcockhmbeaa
