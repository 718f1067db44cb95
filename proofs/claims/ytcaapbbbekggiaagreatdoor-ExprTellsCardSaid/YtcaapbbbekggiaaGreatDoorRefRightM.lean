/- klaxonref1.RightMatcher. -/
import Derived.Test.YtcaapbbbekggiaaGreatDoorBase4
import Derived.Deep.QuietTactic
import Derived.BigQuiet
namespace Go.Proofs.YtcaapbbbekggiaaGreatDoor
open Go.ChangeShapes Go.WideShapes Go.ChangeAt Go.RowKit
set_option linter.unusedVariables false
set_option maxRecDepth 100000
theorem signF_some (k : Int) : (!decide (signF k = ⟨#[]⟩)) = (decide (1 ≤ k) && decide (k ≤ 4)) := by
  by_cases h1 : k = 1
  · subst h1; decide
  · by_cases h2 : k = 2
    · subst h2; decide
    · by_cases h3 : k = 3
      · subst h3; decide
      · by_cases h4 : k = 4
        · subst h4; decide
        · have e : signF k = ⟨#[]⟩ := by unfold signF; rw [if_neg h1, if_neg h2, if_neg h3, if_neg h4]
          rw [decide_eq_true e]
          by_cases h : 1 ≤ k
          · rw [decide_eq_false (show ¬ k ≤ 4 by omega), Bool.and_false]; rfl
          · rw [decide_eq_false h]; rfl
set_option maxHeartbeats 2000000 in
theorem refRightM_any (nm vl : ByteArray) (k : Int) (w : World) (hnm : nm.size ≤ 9223372036854775807) (hvl : vl.size ≤ 9223372036854775807) :
    Calls Tryz.prog 40 #[.agg #[.string nm, .string vl, .int .i64 k]] w fun e w' => e = .returned (.bool (mtcOk (nm, vl, k))) ∧ Below w.heap.size w w' := by
  have HB0 := Lib.hid ((Below.refl w.heap.size w).alloc (Nat.le_refl _) (.cells #[.string nm, .string vl, .int .i64 k] 57))
  have HW := Lib.hid (fun W => refWord_any nm W hnm)
  have HOK : Hid (mtcOk (nm, vl, k) = (wordF nm && (decide (vl.size ≤ 24) && (decide (1 ≤ k) && decide (k ≤ 4))))) := Lib.hid (by rw [← signF_some]; rfl)
  generalize mtcOk (nm, vl, k) = r at *
  generalize wordF nm = wn at *
  cases wn with
  | false =>
    have HR := Lib.hid (show r = false by rw [HOK.out]; rfl)
    clear HOK
    go_enter Tryz.func40, Tryz.ntmps40
    go_wp2_with fail
    (with_reducible refine (HW.out _).mono ?_); rintro e w' ⟨rfl, rfl⟩
    go_wp2_with fail
    go_ret
    exact ⟨by rw [HR.out]; rfl, HB0.out⟩
  | true =>
    by_cases h1 : vl.size ≤ 24
    · have y1 : (vl.size : Int) ≤ 24 := by omega
      by_cases h2 : 1 ≤ k
      · by_cases h3 : k ≤ 4
        · have HR := Lib.hid (show r = true by rw [HOK.out, decide_eq_true h1, decide_eq_true h2, decide_eq_true h3]; rfl)
          clear HOK
          go_enter Tryz.func40, Tryz.ntmps40
          go_wp2_with fail
          (with_reducible refine (HW.out _).mono ?_); rintro e w' ⟨rfl, rfl⟩
          go_wp2_with fail
          go_ret
          exact ⟨by rw [HR.out]; rfl, HB0.out⟩
        · have HR := Lib.hid (show r = false by rw [HOK.out, decide_eq_false h3]; simp)
          clear HOK
          go_enter Tryz.func40, Tryz.ntmps40
          go_wp2_with fail
          (with_reducible refine (HW.out _).mono ?_); rintro e w' ⟨rfl, rfl⟩
          go_wp2_with fail
          go_ret
          exact ⟨by rw [HR.out]; show Ending.returned (.bool (decide (k ≤ 4))) = _; rw [decide_eq_false (by omega)], HB0.out⟩
      · have HR := Lib.hid (show r = false by rw [HOK.out, decide_eq_false h2]; simp)
        clear HOK
        go_enter Tryz.func40, Tryz.ntmps40
        go_wp2_with fail
        (with_reducible refine (HW.out _).mono ?_); rintro e w' ⟨rfl, rfl⟩
        go_wp2_with fail
        go_ret
        exact ⟨by rw [HR.out]; rfl, HB0.out⟩
    · have y1 : ¬ (vl.size : Int) ≤ 24 := by omega
      have y2 : ¬ vl.size ≤ 24 := h1
      have HR := Lib.hid (show r = false by rw [HOK.out, decide_eq_false h1]; simp)
      clear HOK
      go_enter Tryz.func40, Tryz.ntmps40
      go_wp2_with fail
      (with_reducible refine (HW.out _).mono ?_); rintro e w' ⟨rfl, rfl⟩
      go_wp2_with fail
      go_ret
      exact ⟨by rw [HR.out]; rfl, HB0.out⟩
end Go.Proofs.YtcaapbbbekggiaaGreatDoor
