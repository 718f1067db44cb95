/- The contracts of the document's own sum and product (klaxonref1.Add, klaxonref1.Mul). -/
import Derived.Test.YtbndmmfpoljeaaaRows
import Derived.Test.YtbndmmfpoljeaaaBase
import Derived.WalkKit
import Derived.ProofKit
import Derived.Lib.Hide
namespace Go.Proofs.Ytbndmmfpoljeaaa
open Go.ChangeShapes Go.WideShapes Go.ChangeAt Go.RowKit
set_option linter.unusedVariables false

theorem ret_ib {a b : Int} {c d : Bool} (h : a = b) (h2 : c = d) : Ending.returned (.tuple #[.int .i64 a, .bool c]) = .returned (.tuple #[.int .i64 b, .bool d]) := by rw [h, h2]
theorem sum_case {a b : Int} (wa : I64 a) (wb : I64 b) :
    (I64 (a + b) ∧ wrap64 (a + b) = a + b) ∨ (0 < a ∧ 0 < b ∧ wrap64 (a + b) < 0 ∧ ¬ I64 (a + b)) ∨ (a < 0 ∧ b < 0 ∧ 0 ≤ wrap64 (a + b) ∧ ¬ I64 (a + b)) := by
  unfold wrap64; unfold I64 at *; omega
theorem ref_add_any (a b : Int) (w : World) (wa : I64 a) (wb : I64 b) :
    Calls Try.prog 53 #[.int .i64 a, .int .i64 b] w fun e w' => e = .returned (.tuple #[.int .i64 (nV (a + b)), .bool (nB (a + b))]) ∧ w = w' := by
  rcases sum_case wa wb with ⟨h, hw⟩ | ⟨h1, h2, h3, h⟩ | ⟨h1, h2, h3, h⟩
  · rw [nV_in h, nB_in h]
    have H := Lib.hid h
    unfold I64 at h
    clear hw wa wb
    go_enter Try.func53, Try.ntmps53
    go_wp2
    all_goals first
      | (go_ret2; exact ⟨rfl, rfl⟩)
      | omega
  · rw [nV_out h, nB_out h]
    clear h wa wb
    go_enter Try.func53, Try.ntmps53
    go_wp2
    go_ret2
    exact ⟨rfl, rfl⟩
  · rw [nV_out h, nB_out h]
    have h4 : ¬ 0 < a := by omega
    clear h wa wb
    go_enter Try.func53, Try.ntmps53
    go_wp2
    go_ret2
    exact ⟨rfl, rfl⟩

theorem ref_mul_any (a b : Int) (w : World) (wa : I64 a) (wb : I64 b) :
    Calls Try.prog 72 #[.int .i64 a, .int .i64 b] w fun e w' => e = .returned (.tuple #[.int .i64 (nV (a * b)), .bool (nB (a * b))]) ∧ w = w' := by
  by_cases ha : a = 0
  · subst ha
    have h : I64 (0 * b) := by rw [Int.zero_mul]; exact ⟨by omega, by omega⟩
    rw [nV_in h, nB_in h, Int.zero_mul]
    clear h wa wb
    go_enter Try.func72, Try.ntmps72
    go_wp2
    go_ret2
    exact ⟨rfl, rfl⟩
  have ha0 : (a == 0) = false := by simpa using ha
  by_cases hb : b = 0
  · subst hb
    have h : I64 (a * 0) := by rw [Int.mul_zero]; exact ⟨by omega, by omega⟩
    rw [nV_in h, nB_in h, Int.mul_zero]
    clear h wa wb
    go_enter Try.func72, Try.ntmps72
    go_wp2
    go_ret2
    exact ⟨rfl, rfl⟩
  have hb0 : (b == 0) = false := by simpa using hb
  by_cases hx : a = -9223372036854775808 ∧ b = -1 ∨ b = -9223372036854775808 ∧ a = -1
  · have h : ¬ I64 (a * b) := by
      rcases hx with ⟨rfl, rfl⟩ | ⟨rfl, rfl⟩ <;> (unfold I64; omega)
    rw [nV_out h, nB_out h]
    clear h wa wb
    rcases hx with ⟨rfl, rfl⟩ | ⟨rfl, rfl⟩
    · go_enter Try.func72, Try.ntmps72
      go_wp2
      go_ret2
      exact ⟨rfl, rfl⟩
    · go_enter Try.func72, Try.ntmps72
      go_wp2
      go_ret2
      exact ⟨rfl, rfl⟩
  have hx1 : ((a == -9223372036854775808) && (b == -1)) = false := by
    rw [Bool.eq_false_iff]; intro h; simp at h; exact hx (.inl h)
  have hx2 : ((b == -9223372036854775808) && (a == -1)) = false := by
    rw [Bool.eq_false_iff]; intro h; simp at h; exact hx (.inr h)
  have hc : (a == -9223372036854775808) = false ∨ (a == -9223372036854775808) = true ∧ (b == -1) = false := by
    cases h : (a == -9223372036854775808) <;> simp_all
  have hd : (b == -9223372036854775808) = false ∨ (b == -9223372036854775808) = true ∧ (a == -1) = false := by
    cases h : (b == -9223372036854775808) <;> simp_all
  have HX := Lib.hid hx
  clear hx hx1 hx2
  by_cases h : I64 (a * b)
  · have h2 := (mul_stays wa hb h).1
    have h3 := mul_rem h
    rw [nV_in h, nB_in h]
    have HW := Lib.hid (wrap64_of h)
    clear h wa wb
    rcases hc with hc | ⟨hc, hc'⟩ <;> rcases hd with hd | ⟨hd, hd'⟩
    all_goals
      go_enter Try.func72, Try.ntmps72
      go_wp2
      go_ret2
      exact ⟨ret_int1 HW.out, rfl⟩
  · have h2 : ¬ wrap64 ((wrap64 (a * b)).tdiv b) = a := by
      rcases mul_wraps wa wb hb h with h2 | ⟨h2, h3⟩
      · exact h2
      · exact absurd (.inl ⟨h3, h2⟩) HX.out
    rw [nV_out h, nB_out h]
    clear h wa wb
    rcases hc with hc | ⟨hc, hc'⟩ <;> rcases hd with hd | ⟨hd, hd'⟩
    all_goals
      go_enter Try.func72, Try.ntmps72
      go_wp2
      go_ret2
      exact ⟨rfl, rfl⟩
end Go.Proofs.Ytbndmmfpoljeaaa
