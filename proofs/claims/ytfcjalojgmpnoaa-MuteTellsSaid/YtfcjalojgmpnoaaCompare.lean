/- lset.Compare; an order of texts. -/
import Derived.Test.YtfcjalojgmpnoaaSet2
import Derived.Test.YtfcjalojgmpnoaaLsetRuns
namespace Go.Proofs.Ytfcjalojgmpnoaa
open Go.ChangeShapes Go.WideShapes Go.ChangeAt Go.RowKit
set_option linter.unusedVariables false
set_option maxRecDepth 100000
theorem cmp_less : ∀ a b : List UInt8, Lib.compareBytes a b = if Op.bytesLess a b then -1 else if Op.bytesLess b a then 1 else 0
  | [], [] => rfl
  | [], _ :: _ => rfl
  | _ :: _, [] => rfl
  | a :: x, b :: y => by
    have ih := cmp_less x y
    unfold Lib.compareBytes Op.bytesLess
    rcases u8_tri a b with h | h | h
    · simp [h]
    · subst h
      have hn : ¬ a < a := fun h => u8_not h h
      simp [hn, ih]
    · have hn := u8_not h
      have hne := u8_ne h
      have hb1 : (a == b) = false := by rw [beq_eq_false_iff_ne]; exact fun e => hne e.symm
      simp [h, hn, hb1]
theorem less_irrefl : ∀ a : List UInt8, Op.bytesLess a a = false
  | [] => rfl
  | a :: x => by
    have hn : ¬ a < a := fun h => u8_not h h
    unfold Op.bytesLess
    simp [hn, less_irrefl x]
theorem cmp_refl (a : List UInt8) : Lib.compareBytes a a = 0 := by rw [cmp_less, less_irrefl]; rfl
theorem cmp_ne : ∀ {a b : List UInt8}, a ≠ b → Op.bytesLess a b = true ∨ Op.bytesLess b a = true
  | [], [], h => absurd rfl h
  | [], _ :: _, _ => .inl rfl
  | _ :: _, [], _ => .inr rfl
  | a :: x, b :: y, h => by
    unfold Op.bytesLess
    rcases u8_tri a b with h1 | h1 | h1
    · exact .inl (by simp [h1])
    · subst h1
      rcases cmp_ne (a := x) (b := y) (fun e => h (by rw [e])) with h2 | h2
      · exact .inl (by simp [h2])
      · exact .inr (by simp [h2])
    · exact .inr (by simp [h1])
theorem cmp_zero {a b : List UInt8} (h : Lib.compareBytes a b = 0) : a = b := by
  by_cases e : a = b
  · exact e
  · rw [cmp_less] at h
    rcases cmp_ne e with h1 | h1
    · rw [h1] at h; simp at h
    · rw [h1] at h
      split at h <;> simp at h
theorem cmp_swap (a b : List UInt8) : Lib.compareBytes a b = -Lib.compareBytes b a := by
  rw [cmp_less, cmp_less]
  cases h1 : Op.bytesLess a b <;> cases h2 : Op.bytesLess b a <;> simp
  have : ∀ x y : List UInt8, Op.bytesLess x y = true → Op.bytesLess y x = false := by
    intro x
    induction x with
    | nil => intro y h; cases y with | nil => cases h | cons => rfl
    | cons c x ih =>
      intro y h
      cases y with
      | nil => cases h
      | cons d y =>
        unfold Op.bytesLess at h ⊢
        rcases u8_tri c d with h3 | h3 | h3
        · have hn := u8_not h3
          have hne := u8_ne h3
          have hb1 : (d == c) = false := by rw [beq_eq_false_iff_ne]; exact fun e => hne e.symm
          simp [hn, hb1]
        · subst h3
          have hn : ¬ c < c := fun h => u8_not h h
          simp [hn] at h ⊢
          exact ih y h
        · have hn := u8_not h3
          have hne := u8_ne h3
          have hb1 : (c == d) = false := by rw [beq_eq_false_iff_ne]; exact fun e => hne e.symm
          simp [hn, hb1] at h
  have h3 := this a b h1
  rw [h2] at h3; cases h3
theorem print_inj {a b : List (ByteArray × ByteArray)} (ha : rightS a = true) (hb : rightS b = true) (h : printL a = printL b) : a = b := by
  have h1 := parseF_print ha
  rw [h, parseF_print hb] at h1
  injection h1 with h1
  exact h1.symm
end Go.Proofs.Ytfcjalojgmpnoaa
