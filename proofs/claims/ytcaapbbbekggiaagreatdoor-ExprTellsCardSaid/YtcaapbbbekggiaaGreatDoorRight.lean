/- Right sets: lset.Right. -/
import Derived.Test.YtcaapbbbekggiaaGreatDoorLabel
import Derived.Test.YtcaapbbbekggiaaGreatDoorBase
import Derived.BigQuiet
import Derived.Laws.Cover1
import Derived.Deep.QuietTactic
namespace Go.Proofs.YtcaapbbbekggiaaGreatDoor
open Go.ChangeShapes Go.WideShapes Go.ChangeAt Go.RowKit
set_option linter.unusedVariables false
set_option maxRecDepth 100000
theorem below_drewN3 {B : Nat} {a w : World} (h : Below B a w) (n : Nat) : Below B a (w.drewN n) := ⟨h.os, h.tape, h.output, h.size, h.block⟩
theorem u8_tri (a b : UInt8) : a < b ∨ a = b ∨ b < a := by
  rcases Nat.lt_trichotomy a.toNat b.toNat with h | h | h
  · exact .inl (UInt8.lt_iff_toNat_lt.2 h)
  · exact .inr (.inl (UInt8.toNat_inj.1 h))
  · exact .inr (.inr (UInt8.lt_iff_toNat_lt.2 h))
theorem u8_not {a b : UInt8} (h : a < b) : ¬ b < a := fun h2 => by
  have := UInt8.lt_iff_toNat_lt.1 h; have := UInt8.lt_iff_toNat_lt.1 h2; omega
theorem u8_ne {a b : UInt8} (h : a < b) : a ≠ b := fun e => by
  subst e; exact u8_not h h
theorem less_flip : ∀ x y : List UInt8, (Op.bytesLess x y || x == y) = !(Op.bytesLess y x)
  | [], [] => by simp [Op.bytesLess]
  | [], b :: y => by simp [Op.bytesLess]
  | a :: x, [] => by simp [Op.bytesLess]
  | a :: x, b :: y => by
    have ih := less_flip x y
    rcases u8_tri a b with h | h | h
    · have h2 := u8_not h; have h3 := u8_ne h
      simp [Op.bytesLess, h, h2, Ne.symm h3]
    · subst h
      have h2 : ¬ a < a := fun h => u8_not h h
      simp only [Op.bytesLess, h2, decide_false, Bool.false_or, beq_self_eq_true, Bool.true_and, List.cons_beq_cons]
      exact ih
    · have h2 := u8_not h; have h3 := u8_ne h
      simp [Op.bytesLess, h, h2, Ne.symm h3]
/-- May x be a label. -/
def lblOk (x : ByteArray × ByteArray) : Bool := wordF x.1 && decide (1 ≤ x.2.size) && decide (x.2.size ≤ 24)
def lblAt (l : List (ByteArray × ByteArray)) (k : Nat) : ByteArray × ByteArray := l.getD k (ByteArray.empty, ByteArray.empty)
theorem lblAt_get {l : List (ByteArray × ByteArray)} {k : Nat} (h : k < l.length) : lblAt l k = l[k] := by simp [lblAt, List.getD_eq_getElem?_getD, h]
/-- Does the k'th label's name come behind the one's ahead of it. -/
def riseAt (l : List (ByteArray × ByteArray)) : Nat → Bool
  | 0 => true
  | k + 1 => Op.bytesLess (lblAt l k).1.toList (lblAt l (k + 1)).1.toList
def rightK (l : List (ByteArray × ByteArray)) : Nat → Bool
  | 0 => true
  | k + 1 => rightK l k && (lblOk (lblAt l k) && riseAt l k)
theorem rightK_false {l : List (ByteArray × ByteArray)} {k : Nat} (h : (lblOk (lblAt l k) && riseAt l k) = false) : ∀ n, k < n → rightK l n = false
  | 0, hn => by omega
  | n + 1, hn => by
    unfold rightK
    by_cases e : k = n
    · subst e; rw [h, Bool.and_false]
    · rw [rightK_false h n (by omega), Bool.false_and]
/-- Is l a set. -/
def rightS (l : List (ByteArray × ByteArray)) : Bool := decide (l.length ≤ 6) && rightK l l.length
theorem rightS_long {l : List (ByteArray × ByteArray)} (h : ¬ l.length ≤ 6) : rightS l = false := by simp [rightS, h]
theorem rightS_row {l : List (ByteArray × ByteArray)} {k : Nat} (hk : k < l.length) (h : lblOk l[k] = false) : rightS l = false := by
  have : rightK l l.length = false := rightK_false (k := k) (by rw [lblAt_get hk, h, Bool.false_and]) _ hk
  simp [rightS, this]
theorem rightS_rise {l : List (ByteArray × ByteArray)} {k : Nat} (hk : k < l.length) (h : riseAt l k = false) : rightS l = false := by
  have : rightK l l.length = false := rightK_false (k := k) (by rw [h, Bool.and_false]) _ hk
  simp [rightS, this]
theorem rightS_yes {l : List (ByteArray × ByteArray)} (h : l.length ≤ 6) (h2 : rightK l l.length = true) : rightS l = true := by simp [rightS, h, h2]
theorem riseAt_get {l : List (ByteArray × ByteArray)} {q k : Nat} (hq : q + 1 = k) (hk : k < l.length) : riseAt l k = Op.bytesLess (l[q]'(by omega)).1.toList l[k].1.toList := by
  subst hq
  show Op.bytesLess _ _ = _
  rw [lblAt_get (by omega), lblAt_get hk]
end Go.Proofs.YtcaapbbbekggiaaGreatDoor
