/- What an expression comes to, by its own parts and its kids' types. -/
import Derived.Test.YtcaapbbbekggiaaGreatDoorPe
import Derived.Test.YtcaapbbbekggiaaGreatDoorDeep
import Derived.Test.YtcaapbbbekggiaaGreatDoorRefRight
namespace Go.Proofs.YtcaapbbbekggiaaGreatDoor
open Go.ChangeShapes Go.WideShapes Go.ChangeAt Go.RowKit
set_option linter.unusedVariables false
set_option maxRecDepth 100000
def restT (k : Int) (ns : List ByteArray) (tys : List Int) : Int := if wordX k ≠ ⟨#[]⟩ then oneT ns tys else if signX k ≠ ⟨#[]⟩ then twoT k ns tys else 0
def tyOf (k n : Int) (ms : List Mtc) (ns : List ByteArray) (tys : List Int) : Int :=
  if k = 1 then (if ms.length + ns.length + tys.length = 0 then 1 else 0)
  else if k = 2 then (if ns.length + tys.length = 0 ∧ rightM ms = true ∧ 1 ≤ n ∧ n ≤ 1048576 then 2 else 0)
  else if ¬ (ms.length = 0 ∧ n = 0) then 0 else restT k ns tys
theorem tysP_len : ∀ l : List PE, (tysP l).length = l.length
  | [] => rfl
  | x :: l => by simp [tysP, tysP_len l]
theorem tyOf_pe (k n : Int) (ms : List Mtc) (ns : List ByteArray) (ks : List PE) : (PE.mk k n ms ns ks).ty = tyOf k n ms ns (tysP ks) := by
  unfold PE.ty tyOf restT
  rw [tysP_len]
theorem namesOk_more {ns : List ByteArray} (h : namesOk ns ns.length = false) : ns ≠ [] := fun e => by
  subst e; exact absurd h (by decide)
theorem rest_word {k : Int} (h1 : 17 ≤ k) (h2 : k ≤ 20) (ns : List ByteArray) (tys : List Int) : restT k ns tys = if namesF ns = true ∧ tys = [2] then 2 else 0 := by
  unfold restT; rw [if_pos (word_is h1 h2)]; rfl
theorem rest_two {k : Int} (h : ¬ (17 ≤ k ∧ k ≤ 20)) (ns : List ByteArray) (tys : List Int) : restT k ns tys = if 3 ≤ k ∧ k ≤ 16 then twoT k ns tys else 0 := by
  unfold restT; rw [if_neg (by rw [word_none h]; simp)]
  by_cases h3 : 3 ≤ k ∧ k ≤ 16
  · rw [if_pos (sign_is h3.1 h3.2), if_pos h3]
  · rw [if_neg h3, if_neg]
    intro h4; exact h3 (sign_kinds h4)
theorem two_names {k : Int} {ns : List ByteArray} (tys : List Int) (h : ns ≠ []) : twoT k ns tys = 0 := by
  cases ns with
  | nil => exact absurd rfl h
  | cons x l => rfl
theorem two_len {k : Int} {ns : List ByteArray} {tys : List Int} (h : tys.length ≠ 2) : twoT k ns tys = 0 := by
  match ns, tys, h with
  | [], [], _ => rfl
  | [], [a], _ => rfl
  | [], [a, b], h => exact absurd rfl h
  | [], a :: b :: c :: l, _ => rfl
  | x :: l, _, _ => rfl
theorem two_none {k a b : Int} (h : a = 0 ∨ b = 0) : twoT k [] [a, b] = 0 := by
  show (if a = 0 ∨ b = 0 then (0 : Int) else _) = 0
  rw [if_pos h]
theorem two_vals {k a b : Int} (ha : a = 1 ∨ a = 2) (hb : b = 1 ∨ b = 2) : twoT k [] [a, b] = if k ≤ 7 then max a b else if k ≤ 13 then (if a = 2 then 2 else 0) else if a = 2 ∧ b = 2 then 2 else 0 := by
  unfold twoT
  by_cases h7 : k ≤ 7 <;> by_cases h13 : k ≤ 13 <;> rcases ha with rfl | rfl <;> rcases hb with rfl | rfl <;> simp [h7, h13] <;> omega
theorem rest_zero {k : Int} {ns : List ByteArray} {tys : List Int} (h : ¬ (17 ≤ k ∧ k ≤ 20)) (h2 : twoT k ns tys = 0) : restT k ns tys = 0 := by
  rw [rest_two h, h2]; split <;> rfl
/-- Names that may not stand: nothing. -/
theorem tyOf_names {k n : Int} {ms : List Mtc} {ns : List ByteArray} {tys : List Int} (h : namesOk ns ns.length = false) : tyOf k n ms ns tys = 0 := by
  have hne := namesOk_more h
  have hl : ns.length ≠ 0 := fun e => hne (List.eq_nil_of_length_eq_zero e)
  unfold tyOf
  split
  · rw [if_neg (by omega)]
  · split
    · rw [if_neg (fun h => by omega)]
    · split
      · rfl
      · by_cases h17 : 17 ≤ k ∧ k ≤ 20
        · rw [rest_word h17.1 h17.2, if_neg]
          intro h2
          unfold namesF at h2
          rw [h, Bool.and_false] at h2
          exact absurd h2.1 (by decide)
        · exact rest_zero h17 (two_names tys hne)
/-- Membership, as a map of texts answers it. -/
def memB (l : List ByteArray) (t : List UInt8) : Bool := l.any fun s => t == s.data.toList
theorem memB_hasS (l : List ByteArray) (x : ByteArray) : memB l x.data.toList = hasS l x := by
  unfold memB hasS
  refine List.any_congr rfl fun s => ?_
  by_cases h : s = x
  · subst h; simp
  · rw [decide_eq_false h, beq_eq_false_iff_ne]
    intro e
    exact h (ByteArray.ext (Array.toList_inj.1 e.symm))
theorem memB_snoc (l : List ByteArray) (x : ByteArray) : (fun t => t == x.data.toList || memB l t) = memB (l ++ [x]) := by
  funext t
  unfold memB
  rw [List.any_append, Bool.or_comm]
  simp
theorem right_one8 (x : ByteArray) : rightS [(x, ⟨#[120]⟩)] = wordF x := by
  have h1 : (⟨#[120]⟩ : ByteArray).size = 1 := rfl
  simp only [rightS, rightK, riseAt, lblAt, List.length_cons, List.length_nil]
  simp [lblOk, h1]
theorem nameAt_get {ns : List ByteArray} {k : Nat} (h : k < ns.length) : nameAt ns k = (wordF ns[k] && !hasS (ns.take k) ns[k]) := by
  unfold nameAt
  rw [show ns.getD k ⟨#[]⟩ = ns[k] by simp [h]]
theorem pe_ty_range (x : PE) : x.ty = 0 ∨ x.ty = 1 ∨ x.ty = 2 := by
  obtain ⟨k, n, ms, ns, ks⟩ := x
  rw [tyOf_pe]
  unfold tyOf restT oneT twoT
  repeat' (first | omega | split)
end Go.Proofs.YtcaapbbbekggiaaGreatDoor
