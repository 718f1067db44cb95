/- Tokens spelled out, and cut again: plain lists. -/
import Derived.Test.YtnkbpcenkbihpaaDoorLex7
namespace Go.Proofs.YtnkbpcenkbihpaaDoor
open Go.ChangeShapes Go.WideShapes Go.ChangeAt Go.RowKit
set_option linter.unusedVariables false
set_option linter.unusedSimpArgs false
set_option maxRecDepth 100000
/-- A token that a text can have. -/
def okTok (t : Tok) : Prop :=
  (t.kd = 1 ∧ I64 t.n ∧ t.tx = ⟨#[]⟩) ∨
  (t.kd = 2 ∧ t.n = 0 ∧ ∃ c r, t.tx.data.toList = c :: r ∧ smallN c.toNat = true ∧ (∀ x ∈ r, withinN x.toNat = true) ∧ r.length ≤ 23) ∨
  (t.kd = 3 ∧ t.n = 0 ∧ t.tx.size ≤ 24) ∨
  (t.kd = 4 ∧ t.n = 0 ∧ t.tx ∈ signsL)
def signOk (s : List UInt8) (c : UInt8) : Bool := if s = [61] ∨ s = [60] ∨ s = [62] then decide (c ≠ 61) else if s = [45] then !digitN c.toNat else true
/-- May this byte stand behind a token. -/
def follow (t : Tok) (c : UInt8) : Bool :=
  if t.kd = 1 then !digitN c.toNat else if t.kd = 2 then !withinN c.toNat else if t.kd = 3 then true else signOk t.tx.data.toList c
def FollowL (t : Tok) (l : List UInt8) : Prop := ∀ c r, l = c :: r → follow t c = true
theorem digit_byte {d : Nat} (h : d < 10) : (UInt8.ofNat (48 + d)).toNat = 48 + d := by rw [UInt8.toNat_ofNat']; omega
theorem digit_yes {d : Nat} (h : d < 10) : digitN (UInt8.ofNat (48 + d)).toNat = true := by rw [digit_byte h]; exact digitN_yes (by omega) (by omega)
/-- Digits are read down to the number below nought. -/
theorem numGo_dec : ∀ (u : Nat), u ≤ 9223372036854775808 → ∀ r : List UInt8, numGo 0 (Lib.decDigits u ++ r) = (numGo (-(u : Int)) r).map fun p => (p.1, p.2 + (Lib.decDigits u).length) := by
  intro u
  induction u using Nat.strongRecOn with
  | _ u ih =>
    intro hu r
    rw [Lib.decDigits]
    by_cases h : u < 10
    · rw [dif_pos h]
      show numGo 0 (UInt8.ofNat (48 + u) :: r) = _
      conv => lhs; unfold numGo
      rw [if_pos (digit_yes h), digit_byte h]
      obtain ⟨t, ht, ht1, ht2, ht3⟩ := tdiv_min ((48 + u : Nat) - 48 : Int) (by omega) (by omega)
      rw [ht, if_neg (by omega), show (0 : Int) * 10 - (((48 + u : Nat) : Int) - 48) = -(u : Int) by omega]
      rfl
    · rw [dif_neg h, List.append_assoc, ih (u / 10) (by omega) (by omega)]
      show (numGo (-((u / 10 : Nat) : Int)) (UInt8.ofNat (48 + u % 10) :: r)).map _ = _
      conv => lhs; unfold numGo
      rw [if_pos (digit_yes (by omega)), digit_byte (by omega)]
      obtain ⟨t, ht, ht1, ht2, ht3⟩ := tdiv_min ((48 + u % 10 : Nat) - 48 : Int) (by omega) (by omega)
      rw [ht]
      have hq : ¬ (-((u / 10 : Nat) : Int) < t) := by
        have e : (-9223372036854775808 + (((48 + u % 10 : Nat) : Int) - 48)).tdiv 10 = -((9223372036854775808 - (((48 + u % 10 : Nat) : Int) - 48)) / 10) := by
          rw [show -9223372036854775808 + (((48 + u % 10 : Nat) : Int) - 48) = -(9223372036854775808 - (((48 + u % 10 : Nat) : Int) - 48)) by omega, Int.neg_tdiv, Int.tdiv_eq_ediv_of_nonneg (by omega)]
        rw [← ht, e]; omega
      rw [if_neg hq, show -((u / 10 : Nat) : Int) * 10 - (((48 + u % 10 : Nat) : Int) - 48) = -(u : Int) by omega]
      rw [Option.map_map]
      congr 1
      funext p
      simp only [Function.comp_apply, List.length_append, List.length_singleton]
      congr 1
      omega
theorem numGo_stop {n : Int} {r : List UInt8} (h : ∀ c q, r = c :: q → digitN c.toNat = false) : numGo n r = some (n, 0) := by
  cases r with
  | nil => rfl
  | cons c q =>
    unfold numGo
    rw [if_neg (by rw [h c q rfl]; simp)]
theorem decDigits_head (u : Nat) : ∃ c r, Lib.decDigits u = c :: r ∧ digitN c.toNat = true := by
  induction u using Nat.strongRecOn with
  | _ u ih =>
    rw [Lib.decDigits]
    by_cases h : u < 10
    · rw [dif_pos h]; exact ⟨_, _, rfl, digit_yes h⟩
    · obtain ⟨c, r, e, hc⟩ := ih (u / 10) (by omega)
      rw [dif_neg h, e]; exact ⟨c, _, rfl, hc⟩
theorem numF_itoa {n : Int} (hn : I64 n) {r : List UInt8} (h : ∀ c q, r = c :: q → digitN c.toNat = false) : numF (Lib.itoa n ++ r) = some (n, (Lib.itoa n).length) := by
  unfold I64 at hn
  unfold Lib.itoa
  by_cases h0 : n < 0
  · rw [if_pos h0]
    unfold numF
    rw [if_pos (show ((45 :: Lib.decDigits n.natAbs) ++ r).head? = some 45 from rfl)]
    show numAt 1 0 (Lib.decDigits n.natAbs ++ r) = _
    unfold numAt
    rw [numGo_dec _ (by omega), numGo_stop h]
    simp only [Option.map_some, List.length_cons]
    congr 1
    rw [show -((n.natAbs : Nat) : Int) = n by omega]
    congr 1
    omega
  · rw [if_neg h0]
    obtain ⟨c, q, e, hc⟩ := decDigits_head n.toNat
    have hne : ¬ (Lib.decDigits n.toNat ++ r).head? = some 45 := by
      rw [e]
      intro h1
      have h2 : c = 45 := by simpa using h1
      rw [h2] at hc; exact absurd hc (by decide)
    unfold numF
    rw [if_neg hne]
    unfold numAt
    rw [numGo_dec _ (by omega), numGo_stop h]
    simp only [Option.map_some]
    rw [if_neg (by omega)]
    congr 1
    rw [show - -((n.toNat : Nat) : Int) = n by omega]
    congr 1
    omega
end Go.Proofs.YtnkbpcenkbihpaaDoor
