/- klaxonref1.Quote; klaxonref7.num. -/
import Derived.Test.YtnkbpcenkbihpaaDoorRefLex1
import Derived.Lib.ItoaLen
import Derived.Test.YtnkbpcenkbihpaaDoorBase
import Derived.Test.YtnkbpcenkbihpaaDoorRefQ
namespace Go.Proofs.YtnkbpcenkbihpaaDoor
open Go.ChangeShapes Go.WideShapes Go.ChangeAt Go.RowKit
set_option linter.unusedVariables false
set_option linter.unusedSimpArgs false
set_option maxRecDepth 100000
/-- Decimal digits, none of nought. -/
def preD (u : Nat) : List UInt8 := if u = 0 then [] else Lib.decDigits u
theorem decD_step (u : Nat) : Lib.decDigits u = preD (u / 10) ++ [UInt8.ofNat (48 + u % 10)] := by
  by_cases h : u < 10
  · rw [Lib.decDigits, dif_pos h, preD, if_pos (by omega), List.nil_append, Nat.mod_eq_of_lt h]
  · rw [Lib.decDigits, dif_neg h, preD, if_neg (by omega)]
theorem preD_pos {u : Nat} (h : 0 < u) : preD u = Lib.decDigits u := by rw [preD, if_neg (by omega)]
theorem ba_cat (a b : List UInt8) : (⟨a.toArray⟩ : ByteArray) ++ ⟨b.toArray⟩ = ⟨(a ++ b).toArray⟩ := by
  show ByteArray.append _ _ = _
  apply ByteArray.ext
  simp
def NumInv (U u : Nat) (l : List UInt8) : Prop := (l = [] ∧ u = U) ∨ (l ≠ [] ∧ u ≤ U ∧ Lib.decDigits U = preD u ++ l)
theorem NumInv.le {U u : Nat} {l : List UInt8} (h : NumInv U u l) : u ≤ U := by
  rcases h with ⟨_, h⟩ | ⟨_, h, _⟩ <;> omega
theorem decD_len (u : Nat) : (Lib.decDigits u).length = Lib.nDigits u := by
  induction u using Nat.strongRecOn with
  | _ u ih =>
    rw [Lib.decDigits, Lib.nDigits]
    split
    · rfl
    · rw [List.length_append, ih _ (by omega)]; rfl
theorem NumInv.len {U u : Nat} {l : List UInt8} (h : NumInv U u l) (hU : U ≤ 9223372036854775808) : l.length ≤ 20 := by
  rcases h with ⟨h, _⟩ | ⟨_, _, h⟩
  · rw [h]; simp
  · have h1 := congrArg List.length h
    rw [decD_len, List.length_append] at h1
    have := Lib.nDigits_le20 U (by omega)
    omega
theorem NumInv.next {U u : Nat} {l : List UInt8} (h : NumInv U u l) (hu : l = [] ∨ 0 < u) : NumInv U (u / 10) (UInt8.ofNat (48 + u % 10) :: l) := by
  have hl := h.le
  refine .inr ⟨by simp, by omega, ?_⟩
  rcases h with ⟨h1, h2⟩ | ⟨h1, _, h2⟩
  · subst h1; subst h2; exact decD_step u
  · have h3 : 0 < u := hu.resolve_left h1
    rw [h2, preD_pos h3, decD_step u, List.append_assoc]; rfl
end Go.Proofs.YtnkbpcenkbihpaaDoor
