/- num.Sum: any ints, from left to right. -/
import Derived.Test.YtejfohopibkgoaaNum
import Derived.Test.YtejfohopibkgoaaMem
namespace Go.Proofs.Ytejfohopibkgoaa
open Go.ChangeShapes Go.WideShapes Go.ChangeAt Go.RowKit
set_option linter.unusedVariables false
/-- The sum from acc on, if each of the way fits. -/
def sumO : Int → List Int → Option Int
  | acc, [] => some acc
  | acc, z :: zs => if I64 (acc + z) then sumO (acc + z) zs else none
def sumV (o : Option Int) : Int := o.getD 0
def sumE (o : Option Int) : Int := if o.isSome then 0 else 3
theorem sumO_step {acc : Int} {zs : List Int} {k : Nat} (h : k < zs.length) : sumO acc (zs.drop k) = if I64 (acc + zs[k]) then sumO (acc + zs[k]) (zs.drop (k + 1)) else none := by
  rw [List.drop_eq_getElem_cons h, sumO]
theorem sum_any (A : Option Addr) (n c : Nat) (zs : List Int) (B : Nat) (w : World) (h : Sees w B 1 A n (ints zs)) (hz : ∀ z ∈ zs, I64 z) (hn : n ≤ 1000000) :
    Calls Try.prog 17 #[.slice A n c] w fun e w' => e = .returned (.tuple #[.int .i64 (sumV (sumO 0 zs)), .int .i64 (sumE (sumO 0 zs))]) ∧ w = w' := by
  have hl := h.int_len
  have H := Lib.hid h; clear h
  have HZ := Lib.hid hz; clear hz
  have HL := Lib.hid hl; clear hl
  go_enter Try.func17, Try.ntmps17
  go_wp2
  go_loop [4, 11] (fun s i => ∃ (k : Nat) (acc : Int), k ≤ n ∧ i = .int .i64 k ∧ s = .int .i64 acc ∧ I64 acc ∧ sumO acc (zs.drop k) = sumO 0 zs) (fun _ i => n - (intOf i).toNat)
  case atStart => exact ⟨0, 0, Nat.zero_le _, rfl, rfl, by unfold I64; omega, by simp⟩
  case round =>
    obtain ⟨k, acc, hk, rfl, rfl, ha, hs⟩ := hrel
    have HA := Lib.hid ha; clear ha
    have HS := Lib.hid hs; clear hs
    by_cases hlt : k < n
    · obtain ⟨ad, hkl, rfl, hc⟩ := H.out.int hlt
      have hI := HZ.out zs[k] (List.getElem_mem _)
      generalize hzk : zs[k] = z at *
      have HZK := Lib.hid hzk; clear hzk
      have HI := Lib.hid hI; clear hI
      by_cases hf : I64 (acc + z)
      · have e1 := nV_in hf
        have e2 := nE_in hf
        have HF := Lib.hid hf; clear hf
        go_wp2_with (go_at_call 8; refine (num_add_any _ _ _ HA.out HI.out).mono ?_; rintro e w' ⟨rfl, rfl⟩)
        go_round
        case rel =>
          refine ⟨k + 1, acc + z, by omega, by go_num, rfl, HF.out, ?_⟩
          rw [← HS.out, sumO_step hkl, HZK.out, if_pos HF.out]
        case measure => simp [intOf]; omega
      · have e1 := nV_out hf
        have e2 := nE_out hf
        have HF := Lib.hid hf; clear hf
        go_wp2_with (go_at_call 8; refine (num_add_any _ _ _ HA.out HI.out).mono ?_; rintro e w' ⟨rfl, rfl⟩)
        go_ret2
        refine ⟨?_, rfl⟩
        rw [← HS.out, sumO_step hkl, HZK.out, if_neg HF.out]; rfl
    · go_wp2
      go_ret2
      refine ⟨?_, rfl⟩
      rw [← HS.out, List.drop_of_length_le (by rw [HL.out]; omega), sumO]; rfl
end Go.Proofs.Ytejfohopibkgoaa
