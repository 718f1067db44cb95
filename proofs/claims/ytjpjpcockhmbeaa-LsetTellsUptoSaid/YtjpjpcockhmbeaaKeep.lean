/- slices.Contains at texts; lset.Keep, lset.Drop. -/
import Derived.Test.YtjpjpcockhmbeaaSameLbl
import Derived.Test.YtjpjpcockhmbeaaArgs
import Derived.Test.YtjpjpcockhmbeaaParse3
namespace Go.Proofs.Ytjpjpcockhmbeaa
open Go.ChangeShapes Go.WideShapes Go.ChangeAt Go.RowKit
set_option linter.unusedVariables false
set_option maxRecDepth 100000
/-- Is x one of zs. -/
def hasS (zs : List ByteArray) (x : ByteArray) : Bool := zs.any fun z => decide (z = x)
theorem hasS_iff {zs : List ByteArray} {x : ByteArray} : hasS zs x = true ↔ x ∈ zs := by
  simp [hasS]
theorem hasS_yes {zs : List ByteArray} {x : ByteArray} (h : x ∈ zs) : hasS zs x = true := hasS_iff.2 h
theorem hasS_no {zs : List ByteArray} {x : ByteArray} (h : x ∉ zs) : hasS zs x = false := by
  cases hq : hasS zs x with
  | false => rfl
  | true => exact absurd (hasS_iff.1 hq) h
theorem index_str (A : Option Addr) (n c B : Nat) (zs : List ByteArray) (x : ByteArray) (w : World) (h : Sees w B 1 A n (strs zs)) (hn : n ≤ 9223372036854775807) :
    Calls Try.prog 30 #[.slice A n c, .string x] w fun e w' => (∃ k : Int, e = .returned (.int .i64 k) ∧ (hasS zs x = decide (0 ≤ k))) ∧ w = w' := by
  have H := Lib.hid h
  have HL := Lib.hid h.str_len
  clear h
  go_enter Try.func30, Try.ntmps30
  go_wp2_with fail
  go_loop [8] (fun i => ∃ k : Nat, k ≤ n ∧ i = .int .i64 k ∧ x ∉ zs.take k) (fun i => n - (intOf i).toNat)
  case atStart => exact ⟨0, Nat.zero_le _, rfl, by simp⟩
  case round =>
    obtain ⟨k, hk, rfl, ht⟩ := hrel
    have HT := Lib.hid ht; clear ht
    by_cases hlt : k < n
    · obtain ⟨ad, hkl, rfl, hc⟩ := H.out.str hlt
      by_cases he : x = zs[k]
      · have HE := Lib.hid (show hasS zs x = decide (0 ≤ (k : Int)) by rw [hasS_yes (by rw [he]; exact List.getElem_mem _), decide_eq_true (by omega)])
        have t1 : (x.toList == (zs[k]).toList) = true := by rw [← he]; simp
        clear he
        go_wp2_with fail
        go_ret
        exact ⟨⟨k, rfl, HE.out⟩, rfl⟩
      · have t1 : (x.toList == (zs[k]).toList) = false := by rw [beq_eq_false_iff_ne]; exact fun h => he (ba_ext h)
        have HN := Lib.hid (show x ∉ zs.take (k + 1) by rw [List.take_succ_eq_append_getElem hkl]; simp only [List.mem_append, List.mem_singleton, not_or]; exact ⟨HT.out, he⟩)
        clear he
        go_wp2_with fail
        go_round
        case rel => exact ⟨k + 1, by omega, by go_num, HN.out⟩
        case measure => simp [intOf]; omega
    · obtain rfl : k = n := by omega
      have HE := Lib.hid (show hasS zs x = decide (0 ≤ (-1 : Int)) by
        have h := HT.out
        rw [List.take_of_length_le (by rw [HL.out]; exact Nat.le_refl _)] at h
        rw [hasS_no h]; rfl)
      go_wp2_with fail
      go_ret
      exact ⟨⟨-1, rfl, HE.out⟩, rfl⟩
theorem contains_str (A : Option Addr) (n c B : Nat) (zs : List ByteArray) (x : ByteArray) (w : World) (h : Sees w B 1 A n (strs zs)) (hn : n ≤ 9223372036854775807) :
    Calls Try.prog 23 #[.slice A n c, .string x] w fun e w' => e = .returned (.bool (hasS zs x)) ∧ w = w' := by
  have HI := Lib.hid (index_str A n c B zs x w h hn)
  clear h
  generalize hasS zs x = q at *
  go_enter Try.func23, Try.ntmps23
  go_wp2_with fail
  refine HI.out.mono ?_; rintro e w' ⟨⟨k, rfl, hq⟩, rfl⟩
  have HQ := Lib.hid hq
  clear hq
  go_wp2_with fail
  go_ret
  exact ⟨by rw [HQ.out]; rfl, rfl⟩
end Go.Proofs.Ytjpjpcockhmbeaa
