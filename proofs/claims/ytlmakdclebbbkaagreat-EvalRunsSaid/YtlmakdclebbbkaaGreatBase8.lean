/- Texts, merged in one. -/
import Derived.Test.YtlmakdclebbbkaaGreatRows
import Derived.Test.YtlmakdclebbbkaaGreatBase
import Derived.WalkKit
import Derived.ProofKit
import Derived.Lib.Hide
import Derived.Deep.QuietTactic
import Derived.BigQuiet
import Derived.Laws.CopyOwn
namespace Go.Proofs.YtlmakdclebbbkaaGreat
open Go.ChangeShapes Go.WideShapes Go.ChangeAt Go.RowKit
set_option linter.unusedVariables false
theorem take_eq_snoc {zs ys : List Int} {k : Nat} (h1 : k < zs.length) (h2 : k < ys.length) (h : zs.take k = ys.take k) (he : zs[k] = ys[k]) : zs.take (k + 1) = ys.take (k + 1) := by
  rw [List.take_succ_eq_append_getElem h1, List.take_succ_eq_append_getElem h2, h, he]
theorem same_int (A A2 : Option Addr) (n c n2 c2 B B2 : Nat) (zs ys : List Int) (w : World) (h : Sees w B 1 A n (ints zs)) (h2 : Sees w B2 1 A2 n2 (ints ys)) (hn : n ≤ 9223372036854775807) (hn2 : n2 ≤ 9223372036854775807) :
    Calls Tryz.prog 12 #[.slice A n c, .slice A2 n2 c2] w fun e w' => e = .returned (.bool (decide (zs = ys))) ∧ ∃ m, w' = w.drewN m := by
  have H := Lib.hid h; clear h
  have H2 := Lib.hid h2; clear h2
  have HL := Lib.hid H.out.int_len
  have HL2 := Lib.hid H2.out.int_len
  by_cases hnn : n = n2
  · subst hnn
    go_enter Tryz.func12, Tryz.ntmps12
    go_wp2
    go_loopw [5] (fun i wr => ∃ k m : Nat, k ≤ n ∧ i = .int .i64 k ∧ wr = w.drewN m ∧ zs.take k = ys.take k) (fun i _ => n - (intOf i).toNat)
    case atStart => exact ⟨0, 0, Nat.zero_le _, rfl, rfl, rfl⟩
    case round =>
      obtain ⟨k, m, hk, rfl, rfl, ht⟩ := hrel
      have HT := Lib.hid ht; clear ht
      by_cases hlt : k < n
      · obtain ⟨ad, hkl, rfl, hc⟩ := H.out.int hlt
        obtain ⟨ad2, hkl2, rfl, hc2⟩ := H2.out.int hlt
        have hq := Lib.hid (take_eq_snoc hkl hkl2 HT.out)
        have hne : Hid (zs[k] ≠ ys[k] → zs ≠ ys) := fun h e => h (by subst e; rfl)
        generalize zs[k] = x at *
        generalize ys[k] = y at *
        by_cases hxy : x = y
        · subst hxy
          have hd : (x == x) = true := by simp
          go_wp2
          go_quiet (fail)
          go_wp2
          go_roundw
          case rel => exact ⟨k + 1, _, by omega, by go_num, rfl, hq.out (by simp)⟩
          case measure => simp [intOf]; omega
        · have hd : (x == y) = false := by simpa using hxy
          have hz := Lib.hid (hne.out hxy); clear hxy
          go_wp2
          go_quiet (fail)
          go_wp2
          go_ret
          exact ⟨ret_bool (decide_eq_false hz.out).symm, _, World.drewN_drewN _ _ _⟩
      · obtain rfl : k = n := by omega
        have he : zs = ys := by
          have := HT.out; rwa [List.take_of_length_le (by rw [HL.out]; omega), List.take_of_length_le (by rw [HL2.out]; omega)] at this
        have HE := Lib.hid (decide_eq_true he); clear he
        go_wp2
        go_ret
        exact ⟨ret_bool HE.out.symm, m, rfl⟩
  · have hz : zs ≠ ys := fun e => hnn (by rw [← HL.out, ← HL2.out, e])
    have hb : ((n : Int) == n2) = false := beq_eq_false_iff_ne.2 (by omega)
    have HE := Lib.hid (decide_eq_false hz); clear hz
    go_enter Tryz.func12, Tryz.ntmps12
    go_wp2
    go_ret
    exact ⟨ret_bool HE.out.symm, 0, rfl⟩

end Go.Proofs.YtlmakdclebbbkaaGreat
