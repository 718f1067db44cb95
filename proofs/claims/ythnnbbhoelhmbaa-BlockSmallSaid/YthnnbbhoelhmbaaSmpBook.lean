/- klaxonbook.Same at samples. -/
import Derived.Test.YthnnbbhoelhmbaaRows
import Derived.Test.YthnnbbhoelhmbaaSample
import Derived.Lib.Hide
import Derived.Deep.QuietTactic
import Derived.BigQuiet
namespace Go.Proofs.Ythnnbbhoelhmbaa
open Go.ChangeShapes Go.WideShapes Go.ChangeAt Go.RowKit
set_option linter.unusedVariables false
set_option maxRecDepth 100000
theorem Try.infoSmp : (Try.prog.info? 25).map (fun i => (i.zero, i.size, i.bytes)) = some (some (.agg #[.int .i64 0, .int .i64 0]), 2, 16) := by kernel_rfl
theorem below_drewN3 {B : Nat} {a w : World} (h : Below B a w) (n : Nat) : Below B a (w.drewN n) := ⟨h.os, h.tape, h.output, h.size, h.block⟩
@[go_sem] theorem eq_smp (a b c d : Int) (w : World) : (Op.equalIn 10000 25 (.agg #[.int .i64 a, .int .i64 b]) (.agg #[.int .i64 c, .int .i64 d])).run Try.prog w = .ok (a == c && b == d) w := by
  have u3 := Try.underlying3
  have a3 := Try.isAgg3
  have z3 := Try.sizeOf3
  have hS : Try.prog.underlying 25 = some (.struct (Try.prog.fieldsOf 25)) := by kernel_rfl
  have hp : Try.prog.stoodInHeld 25 = false := by kernel_rfl
  rw [show (10000 : Nat) = 9999 + 1 from rfl, run_equalIn_agg w 9999 25 _ _ hS hp]
  simp only [Program.fieldsOf, Try.underlying25]
  go_simp
  by_cases h1 : a = c <;> by_cases h2 : b = d <;> simp [h1, h2]
theorem take_eq_snoc2 {zs ys : List (Int × Int)} {k : Nat} (h1 : k < zs.length) (h2 : k < ys.length) (h : zs.take k = ys.take k) (he : zs[k] = ys[k]) : zs.take (k + 1) = ys.take (k + 1) := by
  rw [List.take_succ_eq_append_getElem h1, List.take_succ_eq_append_getElem h2, h, he]
theorem same_smp (A A2 : Option Addr) (n c n2 c2 B B2 : Nat) (zs ys : List (Int × Int)) (w : World) (h : Sees w B 2 A n (smps zs)) (h2 : Sees w B2 2 A2 n2 (smps ys)) (hn : n ≤ 9223372036854775807) (hn2 : n2 ≤ 9223372036854775807) :
    Calls Try.prog 16 #[.slice A n c, .slice A2 n2 c2] w fun e w' => e = .returned (.bool (decide (zs = ys))) ∧ ∃ m, w' = w.drewN m := by
  have H := Lib.hid h; clear h
  have H2 := Lib.hid h2; clear h2
  have HL := Lib.hid H.out.smp_len
  have HL2 := Lib.hid H2.out.smp_len
  by_cases hnn : n = n2
  · subst hnn
    go_enter Try.func16, Try.ntmps16
    go_wp2
    go_loopw [5] (fun i wr => ∃ k m : Nat, k ≤ n ∧ i = .int .i64 k ∧ wr = w.drewN m ∧ zs.take k = ys.take k) (fun i _ => n - (intOf i).toNat)
    case atStart => exact ⟨0, 0, Nat.zero_le _, rfl, rfl, rfl⟩
    case round =>
      obtain ⟨k, m, hk, rfl, rfl, ht⟩ := hrel
      have HT := Lib.hid ht; clear ht
      by_cases hlt : k < n
      · obtain ⟨ad, hkl, rfl, hc, hd⟩ := H.out.smp hlt
        obtain ⟨ad2, hkl2, rfl, hc2, hd2⟩ := H2.out.smp hlt
        have hq := Lib.hid (take_eq_snoc2 hkl hkl2 HT.out)
        have hne : Hid (zs[k] ≠ ys[k] → zs ≠ ys) := fun h e => h (by subst e; rfl)
        generalize zs[k] = x at *
        generalize ys[k] = y at *
        obtain ⟨x1, x2⟩ := x
        obtain ⟨y1, y2⟩ := y
        simp only at hc hd hc2 hd2
        by_cases hxy : x1 = y1 ∧ x2 = y2
        · obtain ⟨rfl, rfl⟩ := hxy
          have he1 : (x1 == x1) = true := by simp
          have he2 : (x2 == x2) = true := by simp
          have he3 : (x1 != x1) = false := by simp
          have he4 : (x2 != x2) = false := by simp
          go_wp2
          go_quiet (fail)
          go_wp2
          go_roundw
          case rel => exact ⟨k + 1, _, by omega, by go_num, rfl, hq.out (by simp)⟩
          case measure => simp [intOf]; omega
        · have hz := Lib.hid (hne.out (fun h => hxy (by injection h with h1 h2; exact ⟨h1, h2⟩)))
          by_cases h1 : x1 = y1
          · subst h1
            have he1 : (x1 == x1) = true := by simp
            have he2 : (x2 == y2) = false := by simpa using fun h => hxy ⟨rfl, h⟩
            clear hxy
            go_wp2
            go_quiet (fail)
            go_wp2
            go_ret
            exact ⟨ret_bool (decide_eq_false hz.out).symm, _, World.drewN_drewN _ _ _⟩
          · have he1 : (x1 == y1) = false := by simpa using h1
            clear hxy h1
            go_wp2
            go_quiet (fail)
            go_wp2
            go_ret
            exact ⟨ret_bool (decide_eq_false hz.out).symm, _, World.drewN_drewN _ _ _⟩
      · obtain rfl : k = n := by omega
        have he : zs = ys := by
          have := HT.out; rwa [List.take_of_length_le (by rw [HL.out]; omega), List.take_of_length_le (by rw [HL2.out]; omega)] at this
        have HE := Lib.hid (decide_eq_true he); clear he
        go_wp2
        go_ret
        exact ⟨ret_bool HE.out.symm, m, rfl⟩
  · have hz : zs ≠ ys := fun e => hnn (by rw [← HL.out, ← HL2.out, e])
    have hb : ((n : Int) == n2) = false := beq_eq_false_iff_ne.2 (by omega)
    have HE := Lib.hid (decide_eq_false hz); clear hz
    go_enter Try.func16, Try.ntmps16
    go_wp2
    go_ret
    exact ⟨ret_bool HE.out.symm, 0, rfl⟩

end Go.Proofs.Ythnnbbhoelhmbaa
