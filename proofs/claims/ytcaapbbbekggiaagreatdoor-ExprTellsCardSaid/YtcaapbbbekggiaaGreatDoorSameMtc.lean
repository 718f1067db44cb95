/- klaxonbook.Same at matchers. -/
import Derived.Test.YtcaapbbbekggiaaGreatDoorBase4
import Derived.Lib.Hide
import Derived.Deep.QuietTactic
import Derived.BigQuiet
namespace Go.Proofs.YtcaapbbbekggiaaGreatDoor
open Go.ChangeShapes Go.WideShapes Go.ChangeAt Go.RowKit
set_option linter.unusedVariables false
set_option maxRecDepth 100000
@[go_sem] theorem eq_mtc (a b c d : ByteArray) (k l : Int) (w : World) : (Op.equalIn 10000 57 (.agg #[.string a, .string b, .int .i64 k]) (.agg #[.string c, .string d, .int .i64 l])).run Tryz.prog w = .ok (a.toList == c.toList && b.toList == d.toList && k == l) w := by
  have u3 := Tryz.underlying9
  have a3 := Tryz.isAgg9
  have z3 := Tryz.sizeOf9
  have u4 := Tryz.underlying3
  have a4 := Tryz.isAgg3
  have z4 := Tryz.sizeOf3
  have hS : Tryz.prog.underlying 57 = some (.struct (Tryz.prog.fieldsOf 57)) := by kernel_rfl
  have hp : Tryz.prog.stoodInHeld 57 = false := by kernel_rfl
  rw [show (10000 : Nat) = 9999 + 1 from rfl, run_equalIn_agg w 9999 57 _ _ hS hp]
  simp only [Program.fieldsOf, Tryz.underlying57]
  go_simp
  by_cases h1 : a.toList = c.toList <;> by_cases h2 : b.toList = d.toList <;> by_cases h3 : k = l <;> simp [h1, h2, h3]
theorem take_eq_snoc_m {zs ys : List Mtc} {k : Nat} (h1 : k < zs.length) (h2 : k < ys.length) (h : zs.take k = ys.take k) (he : zs[k] = ys[k]) : zs.take (k + 1) = ys.take (k + 1) := by
  rw [List.take_succ_eq_append_getElem h1, List.take_succ_eq_append_getElem h2, h, he]
theorem equal_mtc (A A2 : Option Addr) (n c n2 c2 B B2 : Nat) (zs ys : List Mtc) (w : World) (h : Sees w B 3 A n (mtcs zs)) (h2 : Sees w B2 3 A2 n2 (mtcs ys)) (hn : n ≤ 9223372036854775807) (hn2 : n2 ≤ 9223372036854775807) :
    Calls Tryz.prog 30 #[.slice A n c, .slice A2 n2 c2] w fun e w' => e = .returned (.bool (decide (zs = ys))) ∧ ∃ m, w' = w.drewN m := by
  have H := Lib.hid h; clear h
  have H2 := Lib.hid h2; clear h2
  have HL := Lib.hid H.out.mtc_len
  have HL2 := Lib.hid H2.out.mtc_len
  by_cases hnn : n = n2
  · subst hnn
    go_enter Tryz.func30, Tryz.ntmps30
    go_wp2
    go_loopw [13] (fun i wr => ∃ k m : Nat, k ≤ n ∧ i = .int .i64 k ∧ wr = w.drewN m ∧ zs.take k = ys.take k) (fun i _ => n - (intOf i).toNat)
    case atStart => exact ⟨0, 0, Nat.zero_le _, rfl, rfl, rfl⟩
    case round =>
      obtain ⟨k, m, hk, rfl, rfl, ht⟩ := hrel
      have HT := Lib.hid ht; clear ht
      by_cases hlt : k < n
      · obtain ⟨ad, hkl, rfl, hc, hd, hf⟩ := H.out.mtc hlt
        obtain ⟨ad2, hkl2, rfl, hc2, hd2, hf2⟩ := H2.out.mtc hlt
        have hq := Lib.hid (take_eq_snoc_m hkl hkl2 HT.out)
        have hne : Hid (zs[k] ≠ ys[k] → zs ≠ ys) := fun h e => h (by subst e; rfl)
        generalize zs[k] = x at *
        generalize ys[k] = y at *
        obtain ⟨x1, x2, x3⟩ := x
        obtain ⟨y1, y2, y3⟩ := y
        simp only at hc hd hf hc2 hd2 hf2
        by_cases hxy : x1 = y1 ∧ x2 = y2 ∧ x3 = y3
        · obtain ⟨rfl, rfl, rfl⟩ := hxy
          have he1 : (x1.toList == x1.toList) = true := by simp
          have he2 : (x2.toList == x2.toList) = true := by simp
          have he3 : (x3 == x3) = true := by simp
          go_wp2
          go_quiet (fail)
          go_wp2
          go_roundw
          case rel => exact ⟨k + 1, _, by omega, by go_num, rfl, hq.out (by simp)⟩
          case measure => simp [intOf]; omega
        · have hz := Lib.hid (hne.out (fun h => hxy (by injection h with h1 h2; injection h2 with h2 h3; exact ⟨h1, h2, h3⟩)))
          by_cases h1 : x1 = y1
          · subst h1
            have he1 : (x1.toList == x1.toList) = true := by simp
            by_cases h2 : x2 = y2
            · subst h2
              have he2 : (x2.toList == x2.toList) = true := by simp
              have he3 : (x3 == y3) = false := by rw [beq_eq_false_iff_ne]; exact fun h => hxy ⟨rfl, rfl, h⟩
              clear hxy
              go_wp2
              go_quiet (fail)
              go_wp2
              go_ret
              exact ⟨ret_bool (decide_eq_false hz.out).symm, _, World.drewN_drewN _ _ _⟩
            · have he2 : (x2.toList == y2.toList) = false := by rw [beq_eq_false_iff_ne]; exact fun h => h2 (ba_ext h)
              clear hxy h2
              go_wp2
              go_quiet (fail)
              go_wp2
              go_ret
              exact ⟨ret_bool (decide_eq_false hz.out).symm, _, World.drewN_drewN _ _ _⟩
          · have he1 : (x1.toList == y1.toList) = false := by rw [beq_eq_false_iff_ne]; exact fun h => h1 (ba_ext h)
            clear hxy h1
            go_wp2
            go_quiet (fail)
            go_wp2
            go_ret
            exact ⟨ret_bool (decide_eq_false hz.out).symm, _, World.drewN_drewN _ _ _⟩
      · obtain rfl : k = n := by omega
        have he : zs = ys := by
          have := HT.out; rwa [List.take_of_length_le (by rw [HL.out]; omega), List.take_of_length_le (by rw [HL2.out]; omega)] at this
        have HE := Lib.hid (decide_eq_true he); clear he
        go_wp2
        go_ret
        exact ⟨ret_bool HE.out.symm, m, rfl⟩
  · have hz : zs ≠ ys := fun e => hnn (by rw [← HL.out, ← HL2.out, e])
    have hb : ((n : Int) == n2) = false := beq_eq_false_iff_ne.2 (by omega)
    have HE := Lib.hid (decide_eq_false hz); clear hz
    go_enter Tryz.func30, Tryz.ntmps30
    go_wp2
    go_ret
    exact ⟨ret_bool HE.out.symm, 0, rfl⟩
end Go.Proofs.YtcaapbbbekggiaaGreatDoor
