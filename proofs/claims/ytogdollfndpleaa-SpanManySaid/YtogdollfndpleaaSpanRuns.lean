/- Package span: Count; klaxonbook.Same at spans; chapter 14's run. -/
import Derived.Test.YtogdollfndpleaaSpanLess
namespace Go.Proofs.Ytogdollfndpleaa
open Go.ChangeShapes Go.WideShapes Go.ChangeAt Go.RowKit
set_option linter.unusedVariables false
set_option maxRecDepth 100000
@[go_sem] theorem eq_spn (a b c d : Int) (w : World) : (Op.equalIn 10000 28 (.agg #[.int .i64 a, .int .i64 b]) (.agg #[.int .i64 c, .int .i64 d])).run Try.prog w = .ok (a == c && b == d) w := by
  have u3 := Try.underlying3
  have a3 := Try.isAgg3
  have z3 := Try.sizeOf3
  have hS : Try.prog.underlying 28 = some (.struct (Try.prog.fieldsOf 28)) := by kernel_rfl
  have hp : Try.prog.stoodInHeld 28 = false := by kernel_rfl
  rw [show (10000 : Nat) = 9999 + 1 from rfl, run_equalIn_agg w 9999 28 _ _ hS hp]
  simp only [Program.fieldsOf, Try.underlying28]
  go_simp
  by_cases h1 : a = c <;> by_cases h2 : b = d <;> simp [h1, h2]
theorem take_eq_snoc2 {zs ys : List (Int × Int)} {k : Nat} (h1 : k < zs.length) (h2 : k < ys.length) (h : zs.take k = ys.take k) (he : zs[k] = ys[k]) : zs.take (k + 1) = ys.take (k + 1) := by
  rw [List.take_succ_eq_append_getElem h1, List.take_succ_eq_append_getElem h2, h, he]
theorem same_spn (A A2 : Option Addr) (n c n2 c2 B B2 : Nat) (zs ys : List (Int × Int)) (w : World) (h : Sees w B 2 A n (smps zs)) (h2 : Sees w B2 2 A2 n2 (smps ys)) (hn : n ≤ 9223372036854775807) (hn2 : n2 ≤ 9223372036854775807) :
    Calls Try.prog 6 #[.slice A n c, .slice A2 n2 c2] w fun e w' => e = .returned (.bool (decide (zs = ys))) ∧ ∃ m, w' = w.drewN m := by
  have H := Lib.hid h; clear h
  have H2 := Lib.hid h2; clear h2
  have HL := Lib.hid H.out.smp_len
  have HL2 := Lib.hid H2.out.smp_len
  by_cases hnn : n = n2
  · subst hnn
    go_enter Try.func6, Try.ntmps6
    go_wp2
    go_loopw [5] (fun i wr => ∃ k m : Nat, k ≤ n ∧ i = .int .i64 k ∧ wr = w.drewN m ∧ zs.take k = ys.take k) (fun i _ => n - (intOf i).toNat)
    case atStart => exact ⟨0, 0, Nat.zero_le _, rfl, rfl, rfl⟩
    case round =>
      obtain ⟨k, m, hk, rfl, rfl, ht⟩ := hrel
      have HT := Lib.hid ht; clear ht
      by_cases hlt : k < n
      · obtain ⟨ad, hkl, rfl, hc, hd⟩ := H.out.smp hlt
        obtain ⟨ad2, hkl2, rfl, hc2, hd2⟩ := H2.out.smp hlt
        have hq := Lib.hid (take_eq_snoc2 hkl hkl2 HT.out)
        have hne : Hid (zs[k] ≠ ys[k] → zs ≠ ys) := fun h e => h (by subst e; rfl)
        generalize zs[k] = x at *
        generalize ys[k] = y at *
        obtain ⟨x1, x2⟩ := x
        obtain ⟨y1, y2⟩ := y
        simp only at hc hd hc2 hd2
        by_cases hxy : x1 = y1 ∧ x2 = y2
        · obtain ⟨rfl, rfl⟩ := hxy
          have he1 : (x1 == x1) = true := by simp
          have he2 : (x2 == x2) = true := by simp
          have he3 : (x1 != x1) = false := by simp
          have he4 : (x2 != x2) = false := by simp
          go_wp2
          go_quiet (fail)
          go_wp2
          go_roundw
          case rel => exact ⟨k + 1, _, by omega, by go_num, rfl, hq.out (by simp)⟩
          case measure => simp [intOf]; omega
        · have hz := Lib.hid (hne.out (fun h => hxy (by injection h with h1 h2; exact ⟨h1, h2⟩)))
          by_cases h1 : x1 = y1
          · subst h1
            have he1 : (x1 == x1) = true := by simp
            have he2 : (x2 == y2) = false := by simpa using fun h => hxy ⟨rfl, h⟩
            clear hxy
            go_wp2
            go_quiet (fail)
            go_wp2
            go_ret
            exact ⟨ret_bool (decide_eq_false hz.out).symm, _, World.drewN_drewN _ _ _⟩
          · have he1 : (x1 == y1) = false := by simpa using h1
            clear hxy h1
            go_wp2
            go_quiet (fail)
            go_wp2
            go_ret
            exact ⟨ret_bool (decide_eq_false hz.out).symm, _, World.drewN_drewN _ _ _⟩
      · obtain rfl : k = n := by omega
        have he : zs = ys := by
          have := HT.out; rwa [List.take_of_length_le (by rw [HL.out]; omega), List.take_of_length_le (by rw [HL2.out]; omega)] at this
        have HE := Lib.hid (decide_eq_true he); clear he
        go_wp2
        go_ret
        exact ⟨ret_bool HE.out.symm, m, rfl⟩
  · have hz : zs ≠ ys := fun e => hnn (by rw [← HL.out, ← HL2.out, e])
    have hb : ((n : Int) == n2) = false := beq_eq_false_iff_ne.2 (by omega)
    have HE := Lib.hid (decide_eq_false hz); clear hz
    go_enter Try.func6, Try.ntmps6
    go_wp2
    go_ret
    exact ⟨ret_bool HE.out.symm, 0, rfl⟩


def countF : List (Int × Int) → Int
  | [] => 0
  | x :: r => (x.2 - x.1 + 1) + countF r
theorem countF_snoc (l : List (Int × Int)) (x : Int × Int) : countF (l ++ [x]) = countF l + (x.2 - x.1 + 1) := by
  induction l with
  | nil => simp [countF]
  | cons y l ih => simp only [List.cons_append, countF, ih]; omega
theorem countF_in {l : List (Int × Int)} (h : In200 l) : -200 * (l.length : Int) ≤ countF l ∧ countF l ≤ 200 * l.length := by
  induction l with
  | nil => simp [countF]
  | cons y l ih =>
    have h1 := h y (by simp)
    have h2 := ih fun z hz => h z (by simp [hz])
    simp only [countF, List.length_cons]
    omega
set_option maxHeartbeats 1000000 in
theorem count_any (A : Option Addr) (n c : Nat) (za : List (Int × Int)) (B : Nat) (w : World) (ha : Sees w B 2 A n (smps za)) (hB : B ≤ w.heap.size) (hn : n ≤ 40000) :
    Calls Try.prog 8 #[.slice A n c] w fun e w' => e = .returned (.int .i64 (countF (clip za))) ∧ Below w.heap.size w w' := by
  have HC1 := Lib.hid (clipped_any A n c za B w ha hB (by omega))
  have hla : (clip za).length ≤ n := Nat.le_trans (clip_len' _) (by rw [ha.smp_len]; exact Nat.le_refl _)
  have HIA := Lib.hid (clip_in za)
  clear ha
  obtain ⟨tot, htot⟩ : ∃ tot, countF (clip za) = tot := ⟨_, rfl⟩
  rw [htot]
  have HTOT := Lib.hid htot; clear htot
  go_enter Try.func8, Try.ntmps8
  go_wp2_with fail
  refine HC1.out.mono ?_; rintro e w1 ⟨A3, c3, rfl, hown1, hbel1, hc1, hc2⟩
  have HB1 := Lib.hid hbel1; have HS := Lib.hid (Sees.of_own hown1)
  clear hown1 hbel1 HC1
  generalize clip za = ls at *
  generalize hn3 : ls.length = n3 at *
  have HN3 := Lib.hid hn3; clear hn3
  go_wp2_with fail
  go_loopw [3, 9] (fun s i wr => ∃ k : Nat, k ≤ n3 ∧ i = .int .i64 k ∧ s = .int .i64 (countF (ls.take k)) ∧ Below w1.heap.size w1 wr) (fun _ i _ => n3 - (intOf i).toNat)
  case atStart => exact ⟨0, Nat.zero_le _, rfl, rfl, Below.refl _ _⟩
  case round =>
    obtain ⟨k, hk, rfl, rfl, hbel⟩ := hrel
    have HB := Lib.hid hbel
    have hsz := hbel.size
    clear hbel
    by_cases hlt : k < n3
    · obtain ⟨ad, hkl, rfl, c0, c1⟩ := (HS.out.below HB.out).smp hlt
      have hst : countF (ls.take (k + 1)) = countF (ls.take k) + (ls[k].2 - ls[k].1 + 1) := by rw [List.take_succ_eq_append_getElem hkl, countF_snoc]
      have hb := HIA.out ls[k] (List.getElem_mem _)
      have hcb := countF_in (l := ls.take k) fun z hz => HIA.out z (List.mem_of_mem_take hz)
      have hl2 : (ls.take k).length = k := by rw [List.length_take]; omega
      rw [hl2] at hcb
      have hal := World.block_lt_of_cell? wr _ c0
      generalize ls[k] = p at *
      obtain ⟨f, t⟩ := p
      simp only at c0 c1 hb hst
      have HST := Lib.hid hst; clear hst hl2
      generalize countF (ls.take k) = s at *
      have HB2 := Lib.hid (HB.out.alloc hsz (.cells #[.int .i64 f, .int .i64 t] 28))
      go_wp2_with fail
      go_roundw
      case rel => exact ⟨k + 1, by omega, by go_num, by rw [HST.out], HB2.out⟩
      case measure => simp [intOf]; omega
    · obtain rfl : k = n3 := by omega
      have he : ls.take k = ls := List.take_of_length_le (by rw [HN3.out]; exact Nat.le_refl _)
      have HE := Lib.hid (show countF (ls.take k) = tot by rw [he]; exact HTOT.out)
      clear he
      go_wp2_with fail
      go_ret
      exact ⟨ret_int HE.out, HB1.out.trans (HB.out.mono HB1.out.size)⟩
theorem lit_ints {w : World} {t : TypeId} (l : List Int) : Sees (w.alloc (.cells (ints l).toArray t)) (w.alloc (.cells (ints l).toArray t)).heap.size 1 (some ⟨w.heap.size, 0, none⟩) l.length (ints l) := by
  have hk : Blk (w.alloc (.cells (ints l).toArray t)) w.heap.size t (ints l) := Blk.mk (heap_alloc_new w _)
  exact hk.sees (by rw [ints_length, Nat.mul_one]) (List.prefix_refl _)
theorem below_drewN3 {B : Nat} {a w : World} (h : Below B a w) (n : Nat) : Below B a (w.drewN n) := ⟨h.os, h.tape, h.output, h.size, h.block⟩
set_option maxHeartbeats 1000000 in
theorem span_runs (w : World) : Calls Try.prog 13 #[] w fun e w' => e = .returned (.bool true) ∧ Below w.heap.size w w' := by
  have HX1 : Hid (Sees (w.alloc (.cells #[.int .i64 3, .int .i64 1, .int .i64 2, .int .i64 7] 3)) (w.alloc (.cells #[.int .i64 3, .int .i64 1, .int .i64 2, .int .i64 7] 3)).heap.size 1 (some ⟨w.heap.size, 0, none⟩) 4 (ints [3, 1, 2, 7])) := lit_ints (w := w) (t := 3) [3, 1, 2, 7]
  have HB1 := Lib.hid ((Below.refl w.heap.size w).alloc (Nat.le_refl _) (.cells #[.int .i64 3, .int .i64 1, .int .i64 2, .int .i64 7] 3))
  go_enter Try.func13, Try.ntmps13
  go_wp2_with fail
  refine (of_any _ 4 4 [3, 1, 2, 7] _ _ HX1.out (Nat.le_refl _) (by omega)).mono ?_; rintro e w2 ⟨A2, c2, rfl, hown2, hbel2, hc2, hc3⟩
  have e1 : ofF [3, 1, 2, 7] = [(1, 3), (7, 7)] := by decide
  rw [e1] at hown2 hc2
  rw [e1]
  have HB2 := Lib.hid (HB1.out.trans (hbel2.mono HB1.out.size))
  have hs2 := HB2.out.size
  have HS2 := Lib.hid (Sees.of_own hown2)
  have HL3 : Hid (Sees (w2.alloc (.cells #[.int .i64 1, .int .i64 3, .int .i64 7, .int .i64 7] 28)) (w2.alloc (.cells #[.int .i64 1, .int .i64 3, .int .i64 7, .int .i64 7] 28)).heap.size 2 (some ⟨w2.heap.size, 0, none⟩) 2 (smps [(1, 3), (7, 7)])) := lit_smps (w := w2) (t := 28) [(1, 3), (7, 7)]
  have HS3 := Lib.hid (HS2.out.alloc (Nat.le_refl _) (.cells #[.int .i64 1, .int .i64 3, .int .i64 7, .int .i64 7] 28))
  have HB3 := Lib.hid (HB2.out.alloc hs2 (.cells #[.int .i64 1, .int .i64 3, .int .i64 7, .int .i64 7] 28))
  clear hown2 hbel2 e1 HX1 HB1 HB2 HS2
  go_wp2_with fail
  refine (same_spn A2 _ 2 c2 2 2 _ _ [(1, 3), (7, 7)] [(1, 3), (7, 7)] _ HS3.out HL3.out (by omega) (by omega)).mono ?_; rintro e w4 ⟨rfl, m, rfl⟩
  rw [decide_eq_true (rfl : ([(1, 3), (7, 7)] : List (Int × Int)) = [(1, 3), (7, 7)])]
  have HS4 := Lib.hid (HS3.out.drewN m)
  have HB4 := Lib.hid (below_drewN3 HB3.out m)
  have hs4 := HB4.out.size
  have hs5 : w2.heap.size ≤ ((w2.alloc (.cells #[.int .i64 1, .int .i64 3, .int .i64 7, .int .i64 7] 28)).drewN m).heap.size := by show w2.heap.size ≤ (w2.alloc _).heap.size; simp
  clear HS3 HL3 HB3
  generalize (w2.alloc (.cells #[.int .i64 1, .int .i64 3, .int .i64 7, .int .i64 7] 28)).drewN m = w5 at *
  have HX5 : Hid (Sees (w5.alloc (.cells #[.int .i64 2] 3)) (w5.alloc (.cells #[.int .i64 2] 3)).heap.size 1 (some ⟨w5.heap.size, 0, none⟩) 1 (ints [2])) := lit_ints (w := w5) (t := 3) [2]
  have HS5 := Lib.hid (HS4.out.alloc hs5 (.cells #[.int .i64 2] 3))
  have HB5 := Lib.hid (HB4.out.alloc hs4 (.cells #[.int .i64 2] 3))
  clear HS4 HB4
  go_wp2_with fail
  refine (of_any _ 1 1 [2] _ _ HX5.out (Nat.le_refl _) (by omega)).mono ?_; rintro e w6 ⟨A6, c6, rfl, hown6, hbel6, hc6, hc7⟩
  have e1 : ofF [2] = [(2, 2)] := by decide
  rw [e1] at hown6 hc6
  rw [e1]
  have hs6' : (w5.alloc (.cells #[.int .i64 2] 3)).heap.size = w5.heap.size + 1 := by simp
  have HB6 := Lib.hid (HB5.out.trans (hbel6.mono HB5.out.size))
  have HS6 := Lib.hid ((HS5.out.below (hbel6.mono (by rw [hs6']; omega))).more (show w2.heap.size ≤ w6.heap.size by have := hbel6.size; omega))
  have HT6 := Lib.hid (Sees.of_own hown6)
  clear hown6 hbel6 e1 HX5 HS5 HB5 hs6'
  go_wp2_with fail
  refine (less_any A2 A6 2 c2 1 c6 [(1, 3), (7, 7)] [(2, 2)] _ w6 HS6.out HT6.out (Nat.le_refl _) (by omega) (by omega)).mono ?_; rintro e w7 ⟨A7, c7, rfl, hown7, hbel7, hc8, hc9⟩
  have e1 : lessT [(1, 3), (7, 7)] [(2, 2)] = [(1, 1), (3, 3), (7, 7)] := by decide
  rw [e1] at hown7 hc8
  rw [e1]
  have HB7 := Lib.hid (HB6.out.trans (hbel7.mono HB6.out.size))
  have hs7 := HB7.out.size
  have HS7 := Lib.hid ((HS6.out.below hbel7).alloc hbel7.size (.cells #[.int .i64 1, .int .i64 1, .int .i64 3, .int .i64 3, .int .i64 7, .int .i64 7] 28))
  have HR7 := Lib.hid ((Sees.of_own hown7).alloc (Nat.le_refl _) (.cells #[.int .i64 1, .int .i64 1, .int .i64 3, .int .i64 3, .int .i64 7, .int .i64 7] 28))
  have HL7 : Hid (Sees (w7.alloc (.cells #[.int .i64 1, .int .i64 1, .int .i64 3, .int .i64 3, .int .i64 7, .int .i64 7] 28)) (w7.alloc (.cells #[.int .i64 1, .int .i64 1, .int .i64 3, .int .i64 3, .int .i64 7, .int .i64 7] 28)).heap.size 2 (some ⟨w7.heap.size, 0, none⟩) 3 (smps [(1, 1), (3, 3), (7, 7)])) := lit_smps (w := w7) (t := 28) [(1, 1), (3, 3), (7, 7)]
  have HB8 := Lib.hid (HB7.out.alloc hs7 (.cells #[.int .i64 1, .int .i64 1, .int .i64 3, .int .i64 3, .int .i64 7, .int .i64 7] 28))
  have hs8 : w6.heap.size ≤ (w7.alloc (.cells #[.int .i64 1, .int .i64 1, .int .i64 3, .int .i64 3, .int .i64 7, .int .i64 7] 28)).heap.size := by have := hbel7.size; simp; omega
  clear hown7 hbel7 e1 HB6 HS6 HT6 HB7
  go_wp2_with fail
  refine (same_spn A7 _ 3 c7 3 3 _ _ [(1, 1), (3, 3), (7, 7)] [(1, 1), (3, 3), (7, 7)] _ HR7.out HL7.out (by omega) (by omega)).mono ?_; rintro e w9 ⟨rfl, q, rfl⟩
  rw [decide_eq_true (rfl : ([(1, 1), (3, 3), (7, 7)] : List (Int × Int)) = [(1, 1), (3, 3), (7, 7)])]
  have HS9 := Lib.hid (HS7.out.drewN q)
  have HB9 := Lib.hid (below_drewN3 HB8.out q)
  have hs9 : w6.heap.size ≤ ((w7.alloc (.cells #[.int .i64 1, .int .i64 1, .int .i64 3, .int .i64 3, .int .i64 7, .int .i64 7] 28)).drewN q).heap.size := hs8
  clear HS7 HR7 HL7 HB8 hs8
  generalize (w7.alloc (.cells #[.int .i64 1, .int .i64 1, .int .i64 3, .int .i64 3, .int .i64 7, .int .i64 7] 28)).drewN q = w9 at *
  go_wp2_with fail
  refine (count_any A2 2 c2 [(1, 3), (7, 7)] _ w9 HS9.out hs9 (by omega)).mono ?_; rintro e w10 ⟨rfl, hbel10⟩
  have e1 : countF (clip [(1, 3), (7, 7)]) = 4 := by decide
  rw [e1]
  have HB10 := Lib.hid (HB9.out.trans (hbel10.mono HB9.out.size))
  clear e1 hbel10 HB9 HS9
  go_wp2_with fail
  go_ret
  exact ⟨rfl, HB10.out⟩
end Go.Proofs.Ytogdollfndpleaa
