/- Chapter 4's run. -/
import Derived.Test.YtlcpnlmfnllgmaaSeriesChg
namespace Go.Proofs.Ytlcpnlmfnllgmaa
open Go.ChangeShapes Go.WideShapes Go.ChangeAt Go.RowKit
set_option linter.unusedVariables false
set_option maxRecDepth 100000
theorem lit_ints {w : World} {t : TypeId} (l : List Int) : Sees (w.alloc (.cells (ints l).toArray t)) (w.alloc (.cells (ints l).toArray t)).heap.size 1 (some ⟨w.heap.size, 0, none⟩) l.length (ints l) := by
  have hk : Blk (w.alloc (.cells (ints l).toArray t)) w.heap.size t (ints l) := Blk.mk (heap_alloc_new w _)
  exact hk.sees (by rw [ints_length, Nat.mul_one]) (List.prefix_refl _)
theorem lit_smps {w : World} {t : TypeId} (l : List (Int × Int)) : Sees (w.alloc (.cells (smps l).toArray t)) (w.alloc (.cells (smps l).toArray t)).heap.size 2 (some ⟨w.heap.size, 0, none⟩) l.length (smps l) := by
  have hk : Blk (w.alloc (.cells (smps l).toArray t)) w.heap.size t (smps l) := Blk.mk (heap_alloc_new w _)
  exact hk.sees (smps_length _) (List.prefix_refl _)
theorem new_ser {w : World} : SerAt [] (w.alloc (.cells #[.slice none 0 0] 25)) w.heap.size (.slice none 0 0) :=
  ⟨Blk.mk (heap_alloc_new w _), by simpa [smps] using World.ownsRow_nil _ _ _ _⟩
set_option maxHeartbeats 1000000 in
theorem series_runs (w : World) : Calls Try.prog 15 #[] w fun e w' => e = .returned (.bool true) ∧ Below w.heap.size w w' := by
  have HA0 := Lib.hid (new_ser (w := w))
  have HB0 := Lib.hid ((Below.refl w.heap.size w).alloc (Nat.le_refl _) (.cells #[.slice none 0 0] 25))
  obtain ⟨g, hg⟩ : ∃ g, g = w.heap.size := ⟨_, rfl⟩
  have HG := Lib.hid hg
  obtain ⟨w0, hw0⟩ : ∃ w0, w0 = w.alloc (.cells #[.slice none 0 0] 25) := ⟨_, rfl⟩
  rw [← hw0] at HA0 HB0
  rw [← hg] at HA0
  have hs0 : w0.heap.size = g + 1 := by rw [hw0, hg]; simp
  have hb1 : Below w0.heap.size w0 (w0.alloc (.cells #[.int .i64 10, .int .i64 5, .int .i64 20, .int .i64 7] 30)) := (Below.refl _ _).alloc (Nat.le_refl _) _
  have HA1 := Lib.hid (HA0.out.below hb1)
  have HB1 := Lib.hid (HB0.out.trans (hb1.mono HB0.out.size))
  have HX1 : Hid (Sees (w0.alloc (.cells #[.int .i64 10, .int .i64 5, .int .i64 20, .int .i64 7] 30)) (w0.alloc (.cells #[.int .i64 10, .int .i64 5, .int .i64 20, .int .i64 7] 30)).heap.size 2 (some ⟨w0.heap.size, 0, none⟩) 2 (smps [(10, 5), (20, 7)])) := lit_smps (w := w0) (t := 30) [(10, 5), (20, 7)]
  have HS0 := Lib.hid hs0
  have HW0 := Lib.hid hw0
  go_enter Try.func15, Try.ntmps15
  clear hs0 hb1 hg hw0
  go_wp2_with fail
  rw [← HW0.out, ← HG.out]
  rw [show g + 1 = w0.heap.size from HS0.out.symm]
  refine (add_any [] [(10, 5), (20, 7)] g _ _ 2 2 _ HA1.out (by simp) HX1.out (by omega) (by omega) (by omega)).mono ?_; rintro e w2 ⟨v2, rfl, hat2, ho2⟩
  have h0 : addErr (lastT []) ([] : List (Int × Int)).length [(10, 5), (20, 7)] = 0 := by decide
  rw [h0] at hat2
  rw [h0]
  have hat3 : SerAt [(10, 5), (20, 7)] w2 g v2 := hat2
  have HA2 := Lib.hid hat3
  have HB2 := Lib.hid (HB1.out.trans (ho2.below (Nat.le_of_eq HG.out.symm) (HB1.out.size)))
  clear hat2 hat3 ho2 h0 HA0 HB0 HA1 HB1 HX1 HW0 HS0
  have hf1 : atF [(10, 5), (20, 7)] 19 10 = (5, true) := by decide
  have hf2 : atF [(10, 5), (20, 7)] 20 10 = (7, true) := by decide
  have hf3 : atF [(10, 5), (20, 7)] 30 10 = (0, false) := by decide
  have H1 := Lib.hid (at_any _ g v2 19 10 w2 HA2.out (by decide) (by omega) (by omega))
  have H2 := Lib.hid (at_any _ g v2 20 10 w2 HA2.out (by decide) (by omega) (by omega))
  have H3 := Lib.hid (at_any _ g v2 30 10 w2 HA2.out (by decide) (by omega) (by omega))
  rw [hf1] at H1; rw [hf2] at H2; rw [hf3] at H3
  clear hf1 hf2 hf3
  go_wp2_with fail
  refine H1.out.mono ?_; rintro e w' ⟨rfl, rfl⟩
  go_wp2_with fail
  refine H2.out.mono ?_; rintro e w' ⟨rfl, rfl⟩
  go_wp2_with fail
  refine H3.out.mono ?_; rintro e w' ⟨rfl, rfl⟩
  clear H1 H2 H3
  go_wp2_with fail
  refine (changes_any _ g v2 5 0 99 w2 HA2.out (by decide) (by omega) (by decide)).mono ?_; rintro e w3 ⟨A3, c3, rfl, hown3, hbel3, hc3, hc4⟩
  have hc : chg 5 0 99 [(10, 5), (20, 7)] = [10, 15, 20, 25] := by decide
  rw [hc] at hown3 hc3
  rw [hc]
  have HS3 := Lib.hid (Sees.of_own hown3)
  have hb4 : Below w3.heap.size w3 (w3.alloc (.cells #[.int .i64 10, .int .i64 15, .int .i64 20, .int .i64 25] 3)) := (Below.refl _ _).alloc (Nat.le_refl _) _
  have HL4 : Hid (Sees (w3.alloc (.cells #[.int .i64 10, .int .i64 15, .int .i64 20, .int .i64 25] 3)) (w3.alloc (.cells #[.int .i64 10, .int .i64 15, .int .i64 20, .int .i64 25] 3)).heap.size 1 (some ⟨w3.heap.size, 0, none⟩) 4 (ints [10, 15, 20, 25])) := lit_ints (w := w3) (t := 3) [10, 15, 20, 25]
  have HS4 := Lib.hid (HS3.out.below hb4)
  have HA4 := Lib.hid ((HA2.out.below hbel3).below hb4)
  have hs2 := HB2.out.size
  have hs3 := hbel3.size
  have HB4 := Lib.hid ((HB2.out.trans (hbel3.mono hs2)).trans (hb4.mono (by omega)))
  clear hown3 hbel3 hc hb4 HS3 HA2 HB2
  go_wp2_with fail
  refine (same_int A3 _ 4 c3 4 4 _ _ [10, 15, 20, 25] [10, 15, 20, 25] _ HS4.out HL4.out (by omega) (by omega)).mono ?_; rintro e w5 ⟨rfl, m, rfl⟩
  rw [decide_eq_true (rfl : ([10, 15, 20, 25] : List Int) = [10, 15, 20, 25])]
  have HA5 := Lib.hid (HA4.out.drewN m)
  have HB5 := Lib.hid (below_drewN3 HB4.out m)
  clear HS4 HL4 HA4 HB4 hc3
  generalize (w3.alloc (.cells #[.int .i64 10, .int .i64 15, .int .i64 20, .int .i64 25] 3)).drewN m = w6 at *
  go_wp2_with fail
  refine (changes_any _ g v2 10 0 99 w6 HA5.out (by decide) (by omega) (by decide)).mono ?_; rintro e w7 ⟨A7, c7, rfl, hown7, hbel7, hc7, hc8⟩
  have hc : chg 10 0 99 [(10, 5), (20, 7)] = [10, 20, 30] := by decide
  rw [hc] at hown7 hc7
  rw [hc]
  have HS7 := Lib.hid (Sees.of_own hown7)
  have hb8 : Below w7.heap.size w7 (w7.alloc (.cells #[.int .i64 10, .int .i64 20, .int .i64 30] 3)) := (Below.refl _ _).alloc (Nat.le_refl _) _
  have HL8 : Hid (Sees (w7.alloc (.cells #[.int .i64 10, .int .i64 20, .int .i64 30] 3)) (w7.alloc (.cells #[.int .i64 10, .int .i64 20, .int .i64 30] 3)).heap.size 1 (some ⟨w7.heap.size, 0, none⟩) 3 (ints [10, 20, 30])) := lit_ints (w := w7) (t := 3) [10, 20, 30]
  have HS8 := Lib.hid (HS7.out.below hb8)
  have HA8 := Lib.hid ((HA5.out.below hbel7).below hb8)
  have hs6 := HB5.out.size
  have hs7 := hbel7.size
  have HB8 := Lib.hid ((HB5.out.trans (hbel7.mono hs6)).trans (hb8.mono (by omega)))
  clear hown7 hbel7 hc hb8 HS7 HA5 HB5
  go_wp2_with fail
  refine (same_int A7 _ 3 c7 3 3 _ _ [10, 20, 30] [10, 20, 30] _ HS8.out HL8.out (by omega) (by omega)).mono ?_; rintro e w9 ⟨rfl, m2, rfl⟩
  rw [decide_eq_true (rfl : ([10, 20, 30] : List Int) = [10, 20, 30])]
  have HA9 := Lib.hid (HA8.out.drewN m2)
  have HB9 := Lib.hid (below_drewN3 HB8.out m2)
  clear HS8 HL8 HA8 HB8 hc7
  generalize (w7.alloc (.cells #[.int .i64 10, .int .i64 20, .int .i64 30] 3)).drewN m2 = w10 at *
  have hb11 : Below w10.heap.size w10 (w10.alloc (.cells #[.int .i64 20, .int .i64 0] 30)) := (Below.refl _ _).alloc (Nat.le_refl _) _
  have HX11 : Hid (Sees (w10.alloc (.cells #[.int .i64 20, .int .i64 0] 30)) (w10.alloc (.cells #[.int .i64 20, .int .i64 0] 30)).heap.size 2 (some ⟨w10.heap.size, 0, none⟩) 1 (smps [(20, 0)])) := lit_smps (w := w10) (t := 30) [(20, 0)]
  have HA11 := Lib.hid (HA9.out.below hb11)
  have HB11 := Lib.hid (HB9.out.trans (hb11.mono HB9.out.size))
  clear hb11 HA9 HB9
  go_wp2_with fail
  refine (add_any [(10, 5), (20, 7)] [(20, 0)] g _ _ 1 1 _ HA11.out (by decide) HX11.out (by omega) (by omega) (by omega)).mono ?_; rintro e w12 ⟨v12, rfl, hat12, ho12⟩
  have h0 : addErr (lastT [(10, 5), (20, 7)]) ([(10, 5), (20, 7)] : List (Int × Int)).length [(20, 0)] = 2 := by decide
  rw [h0]
  have HB12 := Lib.hid (HB11.out.trans (ho12.below (Nat.le_of_eq HG.out.symm) (HB11.out.size)))
  clear hat12 ho12 h0
  go_wp2_with fail
  go_ret
  exact ⟨rfl, HB12.out⟩
end Go.Proofs.Ytlcpnlmfnllgmaa
