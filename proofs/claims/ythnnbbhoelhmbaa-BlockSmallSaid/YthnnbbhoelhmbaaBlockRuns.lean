/- klaxonlaw5.BlockRuns. -/
import Derived.Test.YthnnbbhoelhmbaaBlockGet
import Derived.Test.YthnnbbhoelhmbaaBlockRef3
namespace Go.Proofs.Ythnnbbhoelhmbaa
open Go.ChangeShapes Go.WideShapes Go.ChangeAt Go.RowKit
set_option linter.unusedVariables false
set_option maxRecDepth 100000
theorem runs_put : putF [(10, 5), (20, 7), (30, 7)] = [6, 20, 10, 0, 4, 0, 0] := by decide +kernel
theorem runs_get : getF [6, 20, 10, 0, 4, 0, 0] = some [(10, 5), (20, 7), (30, 7)] := by decide +kernel
theorem runs_num : nums [-1, 64] = [1, 128, 1] := by decide +kernel
/-- A slice that was just laid. -/
theorem new_sees (w : World) (t : TypeId) (cs : List Value) (size n : Nat) (hl : cs.length = n * size) : Sees (w.alloc (.cells cs.toArray t)) (w.heap.size + 1) size (some ⟨w.heap.size, 0, none⟩) n cs := by
  have := (Blk.mk (heap_alloc_new w _) : Blk (w.alloc (.cells cs.toArray t)) w.heap.size t cs).sees (size := size) (n := n) hl (List.prefix_refl _)
  simpa using this
set_option maxHeartbeats 2000000 in
theorem block_runs (w : World) : Calls Try.prog 3 #[] w fun e w' => e = .returned (.bool true) ∧ Below w.heap.size w w' := by
  have HS := Lib.hid (new_sees w 25 [.int .i64 10, .int .i64 5, .int .i64 20, .int .i64 7, .int .i64 30, .int .i64 7] 2 3 rfl)
  have HP := Lib.hid (put_any (some ⟨w.heap.size, 0, none⟩) 3 3 _ [(10, 5), (20, 7), (30, 7)] _ HS.out (by simp) (by omega))
  rw [runs_put] at HP
  have HB0 := Lib.hid ((Below.refl w.heap.size w).alloc (Nat.le_refl _) (.cells #[.int .i64 10, .int .i64 5, .int .i64 20, .int .i64 7, .int .i64 30, .int .i64 7] 25))
  go_enter Try.func3, Try.ntmps3
  go_wp2_with fail
  refine HP.out.mono ?_; rintro e w1 ⟨A1, c1, rfl, hown1, hb1, h1, h2⟩
  have HB1 := Lib.hid (HB0.out.trans (hb1.mono (by simp)))
  have HG := Lib.hid (get_any A1 _ c1 [6, 20, 10, 0, 4, 0, 0] w1 (Sees.of_own hown1) (by simp) h1 h2 (by decide))
  rw [runs_get] at HG
  have HO1 := Lib.hid hown1
  clear HS HP HB0 hown1 hb1
  go_wp2_with fail
  refine HG.out.mono ?_; rintro e w2 ⟨hb2, A2, c2, rfl, hown2, h3, h4⟩
  have HB2 := Lib.hid (HB1.out.trans (hb2.mono HB1.out.size))
  have HS1 := Lib.hid ((Sees.of_own HO1.out).below hb2)
  have hs2 := HB2.out.size
  have HS2 := Lib.hid (new_sees w2 5 (u8s [6, 20, 10, 0, 4, 0, 0]) 1 7 rfl)
  have HC := Lib.hid (same_u8 A1 _ _ c1 _ 7 _ _ _ _ _ (HS1.out.alloc hb2.size (.cells (u8s [6, 20, 10, 0, 4, 0, 0]).toArray 5)) HS2.out (by simp) (by omega))
  rw [decide_eq_true (rfl : ([6, 20, 10, 0, 4, 0, 0] : List Int) = [6, 20, 10, 0, 4, 0, 0])] at HC
  have HB3 := Lib.hid (HB2.out.alloc hs2 (.cells (u8s [6, 20, 10, 0, 4, 0, 0]).toArray 5))
  clear HG HB1 HO1 HS1 HS2 hown2 hb2
  go_wp2_with fail
  refine HC.out.mono ?_; rintro e w3 ⟨rfl, m3, hw3⟩
  have HB4 := Lib.hid (show Below w.heap.size w w3 by rw [hw3]; exact below_drewN3 HB3.out m3)
  have hs3 : w2.heap.size + 1 ≤ w3.heap.size := by rw [hw3]; simp [World.drewN]
  clear hw3 HC HB3 HB2
  have hs4 := HB4.out.size
  have HS4 := Lib.hid (new_sees w3 3 (ints [-1, 64]) 1 2 rfl)
  have HN := Lib.hid (number_any (some ⟨w3.heap.size, 0, none⟩) 2 2 _ [-1, 64] _ HS4.out (by simp) (by omega) (by intro z hz; simp at hz; rcases hz with rfl | rfl <;> (unfold I64; omega)))
  rw [runs_num] at HN
  have HB5 := Lib.hid (HB4.out.alloc hs4 (.cells (ints [-1, 64]).toArray 3))
  clear HS4 HB4
  go_wp2_with fail
  refine HN.out.mono ?_; rintro e w4 ⟨A4, c4, rfl, hown4, hb4, h5, h6⟩
  have HB6 := Lib.hid (HB5.out.trans (hb4.mono (by simp; omega)))
  have hs5 := HB6.out.size
  have HS6 := Lib.hid (new_sees w4 5 (u8s [1, 128, 1]) 1 3 rfl)
  have HC := Lib.hid (same_u8 A4 _ _ c4 _ 3 _ _ _ _ _ ((Sees.of_own hown4).alloc (Nat.le_refl _) (.cells (u8s [1, 128, 1]).toArray 5)) HS6.out (by simp) (by omega))
  rw [decide_eq_true (rfl : ([1, 128, 1] : List Int) = [1, 128, 1])] at HC
  have HB7 := Lib.hid (HB6.out.alloc hs5 (.cells (u8s [1, 128, 1]).toArray 5))
  clear HN HB5 HB6 HS6 hown4 hb4
  go_wp2_with fail
  refine HC.out.mono ?_; rintro e w5 ⟨rfl, m5, hw5⟩
  have HB8 := Lib.hid (show Below w.heap.size w w5 by rw [hw5]; exact below_drewN3 HB7.out m5)
  clear hw5 HC HB7
  go_wp2_with fail
  go_ret
  exact ⟨rfl, HB8.out⟩
end Go.Proofs.Ythnnbbhoelhmbaa
