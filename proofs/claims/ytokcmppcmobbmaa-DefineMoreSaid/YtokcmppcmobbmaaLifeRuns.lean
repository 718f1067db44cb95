/- Chapter 12's runs, walked. -/
import Derived.Test.YtokcmppcmobbmaaLifeRun
namespace Go.Proofs.Ytokcmppcmobbmaa
open Go.ChangeShapes Go.WideShapes Go.ChangeAt Go.RowKit
set_option linter.unusedVariables false
theorem life_runs (w : World) : Calls Try.prog 11 #[] w fun e w' => e = .returned (.bool true) ∧ Below w.heap.size w w' := by
  have hr : lifeRun 10 20 10 .zero 0 [true, true, true, false, false, false] = [1, 1, 2, 2, 0, 0] := by decide
  have ht : (lifeTurns 0 0 [1, 1, 2, 2, 0, 0]).length = 3 := by decide
  have HR := Lib.hid hr; have HT := Lib.hid ht; clear hr ht
  go_enter Try.func11, Try.ntmps11
  go_wp2_with fail
  have hb : Blk (w.alloc (.cells #[.bool true, .bool true, .bool true, .bool false, .bool false, .bool false] 4)) w.heap.size 4 (bools [true, true, true, false, false, false]) := Blk.mk (heap_alloc_new w _)
  have hs := hb.sees (size := 1) (n := 6) (xs := bools [true, true, true, false, false, false]) (by simp [bools]) (List.prefix_refl _)
  have HB0 := Lib.hid ((Below.refl w.heap.size w).alloc (Nat.le_refl _) (.cells #[.bool true, .bool true, .bool true, .bool false, .bool false, .bool false] 4))
  have HS := Lib.hid hs; clear hb hs
  refine (run_any 10 20 10 _ 6 6 _ _ _ HS.out (by simp) (by unfold I64; omega) (by unfold I64; omega) (by unfold I64; omega) (by omega)).mono ?_; rintro e w1 ⟨v, rfl, hown, hbel⟩
  rw [HR.out] at hown
  obtain ⟨A, c, rfl, hc1, hc2⟩ := own_slice hown
  have hl1 : w.heap.size + 1 ≤ w1.heap.size := by have := hbel.size; simpa using this
  have HB1 := Lib.hid (HB0.out.trans (hbel.mono (by simp))); clear hbel
  have HO := Lib.hid (Sees.of_own hown); clear hown
  go_wp2_with fail
  have hb : Blk (w1.alloc (.cells #[.int .i64 1, .int .i64 1, .int .i64 2, .int .i64 2, .int .i64 0, .int .i64 0] 3)) w1.heap.size 3 (ints [1, 1, 2, 2, 0, 0]) := Blk.mk (heap_alloc_new w1 _)
  have hs := hb.sees (size := 1) (n := 6) (xs := ints [1, 1, 2, 2, 0, 0]) (by simp [ints]) (List.prefix_refl _)
  have HS2 := Lib.hid hs; clear hb hs
  have HO2 := Lib.hid (HO.out.alloc (Nat.le_refl _) (.cells #[.int .i64 1, .int .i64 1, .int .i64 2, .int .i64 2, .int .i64 0, .int .i64 0] 3))
  refine (same_int A _ 6 c 6 6 _ _ _ _ _ HO2.out HS2.out (by omega) (by omega)).mono ?_; rintro e w2 ⟨rfl, m, rfl⟩
  rw [decide_eq_true rfl]
  have HO3 := Lib.hid (HO2.out.drewN m)
  have HB3 := Lib.hid (below_drewN' (HB1.out.alloc (by omega) (.cells #[.int .i64 1, .int .i64 1, .int .i64 2, .int .i64 2, .int .i64 0, .int .i64 0] 3)) m)
  go_wp2_with fail
  refine (turns_any A 6 c _ _ _ HO3.out (by simp) (by omega)).mono ?_; rintro e w3 ⟨v, rfl, hown, hbel⟩
  rw [HT.out] at hown
  obtain ⟨A', c', rfl, _, _⟩ := own_slice hown
  have HB4 := Lib.hid (HB3.out.trans (hbel.mono (by simp; omega))); clear hbel hown
  go_wp2_with fail
  go_ret
  exact ⟨rfl, HB4.out⟩
end Go.Proofs.Ytokcmppcmobbmaa
