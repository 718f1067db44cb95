/- The walk of MatchRuns. -/
import Derived.Test.YtpeakblpmcfdnaaMatchExact
namespace Go.Proofs.Ytpeakblpmcfdnaa
open Go.ChangeShapes Go.WideShapes Go.ChangeAt Go.RowKit
set_option linter.unusedVariables false
set_option maxRecDepth 100000
def runM : List Mtc := [(⟨#[97]⟩, ⟨#[120]⟩, 1), (⟨#[98]⟩, ⟨#[121]⟩, 4)]
def runL : List Lbl := [(⟨#[97]⟩, ⟨#[120]⟩), (⟨#[98]⟩, ⟨#[122]⟩)]
def runO : List Lbl := [(⟨#[97]⟩, ⟨#[120]⟩), (⟨#[98]⟩, ⟨#[121, 121]⟩)]
theorem runAll : allF runL runM = true := by decide
theorem runAllO : allF runO runM = false := by decide
theorem runNone : allF [] [((⟨#[97]⟩ : ByteArray), (⟨#[]⟩ : ByteArray), (1 : Int))] = true := by decide
theorem runPrint : printM runM = [123, 97, 61, 34, 120, 34, 44, 98, 33, 94, 34, 121, 34, 125] := by decide
theorem runLen : (exactM runL).length = 2 := rfl
set_option maxHeartbeats 4000000 in
theorem match_runs (w : World) : Calls Try.prog 3 #[] w fun e w' => e = .returned (.bool true) ∧ Below w.heap.size w w' := by
  obtain ⟨oM, hoM⟩ : ∃ o : Obj, Obj.cells #[.string ⟨#[97]⟩, .string ⟨#[120]⟩, .int .i64 1, .string ⟨#[98]⟩, .string ⟨#[121]⟩, .int .i64 4] 23 = o := ⟨_, rfl⟩
  obtain ⟨oL, hoL⟩ : ∃ o : Obj, Obj.cells #[.string ⟨#[97]⟩, .string ⟨#[120]⟩, .string ⟨#[98]⟩, .string ⟨#[122]⟩] 26 = o := ⟨_, rfl⟩
  obtain ⟨oO, hoO⟩ : ∃ o : Obj, Obj.cells #[.string ⟨#[97]⟩, .string ⟨#[120]⟩, .string ⟨#[98]⟩, .string ⟨#[121, 121]⟩] 26 = o := ⟨_, rfl⟩
  obtain ⟨W, hW⟩ : ∃ W, ((w.alloc oM).alloc oL).alloc oO = W := ⟨_, rfl⟩
  have HB0 : Hid (Below w.heap.size w W) := Lib.hid (by rw [← hW]; exact (((Below.refl _ _).alloc (Nat.le_refl _) _).alloc (by simp) _).alloc (by simp; omega) _)
  have hWs : W.heap.size = w.heap.size + 3 := by rw [← hW]; simp
  have HM : Hid (Sees W W.heap.size 3 (some ⟨w.heap.size, 0, none⟩) 2 (mtcs runM)) := Lib.hid (by
    have h : Blk (w.alloc oM) w.heap.size 23 [.string ⟨#[97]⟩, .string ⟨#[120]⟩, .int .i64 1, .string ⟨#[98]⟩, .string ⟨#[121]⟩, .int .i64 4] := by rw [← hoM]; exact Blk.mk (heap_alloc_new w _)
    have h2 := ((h.alloc oL).alloc oO).sees (size := 3) (n := 2) (xs := mtcs runM) rfl (List.prefix_refl _)
    rwa [hW] at h2)
  have HL : Hid (Sees W W.heap.size 2 (some ⟨w.heap.size + 1, 0, none⟩) 2 (lbls runL)) := Lib.hid (by
    have h : Blk ((w.alloc oM).alloc oL) (w.alloc oM).heap.size 26 [.string ⟨#[97]⟩, .string ⟨#[120]⟩, .string ⟨#[98]⟩, .string ⟨#[122]⟩] := by rw [← hoL]; exact Blk.mk (heap_alloc_new (w.alloc oM) _)
    have h2 := (h.alloc oO).sees (size := 2) (n := 2) (xs := lbls runL) rfl (List.prefix_refl _)
    rw [hW] at h2
    rwa [show (w.alloc oM).heap.size = w.heap.size + 1 by simp] at h2)
  have HO : Hid (Sees W W.heap.size 2 (some ⟨w.heap.size + 2, 0, none⟩) 2 (lbls runO)) := Lib.hid (by
    have h : Blk (((w.alloc oM).alloc oL).alloc oO) ((w.alloc oM).alloc oL).heap.size 26 [.string ⟨#[97]⟩, .string ⟨#[120]⟩, .string ⟨#[98]⟩, .string ⟨#[121, 121]⟩] := by rw [← hoO]; exact Blk.mk (heap_alloc_new ((w.alloc oM).alloc oL) _)
    have h2 := h.sees (size := 2) (n := 2) (xs := lbls runO) rfl (List.prefix_refl _)
    rw [hW] at h2
    rwa [show ((w.alloc oM).alloc oL).heap.size = w.heap.size + 2 by simp] at h2)
  have HW := Lib.hid (And.intro hoM (And.intro hoL (And.intro hoO hW)))
  clear hoM hoL hoO hW
  go_enter Try.func3, Try.ntmps3
  go_wp2_with fail
  rw [HW.out.1, HW.out.2.1, HW.out.2.2.1, HW.out.2.2.2]
  clear HW
  (with_reducible refine (all_any _ 2 2 _ runL _ 2 2 _ runM W HL.out (Nat.le_refl _) (by omega) HM.out (Nat.le_refl _) (by omega)).mono ?_); rintro e w1 ⟨rfl, hb⟩
  rw [runAll]
  have HB1 := Lib.hid hb
  clear hb
  go_wp2_with fail
  (with_reducible refine (all_any _ 2 2 _ runO _ 2 2 _ runM w1 (HO.out.below HB1.out) HB1.out.size (by omega) (HM.out.below HB1.out) HB1.out.size (by omega)).mono ?_); rintro e w2 ⟨rfl, hb⟩
  rw [runAllO]
  have HB2 := Lib.hid (HB1.out.trans (hb.mono HB1.out.size))
  clear hb HB1
  go_wp2_with fail
  (with_reducible refine (all_any none 0 0 _ [] _ 1 1 _ [((⟨#[97]⟩ : ByteArray), (⟨#[]⟩ : ByteArray), (1 : Int))] _ Sees.nil (Nat.le_refl _) (by omega) ((Blk.mk (heap_alloc_new w2 _) : Blk _ w2.heap.size 23 [.string ⟨#[97]⟩, .string ⟨#[]⟩, .int .i64 1]).sees rfl (List.prefix_refl _)) (Nat.le_refl _) (by omega)).mono ?_); rintro e w3 ⟨rfl, hb⟩
  rw [runNone]
  have HB3 := Lib.hid ((HB2.out.alloc HB2.out.size (.cells #[.string ⟨#[97]⟩, .string ⟨#[]⟩, .int .i64 1] 23)).trans (hb.mono (by have := HB2.out.size; simp; omega)))
  clear hb HB2
  go_wp2_with fail
  (with_reducible refine (printM_any _ 2 2 runM _ w3 (HM.out.below HB3.out) HB3.out.size (by omega)).mono ?_); rintro e w4 ⟨rfl, hb⟩
  rw [runPrint]
  have HB4 := Lib.hid (HB3.out.trans (hb.mono HB3.out.size))
  clear hb HB3
  go_wp2_with fail
  (with_reducible refine (exact_any _ 2 2 _ runL w4 (HL.out.below HB4.out) HB4.out.size (by omega)).mono ?_); rintro e w5 ⟨A5, c5, rfl, _, hb, _, _⟩
  rw [runLen]
  have HB5 := Lib.hid (HB4.out.trans (hb.mono HB4.out.size))
  clear hb HB4
  go_wp2_with fail
  go_ret
  exact ⟨rfl, HB0.out.trans (HB5.out.mono HB0.out.size)⟩
end Go.Proofs.Ytpeakblpmcfdnaa
