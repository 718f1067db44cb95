/- The walk of LsetRuns. -/
import Derived.Test.YtjpjpcockhmbeaaWith
namespace Go.Proofs.Ytjpjpcockhmbeaa
open Go.ChangeShapes Go.WideShapes Go.ChangeAt Go.RowKit
set_option linter.unusedVariables false
set_option maxRecDepth 100000
def lA : ByteArray × ByteArray := (⟨#[97]⟩, ⟨#[120]⟩)
def lB : ByteArray × ByteArray := (⟨#[98]⟩, ⟨#[121, 34, 122]⟩)
def lC : ByteArray × ByteArray := (⟨#[98]⟩, ⟨#[49]⟩)
def lD : ByteArray × ByteArray := (⟨#[97]⟩, ⟨#[50]⟩)
theorem word_a : wordF ⟨#[97]⟩ = true := by decide
theorem word_b : wordF ⟨#[98]⟩ = true := by decide
theorem okA : lblOk lA = true := by decide
theorem okB : lblOk lB = true := by decide
theorem okC : lblOk lC = true := by decide
theorem okD : lblOk lD = true := by decide
theorem less_ab : Op.bytesLess (⟨#[97]⟩ : ByteArray).toList (⟨#[98]⟩ : ByteArray).toList = true := by
  rw [show (⟨#[97]⟩ : ByteArray).toList = [97] from ba_list [97], show (⟨#[98]⟩ : ByteArray).toList = [98] from ba_list [98]]; decide
theorem less_ba : Op.bytesLess (⟨#[98]⟩ : ByteArray).toList (⟨#[97]⟩ : ByteArray).toList = false := by
  rw [show (⟨#[97]⟩ : ByteArray).toList = [97] from ba_list [97], show (⟨#[98]⟩ : ByteArray).toList = [98] from ba_list [98]]; decide
theorem right_two {x y : ByteArray × ByteArray} (hx : lblOk x = true) (hy : lblOk y = true) (h : Op.bytesLess x.1.toList y.1.toList = true) : rightS [x, y] = true := by
  simp only [rightS, rightK, riseAt, lblAt, List.length_cons, List.length_nil]
  simp [hx, hy, h]
theorem wrong_two {x y : ByteArray × ByteArray} (h : Op.bytesLess x.1.toList y.1.toList = false) : rightS [x, y] = false := by
  simp only [rightS, rightK, riseAt, lblAt, List.length_cons, List.length_nil]
  simp [h]
theorem rightAB : rightS [lA, lB] = true := right_two okA okB less_ab
theorem rightAC : rightS [lA, lC] = true := right_two okA okC less_ab
theorem printAB : printL [lA, lB] = [123, 97, 61, 34, 120, 34, 44, 98, 61, 34, 121, 92, 34, 122, 34, 125] := by rw [printL, if_pos rightAB]; decide
theorem printAC : printL [lA, lC] = [123, 97, 61, 34, 120, 34, 44, 98, 61, 34, 49, 34, 125] := by rw [printL, if_pos rightAC]; decide
theorem parseAB : parseF [123, 97, 61, 34, 120, 34, 44, 98, 61, 34, 121, 92, 34, 122, 34, 125] = some [lA, lB] := by rw [← printAB]; exact parseF_print rightAB
theorem parseNil : parseF [123, 125] = some [] := parseF_print (l := []) (by decide)
theorem parseCD : parseF [123, 98, 61, 34, 49, 34, 44, 97, 61, 34, 50, 34, 125] = none := by
  have h := parseLoop_mk [lC, lD] [] 8 (fun x hx => by simp at hx; rcases hx with rfl | rfl; exact okC; exact okD) (by decide) (by decide)
  have e : moreL [] [lC, lD] ++ [125] = [98, 61, 34, 49, 34, 44, 97, 61, 34, 50, 34, 125] := by decide
  rw [e] at h
  rw [parseF, if_pos rfl, h]
  simp only [List.nil_append]
  rw [if_neg (by rw [wrong_two (x := lC) (y := lD) less_ba]; decide)]
theorem withAC : withEnd [lA] ⟨#[98]⟩ ⟨#[49]⟩ = [lA, lC] := by decide
set_option maxHeartbeats 4000000 in
theorem lset_runs (w : World) : Calls Try.prog 18 #[] w fun e w' => e = .returned (.bool true) ∧ Below w.heap.size w w' := by
  have HP1 := Lib.hid (fun W => parse_any ⟨#[123, 97, 61, 34, 120, 34, 44, 98, 61, 34, 121, 92, 34, 122, 34, 125]⟩ W (by decide))
  have HP2 := Lib.hid (fun W => parse_any ⟨#[123, 98, 61, 34, 49, 34, 44, 97, 61, 34, 50, 34, 125]⟩ W (by decide))
  have HP3 := Lib.hid (fun W => parse_any ⟨#[123, 125]⟩ W (by decide))
  rw [show (⟨#[123, 97, 61, 34, 120, 34, 44, 98, 61, 34, 121, 92, 34, 122, 34, 125]⟩ : ByteArray).data.toList = [123, 97, 61, 34, 120, 34, 44, 98, 61, 34, 121, 92, 34, 122, 34, 125] from rfl, parseAB] at HP1
  rw [show (⟨#[123, 98, 61, 34, 49, 34, 44, 97, 61, 34, 50, 34, 125]⟩ : ByteArray).data.toList = [123, 98, 61, 34, 49, 34, 44, 97, 61, 34, 50, 34, 125] from rfl, parseCD] at HP2
  rw [show (⟨#[123, 125]⟩ : ByteArray).data.toList = [123, 125] from rfl, parseNil] at HP3
  go_enter Try.func18, Try.ntmps18
  have HK0 : Hid (Blk (w.alloc (.cells #[.string ⟨#[97]⟩, .string ⟨#[120]⟩, .string ⟨#[98]⟩, .string ⟨#[121, 34, 122]⟩] 25)) w.heap.size 25 (lbls [lA, lB])) := Lib.hid (Blk.mk (heap_alloc_new w _))
  have HB0 := Lib.hid ((Below.refl w.heap.size w).alloc (Nat.le_refl _) (.cells #[.string ⟨#[97]⟩, .string ⟨#[120]⟩, .string ⟨#[98]⟩, .string ⟨#[121, 34, 122]⟩] 25))
  go_wp2_with fail
  refine (HP1.out _).mono ?_; rintro e w1 ⟨hb, A1, c1, rfl, hown, h1, h2⟩
  have HO1 := Lib.hid (own_mono hown (base' := w.heap.size) (by simp))
  have HK1 := Lib.hid (HK0.out.below hb HK0.out.lt)
  have HB1 := Lib.hid (HB0.out.trans (hb.mono (by simp)))
  clear hb hown HK0 HB0 HP1
  go_wp2_with fail
  refine (HP2.out _).mono ?_; rintro e w2 ⟨hb, he⟩
  simp only at he
  subst he
  have HO2 := Lib.hid (own_below HO1.out hb (Nat.le_refl _))
  have HK2 := Lib.hid (HK1.out.below hb HK1.out.lt)
  have HB2 := Lib.hid (HB1.out.trans (hb.mono HB1.out.size))
  clear hb HO1 HK1 HB1 HP2
  go_wp2_with fail
  refine (HP3.out _).mono ?_; rintro e w3 ⟨hb, A3, c3, rfl, hown, h3, h4⟩
  have HO3 := Lib.hid (own_below HO2.out hb (Nat.le_refl _))
  have HK3 := Lib.hid (HK2.out.below hb HK2.out.lt)
  have HB3 := Lib.hid (HB2.out.trans (hb.mono HB2.out.size))
  clear hb HO2 HK2 HB2 HP3 hown
  have HS3 := Lib.hid (HK3.out.sees (size := 2) (n := 2) (xs := lbls [lA, lB]) rfl (List.prefix_refl _))
  simp only [List.length_cons, List.length_nil] at *
  go_wp2_with fail
  refine (print_any _ 2 2 [lA, lB] _ w3 HS3.out (Nat.le_refl _) (by omega)).mono ?_; rintro e w4 ⟨rfl, hb⟩
  rw [printAB]
  have HO4 := Lib.hid (own_below HO3.out hb (Nat.le_refl _))
  have HK4 := Lib.hid (HK3.out.below hb HK3.out.lt)
  have HB4 := Lib.hid (HB3.out.trans (hb.mono HB3.out.size))
  clear hb HO3 HK3 HB3 HS3
  have HS4 := Lib.hid (HK4.out.sees (size := 2) (n := 2) (xs := lbls [lA, lB]) rfl (List.prefix_refl _))
  go_wp2_with fail
  refine (same_lbl A1 _ 2 c1 2 2 w4.heap.size w4.heap.size [lA, lB] [lA, lB] w4 (Sees.of_own HO4.out) HS4.out (by omega) (by omega)).mono ?_; rintro e w5 ⟨rfl, m, rfl⟩
  rw [decide_eq_true (show [lA, lB] = [lA, lB] from rfl)]
  have HS5 : Hid (Sees (w4.drewN m) w4.heap.size 2 (some ⟨w.heap.size, 0, none⟩) 1 (lbls [lA])) := Lib.hid (by
    have h := (HS4.out.drewN m).take (k := 1) (by omega)
    rwa [lbls_take] at h)
  have HB5 := Lib.hid (below_drewN3 HB4.out m)
  have hs5 := HB5.out.size
  have HWT := Lib.hid (fun W B (h : Sees W B 2 (some ⟨w.heap.size, 0, none⟩) 1 (lbls [lA])) (hB : B ≤ W.heap.size) => with_end _ 1 2 B [lA] ⟨#[98]⟩ ⟨#[49]⟩ W h hB (by omega) (by rw [show (⟨#[49]⟩ : ByteArray).toList = [49] from ba_list [49]]; decide) (fun x hx => by
    have hx : x ∈ [lA] := (List.mem_filter.1 hx).1
    simp only [List.mem_singleton] at hx
    subst hx
    exact less_ab))
  rw [withAC] at HWT
  clear HS4 HK4 HO4 HB4
  go_wp2_with fail
  refine (HWT.out _ _ HS5.out (Nat.le_refl _)).mono ?_; rintro e w6 ⟨A6, c6, rfl, hown, hb, h61, h62⟩
  have HS6 := Lib.hid (Sees.of_own hown)
  have HB6 := Lib.hid (HB5.out.trans (hb.mono hs5))
  clear hown hb HWT HS5 HB5
  go_wp2_with fail
  refine (print_any A6 2 c6 [lA, lC] _ w6 HS6.out (Nat.le_refl _) (by omega)).mono ?_; rintro e w7 ⟨rfl, hb⟩
  rw [printAC]
  have HB7 := Lib.hid (HB6.out.trans (hb.mono HB6.out.size))
  clear hb HS6 HB6
  go_wp2_with fail
  go_ret
  exact ⟨rfl, HB7.out⟩
end Go.Proofs.Ytjpjpcockhmbeaa
