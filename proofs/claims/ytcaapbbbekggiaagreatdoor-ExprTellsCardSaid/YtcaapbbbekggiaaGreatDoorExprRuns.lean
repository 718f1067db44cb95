/- Chapter 8's runs. -/
import Derived.Test.YtcaapbbbekggiaaGreatDoorPrintX
import Derived.Test.YtcaapbbbekggiaaGreatDoorParseX
namespace Go.Proofs.YtcaapbbbekggiaaGreatDoor
open Go.ChangeShapes Go.WideShapes Go.ChangeAt Go.RowKit
set_option linter.unusedVariables false
set_option linter.unusedSimpArgs false
set_option maxRecDepth 100000
def runT1 : List UInt8 := [40, 115, 117, 109, 32, 98, 121, 32, 40, 97, 41, 32, 40, 123, 110, 97, 109, 101, 61, 34, 109, 34, 125, 91, 49, 48, 93, 41, 32, 62, 32, 53, 41]
def runP1 : PE := .mk 12 0 [] [] [.mk 17 0 [] [⟨#[97]⟩] [.mk 2 10 [(⟨#[110, 97, 109, 101]⟩, ⟨#[109]⟩, 1)] [] []], .mk 1 5 [] [] []]
def runP2 : PE := .mk 3 0 [] [] [.mk 1 1 [] [] [], .mk 1 2 [] [] []]
theorem run_p1 : parseF (⟨#[40, 115, 117, 109, 32, 98, 121, 32, 40, 97, 41, 32, 40, 123, 110, 97, 109, 101, 61, 34, 109, 34, 125, 91, 49, 48, 93, 41, 32, 62, 32, 53, 41]⟩ : ByteArray).data.toList = (runP1, 0, 0) := by kernel_rfl
theorem run_y1 : runP1.ty = 2 := by rfl
theorem run_t1 : runP1.print = runT1 := by kernel_rfl
theorem run_d1 : runP1.deep = 3 := by rfl
theorem run_p2 : parseF (⟨#[40, 49, 32, 43, 32, 50, 41]⟩ : ByteArray).data.toList = (runP2, 0, 0) := by kernel_rfl
theorem run_y2 : runP2.ty = 1 := by rfl
theorem run_p3 : parseF (⟨#[40, 49, 32, 62, 32, 123, 125, 91, 53, 93, 41]⟩ : ByteArray).data.toList = (zeroPE, 0, 1) := by kernel_rfl
theorem run_p4 : parseF (⟨#[40, 49, 32, 43, 32]⟩ : ByteArray).data.toList = (zeroPE, 5, 1) := by kernel_rfl
theorem run_s1 : runP1.small := by simp [runP1, PE.small, smallP]
theorem run_s2 : runP2.small := by simp [runP2, PE.small, smallP]
theorem run_f1 : runP1.fits := by simp [runP1, PE.fits, fitsP, I64]
/-- An expression in a box, and what it holds. -/
structure XBox (g d : Nat) (xk xn : Int) (A1 : Option Addr) (c1 : Nat) (ms : List Mtc) (A2 : Option Addr) (c2 : Nat) (ns : List ByteArray) (A3 : Option Addr) (c3 : Nat) (ks : List XE) (w : World) : Prop where
  blk : Blk w g 26 [.int .i64 xk, .int .i64 xn, .slice A1 ms.length c1, .slice A2 ns.length c2, .slice A3 ks.length c3]
  ok : okX d (.mk xk xn (.slice A1 ms.length c1) ms (.slice A2 ns.length c2) ns (.slice A3 ks.length c3) ks) w
theorem XBox.below {g d : Nat} {xk xn : Int} {A1 A2 A3 : Option Addr} {c1 c2 c3 : Nat} {ms : List Mtc} {ns : List ByteArray} {ks : List XE} {w w' : World} (h : XBox g d xk xn A1 c1 ms A2 c2 ns A3 c3 ks w) (hb : Below w.heap.size w w') : XBox g d xk xn A1 c1 ms A2 c2 ns A3 c3 ks w' :=
  ⟨h.blk.below hb h.blk.lt, okX_below hb d _ h.ok⟩
theorem XBox.new {d : Nat} {xk xn : Int} {A1 A2 A3 : Option Addr} {c1 c2 c3 : Nat} {ms : List Mtc} {ns : List ByteArray} {ks : List XE} {w : World} (h : okX d (.mk xk xn (.slice A1 ms.length c1) ms (.slice A2 ns.length c2) ns (.slice A3 ks.length c3) ks) w) :
    XBox w.heap.size d xk xn A1 c1 ms A2 c2 ns A3 c3 ks (w.alloc (.cells #[.int .i64 xk, .int .i64 xn, .slice A1 ms.length c1, .slice A2 ns.length c2, .slice A3 ks.length c3] 26)) :=
  ⟨Blk.mk (heap_alloc_new w _), okX_below ((Below.refl _ _).alloc (Nat.le_refl _) _) d _ h⟩
set_option maxHeartbeats 4000000 in
theorem expr_runs (w : World) (tab : Tab w) : Calls Tryz.prog 15 #[] w fun e w' => e = .returned (.bool true) ∧ Below w.heap.size w w' := by
  have HT := Lib.hid tab
  have H1 := Lib.hid (parse_x ⟨#[40, 115, 117, 109, 32, 98, 121, 32, 40, 97, 41, 32, 40, 123, 110, 97, 109, 101, 61, 34, 109, 34, 125, 91, 49, 48, 93, 41, 32, 62, 32, 53, 41]⟩ w (by decide))
  rw [run_p1] at H1
  have H2 := Lib.hid (fun V => parse_x ⟨#[40, 49, 32, 43, 32, 50, 41]⟩ V (by decide))
  rw [run_p2] at H2
  have H3 := Lib.hid (fun V => parse_x ⟨#[40, 49, 32, 62, 32, 123, 125, 91, 53, 93, 41]⟩ V (by decide))
  rw [run_p3] at H3
  have H4 := Lib.hid (fun V => parse_x ⟨#[40, 49, 32, 43, 32]⟩ V (by decide))
  rw [run_p4] at H4
  clear tab
  go_enter Tryz.func15, Tryz.ntmps15
  go_wp2_with fail
  (with_reducible refine H1.out.mono ?_); rintro e w1 hx
  obtain ⟨xk, xn, A1, c1, xms, A2, c2, xns, A3, c3, xks, rfl, hp, hf, hw⟩ := hx.forms
  have HP := Lib.hid hp
  have HB := Lib.hid hw
  have HX : Hid (XBox _ 9 xk xn A1 c1 xms A2 c2 xns A3 c3 xks _) := Lib.hid (XBox.new hf.now)
  have HB1 := Lib.hid (HB.out.alloc HB.out.size (.cells #[.int .i64 xk, .int .i64 xn, .slice A1 xms.length c1, .slice A2 xns.length c2, .slice A3 xks.length c3] 26))
  clear hx hp hf hw H1 HB
  go_upto_region 2 with fail
  obtain ⟨g1, hg1⟩ : ∃ g, w1.heap.size = g := ⟨_, rfl⟩
  rw [hg1] at HX ⊢
  clear hg1
  generalize w1.alloc (.cells #[.int .i64 xk, .int .i64 xn, .slice A1 xms.length c1, .slice A2 xns.length c2, .slice A3 xks.length c3] 26) = W1 at *
  go_wp2_with fail
  (with_reducible refine (H2.out _).mono ?_); rintro e w2 hx
  obtain ⟨yk, yn, B1, b1, yms, B2, b2, yns, B3, b3, yks, rfl, hp, hf, hw⟩ := hx.forms
  have HQ := Lib.hid hp
  have ha := (Below.refl w2.heap.size w2).alloc (Nat.le_refl _) (.cells #[.int .i64 yk, .int .i64 yn, .slice B1 yms.length b1, .slice B2 yns.length b2, .slice B3 yks.length b3] 26)
  have HY : Hid (XBox _ 9 yk yn B1 b1 yms B2 b2 yns B3 b3 yks _) := Lib.hid (XBox.new hf.now)
  have HX2 := Lib.hid ((HX.out.below hw).below ha)
  have HB2 := Lib.hid ((HB1.out.trans (hw.mono HB1.out.size)).alloc (Nat.le_trans HB1.out.size hw.size) (.cells #[.int .i64 yk, .int .i64 yn, .slice B1 yms.length b1, .slice B2 yns.length b2, .slice B3 yks.length b3] 26))
  clear hx hp hf hw H2 HB1 HX ha
  go_upto_region 3 with fail
  obtain ⟨g4, hg4⟩ : ∃ g, w2.heap.size = g := ⟨_, rfl⟩
  rw [hg4] at HY ⊢
  clear hg4
  generalize w2.alloc (.cells #[.int .i64 yk, .int .i64 yn, .slice B1 yms.length b1, .slice B2 yns.length b2, .slice B3 yks.length b3] 26) = W2 at *
  go_wp2_with fail
  (with_reducible refine (H3.out _).mono ?_); rintro e w3 hx
  obtain ⟨zk, zn, C1, d1, zms, C2, d2, zns, C3, d3, zks, rfl, hp, hf, hw⟩ := hx.forms
  have ha := hw.alloc hw.size (.cells #[.int .i64 zk, .int .i64 zn, .slice C1 zms.length d1, .slice C2 zns.length d2, .slice C3 zks.length d3] 26)
  have HX3 := Lib.hid (HX2.out.below ha)
  have HY3 := Lib.hid (HY.out.below ha)
  have HB3 := Lib.hid (HB2.out.trans (ha.mono HB2.out.size))
  clear hx hp hf hw H3 HB2 HX2 HY ha
  go_upto_region 4 with fail
  generalize w3.alloc (.cells #[.int .i64 zk, .int .i64 zn, .slice C1 zms.length d1, .slice C2 zns.length d2, .slice C3 zks.length d3] 26) = W3 at *
  go_wp2_with fail
  (with_reducible refine (H4.out _).mono ?_); rintro e w4 hx
  obtain ⟨uk, un, D1, h1, ums, D2, h2, uns, D3, h3, uks, rfl, hp, hf, hw⟩ := hx.forms
  have ha := hw.alloc hw.size (.cells #[.int .i64 uk, .int .i64 un, .slice D1 ums.length h1, .slice D2 uns.length h2, .slice D3 uks.length h3] 26)
  have HX4 := Lib.hid (HX3.out.below ha)
  have HY4 := Lib.hid (HY3.out.below ha)
  have HB4 := Lib.hid (HB3.out.trans (ha.mono HB3.out.size))
  clear hx hp hf hw H4 HB3 HX3 HY3 ha
  go_upto_region 5 with fail
  generalize w4.alloc (.cells #[.int .i64 uk, .int .i64 un, .slice D1 ums.length h1, .slice D2 uns.length h2, .slice D3 uks.length h3] 26) = W4 at *
  have C1 := Lib.hid (show Calls Tryz.prog 9 #[.agg #[.int .i64 xk, .int .i64 xn, .slice A1 xms.length c1, .slice A2 xns.length c2, .slice A3 xks.length c3]] W4 fun e w' => e = .returned (.int .i64 2) ∧ Below W4.heap.size W4 w' by
    have h := type_any 9 _ W4 (by rw [HP.out]; exact run_s1) HX4.out.ok
    rw [HP.out, run_y1] at h; exact h)
  have C2 := Lib.hid (fun V (hV : XBox g1 9 xk xn A1 c1 xms A2 c2 xns A3 c3 xks V) => show Calls Tryz.prog 10 #[.agg #[.int .i64 xk, .int .i64 xn, .slice A1 xms.length c1, .slice A2 xns.length c2, .slice A3 xks.length c3]] V fun e w' => e = .returned (.int .i64 3) ∧ Below V.heap.size V w' by
    have h := deep_any 9 _ V hV.ok (by decide)
    rw [HP.out, run_d1] at h; exact h)
  have C3 := Lib.hid (fun V (hV : XBox g4 9 yk yn B1 b1 yms B2 b2 yns B3 b3 yks V) => show Calls Tryz.prog 9 #[.agg #[.int .i64 yk, .int .i64 yn, .slice B1 yms.length b1, .slice B2 yns.length b2, .slice B3 yks.length b3]] V fun e w' => e = .returned (.int .i64 1) ∧ Below V.heap.size V w' by
    have h := type_any 9 _ V (by rw [HQ.out]; exact run_s2) hV.ok
    rw [HQ.out, run_y2] at h; exact h)
  have C4 := Lib.hid (fun V (hV : XBox g1 9 xk xn A1 c1 xms A2 c2 xns A3 c3 xks V) (hb : Below w.heap.size w V) => show Calls Tryz.prog 12 #[.agg #[.int .i64 xk, .int .i64 xn, .slice A1 xms.length c1, .slice A2 xns.length c2, .slice A3 xks.length c3]] V fun e w' => e = .returned (.string ⟨#[40, 115, 117, 109, 32, 98, 121, 32, 40, 97, 41, 32, 40, 123, 110, 97, 109, 101, 61, 34, 109, 34, 125, 91, 49, 48, 93, 41, 32, 62, 32, 53, 41]⟩) ∧ Below V.heap.size V w' by
    have h := print_x 9 (by decide) _ V (by rw [HP.out]; exact run_s1) (by rw [HP.out]; exact run_f1) (tab_of HT.out hb) hV.ok
    rw [HP.out, run_t1] at h; exact h)
  obtain ⟨x0, x1, x2, x3, x4⟩ := blk_cells5 HX4.out.blk
  go_wp2_with fail
  (with_reducible refine C1.out.mono ?_); rintro e w5 ⟨rfl, hb⟩
  have HX5 := Lib.hid (HX4.out.below hb)
  have HY5 := Lib.hid (HY4.out.below hb)
  have HB5 := Lib.hid (HB4.out.trans (hb.mono HB4.out.size))
  clear hb HX4 HY4 HB4 C1 x0 x1 x2 x3 x4
  obtain ⟨x0, x1, x2, x3, x4⟩ := blk_cells5 HX5.out.blk
  go_wp2_with fail
  (with_reducible refine (C2.out _ HX5.out).mono ?_); rintro e w6 ⟨rfl, hb⟩
  have HX6 := Lib.hid (HX5.out.below hb)
  have HY6 := Lib.hid (HY5.out.below hb)
  have HB6 := Lib.hid (HB5.out.trans (hb.mono HB5.out.size))
  clear hb HX5 HY5 HB5 C2 x0 x1 x2 x3 x4
  obtain ⟨y0, y1, y2, y3, y4⟩ := blk_cells5 HY6.out.blk
  go_wp2_with fail
  (with_reducible refine (C3.out _ HY6.out).mono ?_); rintro e w7 ⟨rfl, hb⟩
  have HX7 := Lib.hid (HX6.out.below hb)
  have HB7 := Lib.hid (HB6.out.trans (hb.mono HB6.out.size))
  clear hb HX6 HY6 HB6 C3 y0 y1 y2 y3 y4
  obtain ⟨x0, x1, x2, x3, x4⟩ := blk_cells5 HX7.out.blk
  go_wp2_with fail
  (with_reducible refine (C4.out _ HX7.out HB7.out).mono ?_); rintro e w8 ⟨rfl, hb⟩
  have HB8 := Lib.hid (HB7.out.trans (hb.mono HB7.out.size))
  clear hb HX7 HB7 C4 x0 x1 x2 x3 x4
  go_wp2_with fail
  go_ret
  exact ⟨rfl, HB8.out⟩
end Go.Proofs.YtcaapbbbekggiaaGreatDoor
