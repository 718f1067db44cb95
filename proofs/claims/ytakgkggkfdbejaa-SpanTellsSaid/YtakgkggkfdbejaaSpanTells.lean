/- The walk of SpanTells, out of the contracts (gen_stells.py). -/
import Derived.Test.YtakgkggkfdbejaaSpanSums
import Derived.Deep.RegionHeld3
namespace Go.Proofs.Ytakgkggkfdbejaa
open Go.ChangeShapes Go.WideShapes Go.ChangeAt Go.RowKit
set_option linter.unusedVariables false
set_option maxRecDepth 100000
/-- Flags in the midst of their making. -/
def midL (g : Bool → Bool → Bool) (x y : List Bool) (k : Nat) : List Bool := mixL g x y k ++ List.replicate (60 - k) false
theorem midL_start (g : Bool → Bool → Bool) (x y : List Bool) : midL g x y 0 = List.replicate 60 false := by simp [midL, mixL]
theorem midL_end (g : Bool → Bool → Bool) (x y : List Bool) : midL g x y 60 = mixL g x y 60 := by simp [midL]
theorem midL_len (g : Bool → Bool → Bool) (x y : List Bool) {k : Nat} (h : k ≤ 60) : (midL g x y k).length = 60 := by simp [midL, mixL]; omega
theorem midL_set (g : Bool → Bool → Bool) (x y : List Bool) {k : Nat} (h : k < 60) {a b : Bool} (ha : x.getD k false = a) (hb : y.getD k false = b) {v : Bool} (hv : g a b = v) : (bools (midL g x y k)).set k (.bool v) = bools (midL g x y (k + 1)) := by
  rw [bools_set]
  unfold midL
  rw [← mixL_step g x y k h, ha, hb, hv]
theorem make200 {i0 : TypeInfo} (hi : Try.prog.info? 4 = some i0) (hz : i0.zero = some (.bool false)) (hs : i0.size = 1) (hb : i0.bytes = 1) :
    ∃ (Z : Array Value), Z = (bools (inF [])).toArray ∧ ∀ w, (Instr.makeSlice 31 (.int .i64 200) (.int .i64 200)).run Try.prog w = .ok (.slice (some ⟨w.heap.size, 0, none⟩) 200 200) (w.alloc (.cells Z 4)) := by
  refine ⟨madeCells #[.bool false] 200, ?_, fun w => ?_⟩
  · apply Array.toList_inj.1
    rw [toList_madeCells_one, inF_nil]
    simp only [bools, List.map_replicate]
  · have h := run_makeSlice (P := Try.prog) w 31 4 i0 (.bool false) Try.underlying31 hi hz .i64 .i64 200 200 (by omega) (by omega) (by rw [hs]; decide) (by rw [hb]; decide) (by decide)
    rw [hs] at h
    exact h
set_option maxHeartbeats 16000000 in
theorem span_tells (A A2 A3 : Option Addr) (n c n2 c2 n3 c3 k3 : Nat) (za zb zr : List Int) (t0 : Int) (w : World) (ha : Sees w w.heap.size 1 A n (ints za)) (hb : Sees w w.heap.size 1 A2 n2 (ints zb)) (hr : Sees w w.heap.size 1 A3 k3 (ints zr))
    (wa : ∀ z ∈ za, I64 z) (wb : ∀ z ∈ zb, I64 z) (wt : I64 t0) (hn : n ≤ 9223372036854775807) (hn2 : n2 ≤ 9223372036854775807) (hk3 : min (n3 : Int) 20 = k3) (hn3 : n3 ≤ c3) (hn3m : c3 ≤ 9223372036854775807) :
    Calls Try.prog 4 #[.slice A n c, .slice A2 n2 c2, .slice A3 n3 c3, .int .i64 t0] w fun e w' => e = .returned (.bool true) ∧ Below w.heap.size w w' := by
  have HSB := Lib.hid hb; have WB := Lib.hid wb; have WT := Lib.hid wt
  have HF1 := Lib.hid (flags_any A n c za _ w ha wa (Nat.le_refl _) hn)
  have PR := Lib.hid (fun W (h : Below w.heap.size w W) => hr.below h)
  have HK3 := Lib.hid hk3
  have hk20 : k3 ≤ 20 := by omega
  have hk3c : k3 ≤ c3 := by omega
  have HXL := Lib.hid (flagsL_len za)
  have HYL := Lib.hid (flagsL_len zb)
  obtain ⟨i0, hi, hz0, hz1, hz2⟩ := info_parts Try.infoBool3
  obtain ⟨Z, l0, hl0, hZ, hmk⟩ := make60 hi hz0 hz1 hz2
  obtain ⟨Z2, hZ2, hmk2⟩ := make200 hi hz0 hz1 hz2
  have HZ := Lib.hid (show Z = (bools (List.replicate 60 false)).toArray by rw [hZ, hl0])
  have HZ2 := Lib.hid hZ2
  clear ha hb hr wa wb wt hk3 hl0 hZ hZ2 hi hz0 hz1 hz2
  generalize flagsL za = fa at *
  go_enter Try.func4, Try.ntmps4
  go_wp2_with fail
  refine HF1.out.mono ?_; rintro e w1 ⟨AXb, Ax, cx, rfl, hxb1, hp1, hb1, hcx, hmx⟩
  have HP1 := Lib.hid hp1; have HB1 := Lib.hid hb1; have HX1 := Lib.hid hxb1
  have HF2 := Lib.hid (flags_any A2 n2 c2 zb _ w1 (HSB.out.below hb1) WB.out hb1.size hn2)
  generalize flagsL zb = fb at *
  have Sx := Lib.hid (spK_spl fa)
  have HNX := Lib.hid (count_spK fa 60)
  have HXH := Lib.hid (fun i h => spK_has fa 60 i h)
  have HX0 := Lib.hid (show hasF (spK fa 60) (-1) = false from spK_not fa (by omega) (.inl (by omega)))
  have HX60 := Lib.hid (show hasF (spK fa 60) 60 = false from spK_not fa (by omega) (.inr (by omega)))
  have HOR := Lib.hid (or_spans fa fb); have HAND := Lib.hid (and_spans fa fb); have HLESS := Lib.hid (less_spans fa fb)
  have Sy := Lib.hid (spK_spl fb)
  generalize spK fa 60 = x at *
  clear hxb1 hp1 hb1 HF1 HSB WB
  go_wp2_with fail
  refine HF2.out.mono ?_; rintro e w2 ⟨AYb, Ay, cy, rfl, hyb2, hp2, hb2, hcy, hmy⟩
  generalize spK fb 60 = y at *
  have PXB := Lib.hid (fun W (h : Below w2.heap.size w2 W) => ((HX1.out.below hb2).more hb2.size).below h)
  have PYB := Lib.hid (fun W (h : Below w2.heap.size w2 W) => hyb2.below h)
  have Px := Lib.hid (fun W (h : Below w2.heap.size w2 W) => ((HP1.out.below hb2).more hb2.size).below h)
  have Py := Lib.hid (fun W (h : Below w2.heap.size w2 W) => hp2.below h)
  have HBw := Lib.hid (HB1.out.trans (hb2.mono HB1.out.size))
  clear hyb2 hp2 hb2 HF2 HX1 HP1 HB1
  obtain ⟨adx, hAX⟩ : ∃ ad, AXb = some ad := by obtain ⟨ad, h, _⟩ := (PXB.out w2 (Below.refl _ _)).at_ (by omega); exact ⟨ad, h⟩
  obtain ⟨ady, hAY⟩ : ∃ ad, AYb = some ad := by obtain ⟨ad, h, _⟩ := (PYB.out w2 (Below.refl _ _)).at_ (by omega); exact ⟨ad, h⟩
  subst hAX; subst hAY
  go_upto_region 3 with fail
  go_cut [13, 14, 15] (fun x13 x14 x15 wx => ∃ g1 g2 g3, x13 = .slice (some ⟨g1, 0, none⟩) 60 60 ∧ x14 = .slice (some ⟨g2, 0, none⟩) 60 60 ∧ x15 = .slice (some ⟨g3, 0, none⟩) 60 60 ∧ Blk wx g1 4 (bools (List.replicate 60 false)) ∧ Blk wx g2 4 (bools (List.replicate 60 false)) ∧ Blk wx g3 4 (bools (List.replicate 60 false)) ∧ g1 ≠ g2 ∧ g1 ≠ g3 ∧ g2 ≠ g3 ∧ w2.heap.size ≤ g1 ∧ w2.heap.size ≤ g2 ∧ w2.heap.size ≤ g3 ∧ Below w2.heap.size w2 wx)
  case first =>
    have b1 : Blk (((w2.drew.alloc (.cells Z 4)).alloc (.cells Z 4)).alloc (.cells Z 4)) w2.heap.size 4 (bools (List.replicate 60 false)) := by
      rw [HZ.out]; exact Blk.alloc (Blk.alloc (Blk.mk (heap_alloc_new w2.drew _)) _) _
    have b2 : Blk (((w2.drew.alloc (.cells Z 4)).alloc (.cells Z 4)).alloc (.cells Z 4)) (w2.heap.size + 1) 4 (bools (List.replicate 60 false)) := by
      rw [HZ.out]
      refine Blk.alloc (Blk.mk ?_) _
      have h := heap_alloc_new (w2.drew.alloc (.cells (bools (List.replicate 60 false)).toArray 4)) (.cells (bools (List.replicate 60 false)).toArray 4)
      rwa [show (w2.drew.alloc (.cells (bools (List.replicate 60 false)).toArray 4)).heap.size = w2.heap.size + 1 by simp] at h
    have b3 : Blk (((w2.drew.alloc (.cells Z 4)).alloc (.cells Z 4)).alloc (.cells Z 4)) (w2.heap.size + 1 + 1) 4 (bools (List.replicate 60 false)) := by
      rw [HZ.out]
      refine Blk.mk ?_
      have h := heap_alloc_new ((w2.drew.alloc (.cells (bools (List.replicate 60 false)).toArray 4)).alloc (.cells (bools (List.replicate 60 false)).toArray 4)) (.cells (bools (List.replicate 60 false)).toArray 4)
      rwa [show ((w2.drew.alloc (.cells (bools (List.replicate 60 false)).toArray 4)).alloc (.cells (bools (List.replicate 60 false)).toArray 4)).heap.size = w2.heap.size + 1 + 1 by simp] at h
    have HBW3 := Lib.hid (((((Below.refl w2.heap.size w2).drew).alloc (Nat.le_refl _) (.cells Z 4)).alloc (by simp) (.cells Z 4)).alloc (by simp; omega) (.cells Z 4))
    have K1 := Lib.hid b1; have K2 := Lib.hid b2; have K3 := Lib.hid b3
    clear b1 b2 b3
    go_region
    all_goals
      go_wp2_with fail
      go_meet
      refine ⟨_, _, _, rfl, rfl, rfl, ?_, ?_, ?_, ?_, ?_, ?_, ?_, ?_, ?_, HBW3.out⟩ <;> first | exact K1.out | exact K2.out | exact K3.out | omega
  case rest =>
    obtain ⟨g1, g2, g3, rfl, rfl, rfl, hk1, hk2, hk3, h12, h13, h23, hg1, hg2, hg3, hbel⟩ := hcut
    have HK1 := Lib.hid hk1; have HK2 := Lib.hid hk2; have HK3' := Lib.hid hk3; have HBE := Lib.hid hbel
    clear hk1 hk2 hk3 hbel hmk
    go_wp2_with fail
    go_loopg [16, 39] 60 (fun g x16 x39 wr => ∃ k : Nat, k + g = 60 ∧ x39 = .int .i64 k ∧ x16 = .int .i64 (upTo fa k) ∧ Blk wr g1 4 (bools (midL (fun a b => a || b) fa fb k)) ∧ Blk wr g2 4 (bools (midL (fun a b => a && b) fa fb k)) ∧ Blk wr g3 4 (bools (midL (fun a b => a && !b) fa fb k)) ∧ Below w2.heap.size w2 wr)
    case atStart => exact ⟨0, by omega, rfl, rfl, by rw [midL_start]; exact HK1.out, by rw [midL_start]; exact HK2.out, by rw [midL_start]; exact HK3'.out, HBE.out⟩
    case round =>
      clear HK1 HK2 HK3' HBE
      obtain ⟨k, hkg, rfl, rfl, hk1, hk2, hk3, hbel⟩ := hrel
      have HK1 := Lib.hid hk1; have HK2 := Lib.hid hk2; have HK3' := Lib.hid hk3; have HB := Lib.hid hbel
      have hl1 := hk1.lt; have hl2 := hk2.lt; have hl3 := hk3.lt
      clear hk1 hk2 hk3 hbel
      cases gk with
      | zero =>
        obtain rfl : k = 60 := by omega
        have M1 := Lib.hid (show Blk wr g1 4 (bools (mixL (fun a b => a || b) fa fb 60)) by rw [← midL_end]; exact HK1.out)
        have M2 := Lib.hid (show Blk wr g2 4 (bools (mixL (fun a b => a && b) fa fb 60)) by rw [← midL_end]; exact HK2.out)
        have M3 := Lib.hid (show Blk wr g3 4 (bools (mixL (fun a b => a && !b) fa fb 60)) by rw [← midL_end]; exact HK3'.out)
        have hnx : (upTo fa 60 : Int) ≤ 60 := by have := upTo_le fa 60; omega
        clear HK1 HK2 HK3'
        obtain ⟨hq1, hq2⟩ := nWithin_in t0 (lo := 0) (hi := 59) (by omega)
        go_wp2_with fail
        refine (within_any t0 0 59 _ WT.out (by omega) (by omega) (by omega)).mono ?_; rintro e w' ⟨rfl, rfl⟩
        generalize nWithin t0 0 59 = q at *
        obtain ⟨qn, rfl⟩ := Int.eq_ofNat_of_zero_le hq1
        have hsr := HB.out.size
        go_upto_region 13 with fail
        go_cut [19] (fun x wx => x = .slice A3 k3 c3 ∧ wr = wx)
        case first =>
          have hk3 := HK3.out
          by_cases h6 : n3 ≤ 20
          · obtain rfl : k3 = n3 := by omega
            have hm6 : ¬ (20 : Int) < k3 := by omega
            go_wp2_with fail
            go_meet
            exact ⟨rfl, rfl⟩
          · obtain rfl : k3 = 20 := by omega
            have hm6 : (20 : Int) < n3 := by omega
            go_wp2_with fail
            go_meet
            exact ⟨rfl, rfl⟩
        case rest =>
          obtain ⟨rfl, rfl⟩ := hcut
          have HZK := Lib.hid (show Blk (wr.alloc (.cells Z2 4)) wr.heap.size 4 (bools (inF [])) by rw [HZ2.out]; exact Blk.mk (heap_alloc_new wr _))
          have HBW := Lib.hid (HBw.out.trans (HB.out.mono HBw.out.size))
          have PRW := Lib.hid (PR.out _ HBW.out)
          have HRL := Lib.hid PRW.out.int_len
          have HBZ := Lib.hid ((Below.refl wr.heap.size wr).alloc (Nat.le_refl _) (.cells Z2 4))
          obtain ⟨g4, hg4⟩ : ∃ g4, wr.heap.size = g4 := ⟨_, rfl⟩
          rw [hg4] at HZK HBZ hl1 hl2 hl3 hsr
          have hwg : w.heap.size ≤ g4 := by have := HBW.out.size; omega
          go_wp2_with fail
          clear hmk2
          generalize wr.alloc (.cells Z2 4) = w4 at *
          go_loopg [99] k3 (fun g x99 wx => ∃ (j : Nat), j + g = k3 ∧ x99 = .int .i64 j ∧ Blk wx g4 4 (bools (inF (zr.take j))) ∧ Below g4 wr wx)
          case atStart => exact ⟨0, by omega, rfl, HZK.out, HBZ.out⟩
          case round =>
            clear HZK HBZ
            obtain ⟨j, hjg, rfl, hk4, hb4⟩ := hrel
            have HK4 := Lib.hid hk4; have HB4 := Lib.hid hb4
            have hgl4 := hk4.lt
            clear hk4 hb4
            cases gk with
            | succ g =>
              have hj3 : j < k3 := by omega
              obtain ⟨ad, hjl, rfl, hc⟩ := (PRW.out.below (HB4.out.mono hwg)).int hj3
              have HTK := Lib.hid (List.take_succ_eq_append_getElem hjl)
              generalize zr[j] = z at *
              by_cases hz0 : 0 ≤ z
              · by_cases hz1 : z < 200
                · obtain ⟨p, rfl⟩ := Int.eq_ofNat_of_zero_le hz0
                  have hp : p < 200 := by omega
                  have HST := Lib.hid (inF_set (l := zr.take j) hp)
                  have hl : (inF (zr.take j)).length = 200 := by simp [inF]
                  have hcell : ∃ b, ‹World›.cell? ⟨g4, p, none⟩ = some (.bool b) := ⟨(inF (zr.take j))[p]'(by omega), by rw [HK4.out.cell, bools_get _ _ (by omega)]⟩
                  obtain ⟨b, hb⟩ := hcell
                  have hfz := HK4.out.frozen p
                  have HS := Lib.hid (HK4.out.set p (.bool true))
                  have HBS := Lib.hid (HB4.out.setCell (p := ⟨g4, p, none⟩) (Nat.le_refl _) (.bool true))
                  clear hl
                  go_wp2_with fail
                  go_roundg g
                  case measure => omega
                  case rel => exact ⟨j + 1, by omega, by go_num, by rw [HTK.out, ← HST.out, ← bools_set]; exact HS.out, HBS.out⟩
                · have HST := Lib.hid (inF_out (l := zr.take j) (z := z) (fun h => hz1 h.2))
                  go_wp2_with fail
                  go_roundg g
                  case measure => omega
                  case rel => exact ⟨j + 1, by omega, by go_num, by rw [HTK.out, HST.out]; exact HK4.out, HB4.out⟩
              · have HST := Lib.hid (inF_out (l := zr.take j) (z := z) (fun h => hz0 h.1))
                go_wp2_with fail
                go_roundg g
                case measure => omega
                case rel => exact ⟨j + 1, by omega, by go_num, by rw [HTK.out, HST.out]; exact HK4.out, HB4.out⟩
            | zero =>
              obtain rfl : j = k3 := by omega
              have HE := Lib.hid (show zr.take j = zr from List.take_of_length_le (by rw [HRL.out]; exact Nat.le_refl _))
              rw [HE.out] at HK4
              have HBB := Lib.hid (HB.out.trans (HB4.out.mono hsr))
              have HBww := Lib.hid (HBW.out.trans (HB4.out.mono hwg))
              have hwr : g4 ≤ wr.heap.size := Nat.le_of_lt hgl4
              have Px' := Lib.hid (fun W (h : Below wr.heap.size wr W) => ((Px.out _ HBB.out).more HBB.out.size).below h)
              have Py' := Lib.hid (fun W (h : Below wr.heap.size wr W) => ((Py.out _ HBB.out).more HBB.out.size).below h)
              have PX' := Lib.hid (fun W (h : Below wr.heap.size wr W) => ((PXB.out _ HBB.out).more HBB.out.size).below h)
              have PR' := Lib.hid (fun W (h : Below wr.heap.size wr W) => ((PRW.out.below (HB4.out.mono hwg)).more HBww.out.size).below h)
              have Po1 := Lib.hid (fun W (h : Below wr.heap.size wr W) => (((M1.out.below HB4.out hl1).sees (n := 60) (size := 1) (by simp [bools, mixL]) (List.prefix_refl _)).below h))
              have Po2 := Lib.hid (fun W (h : Below wr.heap.size wr W) => (((M2.out.below HB4.out hl2).sees (n := 60) (size := 1) (by simp [bools, mixL]) (List.prefix_refl _)).below h))
              have Po3 := Lib.hid (fun W (h : Below wr.heap.size wr W) => (((M3.out.below HB4.out hl3).sees (n := 60) (size := 1) (by simp [bools, mixL]) (List.prefix_refl _)).below h))
              have Po4 := Lib.hid (fun W (h : Below wr.heap.size wr W) => ((HK4.out.sees (n := 200) (size := 1) (by simp [bools, inF]) (List.prefix_refl _)).below h))
              clear Px Py PXB PRW M1 M2 M3 HK4
              have Px := Px'; have Py := Py'; have PX := PX'; have PR := PR'
              clear Px' Py' PX' PR'
              have hxlen := Sx.out.len
              have HBxz := Lib.hid (Below.refl wr.heap.size wr)
              have HByz := Lib.hid (Below.refl wr.heap.size wr)
              have HBXz := Lib.hid (Below.refl wr.heap.size wr)
              have HBRz := Lib.hid (Below.refl wr.heap.size wr)
              have HBo1z := Lib.hid (Below.refl wr.heap.size wr)
              have HBo2z := Lib.hid (Below.refl wr.heap.size wr)
              have HBo3z := Lib.hid (Below.refl wr.heap.size wr)
              have HBo4z := Lib.hid (Below.refl wr.heap.size wr)
              have HBwz := HBww; clear HBww HBB HB4 HB
              go_wp2_with fail
              refine (roomy_sp Ax _ cx _ x 9 0 wr ((Px.out _ HBxz.out).more HBxz.out.size) (Nat.le_refl _) (by omega)).mono ?_; rintro e w41 ⟨g5, rfl, hg5, hk5, hbel⟩
              have hst1 : Below wr.heap.size wr w41 := hbel
              have HBx1 := Lib.hid (HBxz.out.trans (hst1.mono HBxz.out.size))
              have HBy1 := Lib.hid (HByz.out.trans (hst1.mono HByz.out.size))
              have HBX1 := Lib.hid (HBXz.out.trans (hst1.mono HBXz.out.size))
              have HBR1 := Lib.hid (HBRz.out.trans (hst1.mono HBRz.out.size))
              have HBo11 := Lib.hid (HBo1z.out.trans (hst1.mono HBo1z.out.size))
              have HBo21 := Lib.hid (HBo2z.out.trans (hst1.mono HBo2z.out.size))
              have HBo31 := Lib.hid (HBo3z.out.trans (hst1.mono HBo3z.out.size))
              have HBo41 := Lib.hid (HBo4z.out.trans (hst1.mono HBo4z.out.size))
              have HBw1 := Lib.hid (HBwz.out.trans (hst1.mono HBwz.out.size))
              clear hst1 HBxz HByz HBXz HBRz HBo1z HBo2z HBo3z HBo4z HBwz
              have Pff := Lib.hid (fun W (h : Below w41.heap.size w41 W) => (hk5.sees (n := x.length + 80) (size := 2) (by rw [smps_length]; simp) (List.prefix_refl _)).below h)
              have Pfx := Lib.hid (fun W (h : Below w41.heap.size w41 W) => (hk5.sees (n := x.length) (size := 2) (smps_length x) (by rw [smps_append]; exact List.prefix_append _ _)).below h)
              clear hbel hk5 hg5
              have HBffz := Lib.hid (Below.refl w41.heap.size w41)
              have HBfxz := Lib.hid (Below.refl w41.heap.size w41)
              have hq0x : (0 : Int) ≤ (x.length : Int) := by omega
              have hq1x : (x.length : Int) ≤ ((x.length + 80 : Nat) : Int) := by omega
              have hq2x : (x.length : Int) ≤ (x.length : Int) + 80 := by omega
              go_wp2_with fail
              refine (join_two (some ⟨g5, 0, none⟩) Ay _ (x.length + 80) _ cy x y w41 ((Pfx.out _ HBfxz.out).more HBfxz.out.size) ((Py.out _ HBy1.out).more HBy1.out.size) Sx.out Sy.out (show x.length ≤ x.length + 80 by omega) (show x.length + 80 ≤ 9223372036854775807 by omega) hcy hmy).mono ?_; rintro e w42 ⟨r1, Ar1, cr1, rfl, sr1, fr1, hsee, hbel, hcr1, hmr1⟩
              have Pr1 := Lib.hid (fun W (h : Below w42.heap.size w42 W) => hsee.below h)
              have Sr1 := Lib.hid sr1; have Fr1 := Lib.hid fr1
              have hst2 : Below w41.heap.size w41 w42 := hbel
              have HBx2 := Lib.hid (HBx1.out.trans (hst2.mono HBx1.out.size))
              have HBy2 := Lib.hid (HBy1.out.trans (hst2.mono HBy1.out.size))
              have HBX2 := Lib.hid (HBX1.out.trans (hst2.mono HBX1.out.size))
              have HBR2 := Lib.hid (HBR1.out.trans (hst2.mono HBR1.out.size))
              have HBo12 := Lib.hid (HBo11.out.trans (hst2.mono HBo11.out.size))
              have HBo22 := Lib.hid (HBo21.out.trans (hst2.mono HBo21.out.size))
              have HBo32 := Lib.hid (HBo31.out.trans (hst2.mono HBo31.out.size))
              have HBo42 := Lib.hid (HBo41.out.trans (hst2.mono HBo41.out.size))
              have HBw2 := Lib.hid (HBw1.out.trans (hst2.mono HBw1.out.size))
              have HBff2 := Lib.hid (HBffz.out.trans (hst2.mono HBffz.out.size))
              have HBfx2 := Lib.hid (HBfxz.out.trans (hst2.mono HBfxz.out.size))
              clear hst2 HBx1 HBy1 HBX1 HBR1 HBo11 HBo21 HBo31 HBo41 HBw1 HBffz HBfxz
              clear hbel hsee sr1 fr1
              have HBr10 := Lib.hid (Below.refl w42.heap.size w42)
              obtain ⟨s1, hs1⟩ : ∃ l, spK (mixL (fun a b => a || b) fa fb 60) 60 = l := ⟨_, rfl⟩
              have ss1 := spK_spl (mixL (fun a b => a || b) fa fb 60)
              have fs1 := HOR.out
              rw [hs1] at ss1
              simp only [hs1] at fs1
              have Ss1 := Lib.hid ss1; have Fs1 := Lib.hid fs1; have Hs1 := Lib.hid hs1
              clear ss1 fs1 hs1
              go_wp2_with fail
              refine (spans_any (some ⟨g1, 0, none⟩) 60 60 (mixL (fun a b => a || b) fa fb 60) _ w42 ((Po1.out _ HBo12.out).more HBo12.out.size) (Nat.le_refl _) (by omega)).mono ?_; rintro e w43 ⟨As1, cs1, rfl, hown, hbel, hcs1, hms1⟩
              rw [Hs1.out] at hown hcs1
              rw [Hs1.out]
              have Ps1 := Lib.hid (fun W (h : Below w43.heap.size w43 W) => (Sees.of_own hown).below h)
              have hst3 : Below w42.heap.size w42 w43 := hbel
              have HBx3 := Lib.hid (HBx2.out.trans (hst3.mono HBx2.out.size))
              have HBy3 := Lib.hid (HBy2.out.trans (hst3.mono HBy2.out.size))
              have HBX3 := Lib.hid (HBX2.out.trans (hst3.mono HBX2.out.size))
              have HBR3 := Lib.hid (HBR2.out.trans (hst3.mono HBR2.out.size))
              have HBo13 := Lib.hid (HBo12.out.trans (hst3.mono HBo12.out.size))
              have HBo23 := Lib.hid (HBo22.out.trans (hst3.mono HBo22.out.size))
              have HBo33 := Lib.hid (HBo32.out.trans (hst3.mono HBo32.out.size))
              have HBo43 := Lib.hid (HBo42.out.trans (hst3.mono HBo42.out.size))
              have HBw3 := Lib.hid (HBw2.out.trans (hst3.mono HBw2.out.size))
              have HBff3 := Lib.hid (HBff2.out.trans (hst3.mono HBff2.out.size))
              have HBfx3 := Lib.hid (HBfx2.out.trans (hst3.mono HBfx2.out.size))
              have HBr13 := Lib.hid (HBr10.out.trans (hst3.mono HBr10.out.size))
              clear hst3 HBx2 HBy2 HBX2 HBR2 HBo12 HBo22 HBo32 HBo42 HBw2 HBff2 HBfx2 HBr10
              clear hbel hown
              have HBs1z := Lib.hid (Below.refl w43.heap.size w43)
              have hq : r1 = s1 := Sr1.out.eq Ss1.out fun t => by rw [Fr1.out t, Fs1.out t]
              have HQ := Lib.hid hq; clear hq
              go_wp2_with fail
              refine (same_spn Ar1 As1 _ cr1 _ cs1 _ _ r1 s1 w43 ((Pr1.out _ HBr13.out).more HBr13.out.size) ((Ps1.out _ HBs1z.out).more HBs1z.out.size) (by omega) (by omega)).mono ?_; rintro e w44 ⟨rfl, m, hwm⟩
              rw [decide_eq_true HQ.out]
              have hst4 : Below w43.heap.size w43 w44 := by rw [hwm]; exact below_drewN3 (Below.refl _ _) m
              have HBx4 := Lib.hid (HBx3.out.trans (hst4.mono HBx3.out.size))
              have HBy4 := Lib.hid (HBy3.out.trans (hst4.mono HBy3.out.size))
              have HBX4 := Lib.hid (HBX3.out.trans (hst4.mono HBX3.out.size))
              have HBR4 := Lib.hid (HBR3.out.trans (hst4.mono HBR3.out.size))
              have HBo14 := Lib.hid (HBo13.out.trans (hst4.mono HBo13.out.size))
              have HBo24 := Lib.hid (HBo23.out.trans (hst4.mono HBo23.out.size))
              have HBo34 := Lib.hid (HBo33.out.trans (hst4.mono HBo33.out.size))
              have HBo44 := Lib.hid (HBo43.out.trans (hst4.mono HBo43.out.size))
              have HBw4 := Lib.hid (HBw3.out.trans (hst4.mono HBw3.out.size))
              have HBff4 := Lib.hid (HBff3.out.trans (hst4.mono HBff3.out.size))
              have HBfx4 := Lib.hid (HBfx3.out.trans (hst4.mono HBfx3.out.size))
              have HBr14 := Lib.hid (HBr13.out.trans (hst4.mono HBr13.out.size))
              have HBs14 := Lib.hid (HBs1z.out.trans (hst4.mono HBs1z.out.size))
              clear hst4 HBx3 HBy3 HBX3 HBR3 HBo13 HBo23 HBo33 HBo43 HBw3 HBff3 HBfx3 HBr13 HBs1z
              clear hwm HQ
              clear HBr14
              clear HBs14
              clear HBo14
              go_wp2_with fail
              refine (both_two (some ⟨g5, 0, none⟩) Ay _ (x.length + 80) _ cy x y w44 ((Pfx.out _ HBfx4.out).more HBfx4.out.size) ((Py.out _ HBy4.out).more HBy4.out.size) Sx.out Sy.out).mono ?_; rintro e w45 ⟨r2, Ar2, cr2, rfl, sr2, fr2, hsee, hbel, hcr2, hmr2⟩
              have Pr2 := Lib.hid (fun W (h : Below w45.heap.size w45 W) => hsee.below h)
              have Sr2 := Lib.hid sr2; have Fr2 := Lib.hid fr2
              have hst5 : Below w44.heap.size w44 w45 := hbel
              have HBx5 := Lib.hid (HBx4.out.trans (hst5.mono HBx4.out.size))
              have HBy5 := Lib.hid (HBy4.out.trans (hst5.mono HBy4.out.size))
              have HBX5 := Lib.hid (HBX4.out.trans (hst5.mono HBX4.out.size))
              have HBR5 := Lib.hid (HBR4.out.trans (hst5.mono HBR4.out.size))
              have HBo25 := Lib.hid (HBo24.out.trans (hst5.mono HBo24.out.size))
              have HBo35 := Lib.hid (HBo34.out.trans (hst5.mono HBo34.out.size))
              have HBo45 := Lib.hid (HBo44.out.trans (hst5.mono HBo44.out.size))
              have HBw5 := Lib.hid (HBw4.out.trans (hst5.mono HBw4.out.size))
              have HBff5 := Lib.hid (HBff4.out.trans (hst5.mono HBff4.out.size))
              have HBfx5 := Lib.hid (HBfx4.out.trans (hst5.mono HBfx4.out.size))
              clear hst5 HBx4 HBy4 HBX4 HBR4 HBo24 HBo34 HBo44 HBw4 HBff4 HBfx4
              clear hbel hsee sr2 fr2
              have HBr20 := Lib.hid (Below.refl w45.heap.size w45)
              obtain ⟨s2, hs2⟩ : ∃ l, spK (mixL (fun a b => a && b) fa fb 60) 60 = l := ⟨_, rfl⟩
              have ss2 := spK_spl (mixL (fun a b => a && b) fa fb 60)
              have fs2 := HAND.out
              rw [hs2] at ss2
              simp only [hs2] at fs2
              have Ss2 := Lib.hid ss2; have Fs2 := Lib.hid fs2; have Hs2 := Lib.hid hs2
              clear ss2 fs2 hs2
              go_wp2_with fail
              refine (spans_any (some ⟨g2, 0, none⟩) 60 60 (mixL (fun a b => a && b) fa fb 60) _ w45 ((Po2.out _ HBo25.out).more HBo25.out.size) (Nat.le_refl _) (by omega)).mono ?_; rintro e w46 ⟨As2, cs2, rfl, hown, hbel, hcs2, hms2⟩
              rw [Hs2.out] at hown hcs2
              rw [Hs2.out]
              have Ps2 := Lib.hid (fun W (h : Below w46.heap.size w46 W) => (Sees.of_own hown).below h)
              have hst6 : Below w45.heap.size w45 w46 := hbel
              have HBx6 := Lib.hid (HBx5.out.trans (hst6.mono HBx5.out.size))
              have HBy6 := Lib.hid (HBy5.out.trans (hst6.mono HBy5.out.size))
              have HBX6 := Lib.hid (HBX5.out.trans (hst6.mono HBX5.out.size))
              have HBR6 := Lib.hid (HBR5.out.trans (hst6.mono HBR5.out.size))
              have HBo26 := Lib.hid (HBo25.out.trans (hst6.mono HBo25.out.size))
              have HBo36 := Lib.hid (HBo35.out.trans (hst6.mono HBo35.out.size))
              have HBo46 := Lib.hid (HBo45.out.trans (hst6.mono HBo45.out.size))
              have HBw6 := Lib.hid (HBw5.out.trans (hst6.mono HBw5.out.size))
              have HBff6 := Lib.hid (HBff5.out.trans (hst6.mono HBff5.out.size))
              have HBfx6 := Lib.hid (HBfx5.out.trans (hst6.mono HBfx5.out.size))
              have HBr26 := Lib.hid (HBr20.out.trans (hst6.mono HBr20.out.size))
              clear hst6 HBx5 HBy5 HBX5 HBR5 HBo25 HBo35 HBo45 HBw5 HBff5 HBfx5 HBr20
              clear hbel hown
              have HBs2z := Lib.hid (Below.refl w46.heap.size w46)
              have hq : r2 = s2 := Sr2.out.eq Ss2.out fun t => by rw [Fr2.out t, Fs2.out t]
              have HQ := Lib.hid hq; clear hq
              go_wp2_with fail
              refine (same_spn Ar2 As2 _ cr2 _ cs2 _ _ r2 s2 w46 ((Pr2.out _ HBr26.out).more HBr26.out.size) ((Ps2.out _ HBs2z.out).more HBs2z.out.size) (by omega) (by omega)).mono ?_; rintro e w47 ⟨rfl, m, hwm⟩
              rw [decide_eq_true HQ.out]
              have hst7 : Below w46.heap.size w46 w47 := by rw [hwm]; exact below_drewN3 (Below.refl _ _) m
              have HBx7 := Lib.hid (HBx6.out.trans (hst7.mono HBx6.out.size))
              have HBy7 := Lib.hid (HBy6.out.trans (hst7.mono HBy6.out.size))
              have HBX7 := Lib.hid (HBX6.out.trans (hst7.mono HBX6.out.size))
              have HBR7 := Lib.hid (HBR6.out.trans (hst7.mono HBR6.out.size))
              have HBo27 := Lib.hid (HBo26.out.trans (hst7.mono HBo26.out.size))
              have HBo37 := Lib.hid (HBo36.out.trans (hst7.mono HBo36.out.size))
              have HBo47 := Lib.hid (HBo46.out.trans (hst7.mono HBo46.out.size))
              have HBw7 := Lib.hid (HBw6.out.trans (hst7.mono HBw6.out.size))
              have HBff7 := Lib.hid (HBff6.out.trans (hst7.mono HBff6.out.size))
              have HBfx7 := Lib.hid (HBfx6.out.trans (hst7.mono HBfx6.out.size))
              have HBr27 := Lib.hid (HBr26.out.trans (hst7.mono HBr26.out.size))
              have HBs27 := Lib.hid (HBs2z.out.trans (hst7.mono HBs2z.out.size))
              clear hst7 HBx6 HBy6 HBX6 HBR6 HBo26 HBo36 HBo46 HBw6 HBff6 HBfx6 HBr26 HBs2z
              clear hwm HQ
              clear HBr27
              clear HBs27
              clear HBo27
              go_wp2_with fail
              refine (less_two (some ⟨g5, 0, none⟩) Ay _ (x.length + 80) _ cy x y w47 ((Pfx.out _ HBfx7.out).more HBfx7.out.size) ((Py.out _ HBy7.out).more HBy7.out.size) Sx.out Sy.out).mono ?_; rintro e w48 ⟨r3, Ar3, cr3, rfl, sr3, fr3, hsee, hbel, hcr3, hmr3⟩
              have Pr3 := Lib.hid (fun W (h : Below w48.heap.size w48 W) => hsee.below h)
              have Sr3 := Lib.hid sr3; have Fr3 := Lib.hid fr3
              have hst8 : Below w47.heap.size w47 w48 := hbel
              have HBx8 := Lib.hid (HBx7.out.trans (hst8.mono HBx7.out.size))
              have HBy8 := Lib.hid (HBy7.out.trans (hst8.mono HBy7.out.size))
              have HBX8 := Lib.hid (HBX7.out.trans (hst8.mono HBX7.out.size))
              have HBR8 := Lib.hid (HBR7.out.trans (hst8.mono HBR7.out.size))
              have HBo38 := Lib.hid (HBo37.out.trans (hst8.mono HBo37.out.size))
              have HBo48 := Lib.hid (HBo47.out.trans (hst8.mono HBo47.out.size))
              have HBw8 := Lib.hid (HBw7.out.trans (hst8.mono HBw7.out.size))
              have HBff8 := Lib.hid (HBff7.out.trans (hst8.mono HBff7.out.size))
              have HBfx8 := Lib.hid (HBfx7.out.trans (hst8.mono HBfx7.out.size))
              clear hst8 HBx7 HBy7 HBX7 HBR7 HBo37 HBo47 HBw7 HBff7 HBfx7
              clear hbel hsee sr3 fr3
              have HBr30 := Lib.hid (Below.refl w48.heap.size w48)
              obtain ⟨s3, hs3⟩ : ∃ l, spK (mixL (fun a b => a && !b) fa fb 60) 60 = l := ⟨_, rfl⟩
              have ss3 := spK_spl (mixL (fun a b => a && !b) fa fb 60)
              have fs3 := HLESS.out
              rw [hs3] at ss3
              simp only [hs3] at fs3
              have Ss3 := Lib.hid ss3; have Fs3 := Lib.hid fs3; have Hs3 := Lib.hid hs3
              clear ss3 fs3 hs3
              go_wp2_with fail
              refine (spans_any (some ⟨g3, 0, none⟩) 60 60 (mixL (fun a b => a && !b) fa fb 60) _ w48 ((Po3.out _ HBo38.out).more HBo38.out.size) (Nat.le_refl _) (by omega)).mono ?_; rintro e w49 ⟨As3, cs3, rfl, hown, hbel, hcs3, hms3⟩
              rw [Hs3.out] at hown hcs3
              rw [Hs3.out]
              have Ps3 := Lib.hid (fun W (h : Below w49.heap.size w49 W) => (Sees.of_own hown).below h)
              have hst9 : Below w48.heap.size w48 w49 := hbel
              have HBx9 := Lib.hid (HBx8.out.trans (hst9.mono HBx8.out.size))
              have HBy9 := Lib.hid (HBy8.out.trans (hst9.mono HBy8.out.size))
              have HBX9 := Lib.hid (HBX8.out.trans (hst9.mono HBX8.out.size))
              have HBR9 := Lib.hid (HBR8.out.trans (hst9.mono HBR8.out.size))
              have HBo39 := Lib.hid (HBo38.out.trans (hst9.mono HBo38.out.size))
              have HBo49 := Lib.hid (HBo48.out.trans (hst9.mono HBo48.out.size))
              have HBw9 := Lib.hid (HBw8.out.trans (hst9.mono HBw8.out.size))
              have HBff9 := Lib.hid (HBff8.out.trans (hst9.mono HBff8.out.size))
              have HBfx9 := Lib.hid (HBfx8.out.trans (hst9.mono HBfx8.out.size))
              have HBr39 := Lib.hid (HBr30.out.trans (hst9.mono HBr30.out.size))
              clear hst9 HBx8 HBy8 HBX8 HBR8 HBo38 HBo48 HBw8 HBff8 HBfx8 HBr30
              clear hbel hown
              have HBs3z := Lib.hid (Below.refl w49.heap.size w49)
              have hq : r3 = s3 := Sr3.out.eq Ss3.out fun t => by rw [Fr3.out t, Fs3.out t]
              have HQ := Lib.hid hq; clear hq
              go_wp2_with fail
              refine (same_spn Ar3 As3 _ cr3 _ cs3 _ _ r3 s3 w49 ((Pr3.out _ HBr39.out).more HBr39.out.size) ((Ps3.out _ HBs3z.out).more HBs3z.out.size) (by omega) (by omega)).mono ?_; rintro e w50 ⟨rfl, m, hwm⟩
              rw [decide_eq_true HQ.out]
              have hst10 : Below w49.heap.size w49 w50 := by rw [hwm]; exact below_drewN3 (Below.refl _ _) m
              have HBx10 := Lib.hid (HBx9.out.trans (hst10.mono HBx9.out.size))
              have HBy10 := Lib.hid (HBy9.out.trans (hst10.mono HBy9.out.size))
              have HBX10 := Lib.hid (HBX9.out.trans (hst10.mono HBX9.out.size))
              have HBR10 := Lib.hid (HBR9.out.trans (hst10.mono HBR9.out.size))
              have HBo310 := Lib.hid (HBo39.out.trans (hst10.mono HBo39.out.size))
              have HBo410 := Lib.hid (HBo49.out.trans (hst10.mono HBo49.out.size))
              have HBw10 := Lib.hid (HBw9.out.trans (hst10.mono HBw9.out.size))
              have HBff10 := Lib.hid (HBff9.out.trans (hst10.mono HBff9.out.size))
              have HBfx10 := Lib.hid (HBfx9.out.trans (hst10.mono HBfx9.out.size))
              have HBr310 := Lib.hid (HBr39.out.trans (hst10.mono HBr39.out.size))
              have HBs310 := Lib.hid (HBs3z.out.trans (hst10.mono HBs3z.out.size))
              clear hst10 HBx9 HBy9 HBX9 HBR9 HBo39 HBo49 HBw9 HBff9 HBfx9 HBr39 HBs3z
              clear hwm HQ
              clear HBr310
              clear HBs310
              clear HBo310
              go_wp2_with fail
              refine (intact_sp (some ⟨g5, 0, none⟩) Ax x.length (x.length + 80) cx x 9 0 w50 ((Pff.out _ HBff10.out).more HBff10.out.size) ((Px.out _ HBx10.out).more HBx10.out.size) (Nat.le_refl _) (by omega)).mono ?_; rintro e w51 ⟨rfl, hbel⟩
              have hst11 : Below w50.heap.size w50 w51 := hbel
              have HBx11 := Lib.hid (HBx10.out.trans (hst11.mono HBx10.out.size))
              have HBy11 := Lib.hid (HBy10.out.trans (hst11.mono HBy10.out.size))
              have HBX11 := Lib.hid (HBX10.out.trans (hst11.mono HBX10.out.size))
              have HBR11 := Lib.hid (HBR10.out.trans (hst11.mono HBR10.out.size))
              have HBo411 := Lib.hid (HBo410.out.trans (hst11.mono HBo410.out.size))
              have HBw11 := Lib.hid (HBw10.out.trans (hst11.mono HBw10.out.size))
              have HBff11 := Lib.hid (HBff10.out.trans (hst11.mono HBff10.out.size))
              have HBfx11 := Lib.hid (HBfx10.out.trans (hst11.mono HBfx10.out.size))
              clear hst11 HBx10 HBy10 HBX10 HBR10 HBo410 HBw10 HBff10 HBfx10
              clear hbel
              clear HBff11
              clear HBfx11
              clear HBy11
              go_upto_region 24 with fail
              have ZBx := Lib.hid (HBx11.out.drew)
              have ZBX := Lib.hid (HBX11.out.drew)
              have ZBR := Lib.hid (HBR11.out.drew)
              have ZBo4 := Lib.hid (HBo411.out.drew)
              have ZBw := Lib.hid (HBw11.out.drew)
              clear HBx11 HBX11 HBR11 HBo411 HBw11
              as_aux_lemma =>
                have hq59 : qn < 60 := by omega
                have hq59i : (qn : Int) < 60 := by omega
                have hq0n : (0 : Int) ≤ (qn : Int) := by omega
                obtain ⟨ad', hxi, hA1, hA2⟩ := (PX.out _ ZBX.out).bool hq59
                clear hA1 hA2
                have KEEP := Lib.hid (fun W (h : Below wr.heap.size wr W) => show W.cell? (adx.add qn) = some (.bool fa[qn]) from by
                  obtain ⟨_, _, e1, h1⟩ := (PX.out W h).bool hq59
                  injection e1 with e1; subst e1
                  exact h1)
                have HXQ := Lib.hid (show hasF x (qn : Int) = fa[qn] by rw [HXH.out qn hq59]; simp [List.getD_eq_getElem?_getD, List.getElem?_eq_getElem hxi])
                generalize fa[qn] = xq at *
                obtain ⟨os, hos⟩ : ∃ l, ofF zr = l := ⟨_, rfl⟩
                have HOS := Lib.hid hos
                obtain ⟨tl, htl⟩ : ∃ l, ticksL x = l := ⟨_, rfl⟩
                have HTL := Lib.hid htl
                have HOT := Lib.hid (show ofF tl = x by rw [← htl]; exact of_ticks Sx.out)
                have hcnt := ticksL_count (l := x) (fun y hy => (rise_mem Sx.out.rise hy).2)
                rw [htl, HNX.out] at hcnt
                have HTLL := Lib.hid (show tl.length = upTo fa 60 by omega)
                have HSR := Lib.hid Sx.out.right
                have HSC := Lib.hid Sx.out.clip
                have TK1 : Hid True := Lib.hid trivial
                have TK2 : Hid True := Lib.hid trivial
                obtain ⟨u, hu⟩ : ∃ u, upTo fa 60 = u := ⟨_, rfl⟩
                rw [hu] at HNX HTLL hnx hcnt
                rw [hu]
                have hub : ((u : Int) == (u : Int)) = true := by simp
                have hxqb : (xq == xq) = true := by simp
                have htl60 : tl.length ≤ 90000 := by omega
                clear hos htl hu hxi hcnt HOR HAND HLESS
                go_region_held3 (fun W => W.cell? (adx.add qn) = some (.bool xq)) (exact KEEP.out _ ZBX.out) (first
                  | (go_at_call 9; (have tk := ZBR.out; refine (of_any A3 _ c3 zr _ _ ((PR.out _ ZBR.out).more ZBR.out.size) (Nat.le_refl _) (by omega)).mono ?_; rintro e w61 ⟨A61, c61, rfl, hown, hbel, h611, h612⟩; rw [HOS.out] at hown h611; rw [HOS.out]; have PS1 := Lib.hid (Sees.of_own hown); (try replace ZBx := Lib.hid (ZBx.out.trans (hbel.mono ZBx.out.size))); (try replace ZBX := Lib.hid (ZBX.out.trans (hbel.mono ZBX.out.size))); (try replace ZBR := Lib.hid (ZBR.out.trans (hbel.mono ZBR.out.size))); (try replace ZBo4 := Lib.hid (ZBo4.out.trans (hbel.mono ZBo4.out.size))); (try replace ZBw := Lib.hid (ZBw.out.trans (hbel.mono ZBw.out.size))); clear ZBR PR hown tk hbel))
                  | (go_at_call 17; (refine (spans_any (some ⟨g4, 0, none⟩) 200 200 (inF zr) _ _ ((Po4.out _ ZBo4.out).more ZBo4.out.size) (Nat.le_refl _) (by omega)).mono ?_; rintro e w62 ⟨A62, c62, rfl, hown, hbel, h621, h622⟩; rw [inF_spans, HOS.out] at hown h621; rw [inF_spans, HOS.out]; have PS2 := Lib.hid (Sees.of_own hown); replace PS1 := Lib.hid (PS1.out.below hbel); (try replace ZBx := Lib.hid (ZBx.out.trans (hbel.mono ZBx.out.size))); (try replace ZBX := Lib.hid (ZBX.out.trans (hbel.mono ZBX.out.size))); (try replace ZBR := Lib.hid (ZBR.out.trans (hbel.mono ZBR.out.size))); (try replace ZBo4 := Lib.hid (ZBo4.out.trans (hbel.mono ZBo4.out.size))); (try replace ZBw := Lib.hid (ZBw.out.trans (hbel.mono ZBw.out.size))); clear ZBo4 Po4 hown hbel))
                  | (go_at_call 10; (have tk := PS2.out; refine (same_spn A61 A62 _ c61 _ c62 _ _ os os _ PS1.out PS2.out (by omega) (by omega)).mono ?_; rintro e w63 ⟨rfl, m, hwm⟩; rw [decide_eq_true (rfl : os = os)]; have hbel := below_drewN3 (Below.refl w62.heap.size w62) m; rw [← hwm] at hbel; (try replace ZBx := Lib.hid (ZBx.out.trans (hbel.mono ZBx.out.size))); (try replace ZBX := Lib.hid (ZBX.out.trans (hbel.mono ZBX.out.size))); (try replace ZBR := Lib.hid (ZBR.out.trans (hbel.mono ZBR.out.size))); (try replace ZBo4 := Lib.hid (ZBo4.out.trans (hbel.mono ZBo4.out.size))); (try replace ZBw := Lib.hid (ZBw.out.trans (hbel.mono ZBw.out.size))); clear PS1 PS2 hwm hbel tk))
                  | (go_at_call 20; (refine (right_any Ax _ cx x _ _ ((Px.out _ ZBx.out).more ZBx.out.size) (Nat.le_refl _) hcx (by omega)).mono ?_; rintro e w64 ⟨rfl, hbel⟩; rw [HSR.out]; (try replace ZBx := Lib.hid (ZBx.out.trans (hbel.mono ZBx.out.size))); (try replace ZBX := Lib.hid (ZBX.out.trans (hbel.mono ZBX.out.size))); (try replace ZBR := Lib.hid (ZBR.out.trans (hbel.mono ZBR.out.size))); (try replace ZBo4 := Lib.hid (ZBo4.out.trans (hbel.mono ZBo4.out.size))); (try replace ZBw := Lib.hid (ZBw.out.trans (hbel.mono ZBw.out.size))); clear hbel))
                  | (go_at_call 12; (refine (count_any Ax _ cx x _ _ ((Px.out _ ZBx.out).more ZBx.out.size) (Nat.le_refl _) (by omega)).mono ?_; rintro e w65 ⟨rfl, hbel⟩; rw [HSC.out, HNX.out]; (try replace ZBx := Lib.hid (ZBx.out.trans (hbel.mono ZBx.out.size))); (try replace ZBX := Lib.hid (ZBX.out.trans (hbel.mono ZBX.out.size))); (try replace ZBR := Lib.hid (ZBR.out.trans (hbel.mono ZBR.out.size))); (try replace ZBo4 := Lib.hid (ZBo4.out.trans (hbel.mono ZBo4.out.size))); (try replace ZBw := Lib.hid (ZBw.out.trans (hbel.mono ZBw.out.size))); clear hbel))
                  | (go_at_call 21; (have tk := HXQ.out; refine (has_any Ax _ cx x (qn : Int) _ _ ((Px.out _ ZBx.out).more ZBx.out.size) (Nat.le_refl _) (by omega)).mono ?_; rintro e w66 ⟨rfl, hbel⟩; rw [HXQ.out]; (try replace ZBx := Lib.hid (ZBx.out.trans (hbel.mono ZBx.out.size))); (try replace ZBX := Lib.hid (ZBX.out.trans (hbel.mono ZBX.out.size))); (try replace ZBR := Lib.hid (ZBR.out.trans (hbel.mono ZBR.out.size))); (try replace ZBo4 := Lib.hid (ZBo4.out.trans (hbel.mono ZBo4.out.size))); (try replace ZBw := Lib.hid (ZBw.out.trans (hbel.mono ZBw.out.size))); clear HXQ hbel tk))
                  | (go_at_call 21; (have tk := HX0.out; refine (has_any Ax _ cx x (-1) _ _ ((Px.out _ ZBx.out).more ZBx.out.size) (Nat.le_refl _) (by omega)).mono ?_; rintro e w67 ⟨rfl, hbel⟩; rw [HX0.out]; (try replace ZBx := Lib.hid (ZBx.out.trans (hbel.mono ZBx.out.size))); (try replace ZBX := Lib.hid (ZBX.out.trans (hbel.mono ZBX.out.size))); (try replace ZBR := Lib.hid (ZBR.out.trans (hbel.mono ZBR.out.size))); (try replace ZBo4 := Lib.hid (ZBo4.out.trans (hbel.mono ZBo4.out.size))); (try replace ZBw := Lib.hid (ZBw.out.trans (hbel.mono ZBw.out.size))); clear HX0 hbel tk))
                  | (go_at_call 21; (have tk := HX60.out; refine (has_any Ax _ cx x 60 _ _ ((Px.out _ ZBx.out).more ZBx.out.size) (Nat.le_refl _) (by omega)).mono ?_; rintro e w68 ⟨rfl, hbel⟩; rw [HX60.out]; (try replace ZBx := Lib.hid (ZBx.out.trans (hbel.mono ZBx.out.size))); (try replace ZBX := Lib.hid (ZBX.out.trans (hbel.mono ZBX.out.size))); (try replace ZBR := Lib.hid (ZBR.out.trans (hbel.mono ZBR.out.size))); (try replace ZBo4 := Lib.hid (ZBo4.out.trans (hbel.mono ZBo4.out.size))); (try replace ZBw := Lib.hid (ZBw.out.trans (hbel.mono ZBw.out.size))); clear HX60 hbel tk))
                  | (go_at_call 22; (have tk := TK1.out; refine (ticks_any Ax _ cx x _ _ ((Px.out _ ZBx.out).more ZBx.out.size) (Nat.le_refl _) (by omega)).mono ?_; rintro e w69 ⟨A69, c69, rfl, hown, hbel, h691, h692⟩; rw [HSC.out, HTL.out] at hown; rw [HSC.out, HTL.out]; have PT := Lib.hid (Sees.of_own hown); (try replace ZBx := Lib.hid (ZBx.out.trans (hbel.mono ZBx.out.size))); (try replace ZBX := Lib.hid (ZBX.out.trans (hbel.mono ZBX.out.size))); (try replace ZBR := Lib.hid (ZBR.out.trans (hbel.mono ZBR.out.size))); (try replace ZBo4 := Lib.hid (ZBo4.out.trans (hbel.mono ZBo4.out.size))); (try replace ZBw := Lib.hid (ZBw.out.trans (hbel.mono ZBw.out.size))); clear TK1 hown hbel tk))
                  | (go_at_call 9; (have tk := PT.out; refine (of_any A69 _ c69 tl _ _ PT.out (Nat.le_refl _) (by omega)).mono ?_; rintro e w70 ⟨A70, c70, rfl, hown, hbel, h701, h702⟩; rw [HOT.out] at hown h701; rw [HOT.out]; have PS3 := Lib.hid (Sees.of_own hown); (try replace ZBx := Lib.hid (ZBx.out.trans (hbel.mono ZBx.out.size))); (try replace ZBX := Lib.hid (ZBX.out.trans (hbel.mono ZBX.out.size))); (try replace ZBR := Lib.hid (ZBR.out.trans (hbel.mono ZBR.out.size))); (try replace ZBo4 := Lib.hid (ZBo4.out.trans (hbel.mono ZBo4.out.size))); (try replace ZBw := Lib.hid (ZBw.out.trans (hbel.mono ZBw.out.size))); clear PT hown hbel tk))
                  | (go_at_call 10; (have tk := PS3.out; refine (same_spn A70 Ax _ c70 _ cx _ _ x x _ PS3.out ((Px.out _ ZBx.out).more ZBx.out.size) (by omega) (by omega)).mono ?_; rintro e w71 ⟨rfl, m, hwm⟩; rw [decide_eq_true (rfl : x = x)]; have hbel := below_drewN3 (Below.refl w70.heap.size w70) m; rw [← hwm] at hbel; (try replace ZBx := Lib.hid (ZBx.out.trans (hbel.mono ZBx.out.size))); (try replace ZBX := Lib.hid (ZBX.out.trans (hbel.mono ZBX.out.size))); (try replace ZBR := Lib.hid (ZBR.out.trans (hbel.mono ZBR.out.size))); (try replace ZBo4 := Lib.hid (ZBo4.out.trans (hbel.mono ZBo4.out.size))); (try replace ZBw := Lib.hid (ZBw.out.trans (hbel.mono ZBw.out.size))); clear PS3 hwm hbel tk))
                  | (go_at_call 22; (have tk := TK2.out; refine (ticks_any Ax _ cx x _ _ ((Px.out _ ZBx.out).more ZBx.out.size) (Nat.le_refl _) (by omega)).mono ?_; rintro e w72 ⟨A72, c72, rfl, hown, hbel, h721, h722⟩; rw [HSC.out, HTL.out, HTLL.out]; (try replace ZBx := Lib.hid (ZBx.out.trans (hbel.mono ZBx.out.size))); (try replace ZBX := Lib.hid (ZBX.out.trans (hbel.mono ZBX.out.size))); (try replace ZBR := Lib.hid (ZBR.out.trans (hbel.mono ZBR.out.size))); (try replace ZBo4 := Lib.hid (ZBo4.out.trans (hbel.mono ZBo4.out.size))); (try replace ZBw := Lib.hid (ZBw.out.trans (hbel.mono ZBw.out.size))); clear TK2 hown hbel tk))
                  | (go_at_call 3; (refine (span_runs _).mono ?_; rintro e w73 ⟨rfl, hbel⟩; (try replace ZBx := Lib.hid (ZBx.out.trans (hbel.mono ZBx.out.size))); (try replace ZBX := Lib.hid (ZBX.out.trans (hbel.mono ZBX.out.size))); (try replace ZBR := Lib.hid (ZBR.out.trans (hbel.mono ZBR.out.size))); (try replace ZBo4 := Lib.hid (ZBo4.out.trans (hbel.mono ZBo4.out.size))); (try replace ZBw := Lib.hid (ZBw.out.trans (hbel.mono ZBw.out.size))); clear hbel)))
                all_goals
                  go_wp2_with fail
                  go_ret
                  exact ⟨rfl, ZBw.out⟩
      | succ g =>
        have hk60 : k < 60 := by omega
        have hki : (k : Int) < 60 := by omega
        have hup := upTo_le fa k
        obtain ⟨ad', hxi, hA, hcx⟩ := (PXB.out _ HB.out).bool hk60
        injection hA with hA; subst hA
        obtain ⟨ad', hyi, hA, hcy⟩ := (PYB.out _ HB.out).bool hk60
        injection hA with hA; subst hA
        have hgx : fa.getD k false = fa[k] := by simp [List.getD_eq_getElem?_getD, List.getElem?_eq_getElem hxi]
        have hgy : fb.getD k false = fb[k] := by simp [List.getD_eq_getElem?_getD, List.getElem?_eq_getElem hyi]
        have HUP := Lib.hid (show upTo fa (k + 1) = upTo fa k + if fa[k] = true then 1 else 0 by rw [upTo, hgx])
        have KEEP := Lib.hid (fun W (h : Below w2.heap.size w2 W) => show W.cell? (adx.add k) = some (.bool fa[k]) ∧ W.cell? (ady.add k) = some (.bool fb[k]) from by
          obtain ⟨_, _, e1, h1⟩ := (PXB.out W h).bool hk60
          injection e1 with e1; subst e1
          obtain ⟨_, _, e2, h2⟩ := (PYB.out W h).bool hk60
          injection e2 with e2; subst e2
          exact ⟨h1, h2⟩)
        have d1 : wr.cell? ⟨g1, k, none⟩ = some (.bool ((midL (fun a b => a || b) fa fb k)[k]'(by rw [midL_len _ _ _ (by omega)]; omega))) := by rw [HK1.out.cell, bools_get _ _ (by rw [midL_len _ _ _ (by omega)]; omega)]
        have d2 : wr.cell? ⟨g2, k, none⟩ = some (.bool ((midL (fun a b => a && b) fa fb k)[k]'(by rw [midL_len _ _ _ (by omega)]; omega))) := by rw [HK2.out.cell, bools_get _ _ (by rw [midL_len _ _ _ (by omega)]; omega)]
        have d3 : wr.cell? ⟨g3, k, none⟩ = some (.bool ((midL (fun a b => a && !b) fa fb k)[k]'(by rw [midL_len _ _ _ (by omega)]; omega))) := by rw [HK3'.out.cell, bools_get _ _ (by rw [midL_len _ _ _ (by omega)]; omega)]
        have z1 : wr.frozen? ⟨g1, k, none⟩ = false := HK1.out.frozen k
        have z2 : wr.frozen? ⟨g2, k, none⟩ = false := HK2.out.frozen k
        have z3 : wr.frozen? ⟨g3, k, none⟩ = false := HK3'.out.frozen k
        generalize (midL (fun a b => a || b) fa fb k)[k]'(by rw [midL_len _ _ _ (by omega)]; omega) = o1 at d1
        generalize (midL (fun a b => a && b) fa fb k)[k]'(by rw [midL_len _ _ _ (by omega)]; omega) = o2 at d2
        generalize (midL (fun a b => a && !b) fa fb k)[k]'(by rw [midL_len _ _ _ (by omega)]; omega) = o3 at d3
        generalize fa[k] = bx at *
        generalize fb[k] = by_ at *
        have hxg : adx.block < w2.heap.size := by obtain ⟨ad, e, h, _⟩ := (PXB.out w2 (Below.refl _ _)).at_ (by omega); injection e with e; subst e; exact h
        have hne1 : g1 ≠ adx.block := by omega
        have hne2 : g2 ≠ adx.block := by omega
        have hne3 : g3 ≠ adx.block := by omega
        cases bx with
        | false =>
          cases by_ with
          | false => as_aux_lemma =>
            have H1 := Lib.hid (midL_set (fun a b => a || b) fa fb hk60 hgx hgy (v := false) rfl)
            have H2 := Lib.hid (midL_set (fun a b => a && b) fa fb hk60 hgx hgy (v := false) rfl)
            have H3 := Lib.hid (midL_set (fun a b => a && !b) fa fb hk60 hgx hgy (v := false) rfl)
            have HBD := Lib.hid HB.out.drew
            have Q1 := Lib.hid (show Blk (((wr.drew.setCell ⟨g1, k, none⟩ (.bool false)).setCell ⟨g2, k, none⟩ (.bool false)).setCell ⟨g3, k, none⟩ (.bool false)) g1 4 (bools (midL (fun a b => a || b) fa fb (k + 1))) by rw [← H1.out]; exact (((HK1.out.drewN 1).set k _).far h12 _).far h13 _)
            have Q2 := Lib.hid (show Blk (((wr.drew.setCell ⟨g1, k, none⟩ (.bool false)).setCell ⟨g2, k, none⟩ (.bool false)).setCell ⟨g3, k, none⟩ (.bool false)) g2 4 (bools (midL (fun a b => a && b) fa fb (k + 1))) by rw [← H2.out]; exact (((HK2.out.drewN 1).far h12.symm _).set k _).far h23 _)
            have Q3 := Lib.hid (show Blk (((wr.drew.setCell ⟨g1, k, none⟩ (.bool false)).setCell ⟨g2, k, none⟩ (.bool false)).setCell ⟨g3, k, none⟩ (.bool false)) g3 4 (bools (midL (fun a b => a && !b) fa fb (k + 1))) by rw [← H3.out]; exact (((HK3'.out.drewN 1).far h13.symm _).far h23.symm _).set k _)
            have HBS1 := Lib.hid (HBD.out.setCell (p := ⟨g1, k, none⟩) hg1 (.bool false))
            have HBS2 := Lib.hid (HBS1.out.setCell (p := ⟨g2, k, none⟩) hg2 (.bool false))
            have HBS := Lib.hid (HBS2.out.setCell (p := ⟨g3, k, none⟩) hg3 (.bool false))
            have hcz := (KEEP.out _ (((HB.out.setCell (p := ⟨g1, k, none⟩) hg1 (.bool false)).setCell (p := ⟨g2, k, none⟩) hg2 (.bool false)).setCell (p := ⟨g3, k, none⟩) hg3 (.bool false))).1
            clear hgx hgy H1 H2 H3 HK1 HK2 HK3' HB HOR HAND HLESS
            go_wp2_with fail
            go_region
            all_goals
              go_wp2_with fail
              go_roundg g
              case measure => omega
              case rel => exact ⟨k + 1, by omega, by go_num, by rw [HUP.out]; simp, Q1.out, Q2.out, Q3.out, HBS.out⟩
          | true => as_aux_lemma =>
            have H1 := Lib.hid (midL_set (fun a b => a || b) fa fb hk60 hgx hgy (v := true) rfl)
            have H2 := Lib.hid (midL_set (fun a b => a && b) fa fb hk60 hgx hgy (v := false) rfl)
            have H3 := Lib.hid (midL_set (fun a b => a && !b) fa fb hk60 hgx hgy (v := false) rfl)
            have HBD := Lib.hid HB.out.drew
            have Q1 := Lib.hid (show Blk (((wr.drew.setCell ⟨g1, k, none⟩ (.bool true)).setCell ⟨g2, k, none⟩ (.bool false)).setCell ⟨g3, k, none⟩ (.bool false)) g1 4 (bools (midL (fun a b => a || b) fa fb (k + 1))) by rw [← H1.out]; exact (((HK1.out.drewN 1).set k _).far h12 _).far h13 _)
            have Q2 := Lib.hid (show Blk (((wr.drew.setCell ⟨g1, k, none⟩ (.bool true)).setCell ⟨g2, k, none⟩ (.bool false)).setCell ⟨g3, k, none⟩ (.bool false)) g2 4 (bools (midL (fun a b => a && b) fa fb (k + 1))) by rw [← H2.out]; exact (((HK2.out.drewN 1).far h12.symm _).set k _).far h23 _)
            have Q3 := Lib.hid (show Blk (((wr.drew.setCell ⟨g1, k, none⟩ (.bool true)).setCell ⟨g2, k, none⟩ (.bool false)).setCell ⟨g3, k, none⟩ (.bool false)) g3 4 (bools (midL (fun a b => a && !b) fa fb (k + 1))) by rw [← H3.out]; exact (((HK3'.out.drewN 1).far h13.symm _).far h23.symm _).set k _)
            have HBS1 := Lib.hid (HBD.out.setCell (p := ⟨g1, k, none⟩) hg1 (.bool true))
            have HBS2 := Lib.hid (HBS1.out.setCell (p := ⟨g2, k, none⟩) hg2 (.bool false))
            have HBS := Lib.hid (HBS2.out.setCell (p := ⟨g3, k, none⟩) hg3 (.bool false))
            have hcz := (KEEP.out _ (((HB.out.setCell (p := ⟨g1, k, none⟩) hg1 (.bool true)).setCell (p := ⟨g2, k, none⟩) hg2 (.bool false)).setCell (p := ⟨g3, k, none⟩) hg3 (.bool false))).1
            clear hgx hgy H1 H2 H3 HK1 HK2 HK3' HB HOR HAND HLESS
            go_wp2_with fail
            go_region
            all_goals
              go_wp2_with fail
              go_roundg g
              case measure => omega
              case rel => exact ⟨k + 1, by omega, by go_num, by rw [HUP.out]; simp, Q1.out, Q2.out, Q3.out, HBS.out⟩
        | true =>
          cases by_ with
          | false => as_aux_lemma =>
            have H1 := Lib.hid (midL_set (fun a b => a || b) fa fb hk60 hgx hgy (v := true) rfl)
            have H2 := Lib.hid (midL_set (fun a b => a && b) fa fb hk60 hgx hgy (v := false) rfl)
            have H3 := Lib.hid (midL_set (fun a b => a && !b) fa fb hk60 hgx hgy (v := true) rfl)
            have HBD := Lib.hid HB.out.drew
            have Q1 := Lib.hid (show Blk (((wr.drew.setCell ⟨g1, k, none⟩ (.bool true)).setCell ⟨g2, k, none⟩ (.bool false)).setCell ⟨g3, k, none⟩ (.bool true)) g1 4 (bools (midL (fun a b => a || b) fa fb (k + 1))) by rw [← H1.out]; exact (((HK1.out.drewN 1).set k _).far h12 _).far h13 _)
            have Q2 := Lib.hid (show Blk (((wr.drew.setCell ⟨g1, k, none⟩ (.bool true)).setCell ⟨g2, k, none⟩ (.bool false)).setCell ⟨g3, k, none⟩ (.bool true)) g2 4 (bools (midL (fun a b => a && b) fa fb (k + 1))) by rw [← H2.out]; exact (((HK2.out.drewN 1).far h12.symm _).set k _).far h23 _)
            have Q3 := Lib.hid (show Blk (((wr.drew.setCell ⟨g1, k, none⟩ (.bool true)).setCell ⟨g2, k, none⟩ (.bool false)).setCell ⟨g3, k, none⟩ (.bool true)) g3 4 (bools (midL (fun a b => a && !b) fa fb (k + 1))) by rw [← H3.out]; exact (((HK3'.out.drewN 1).far h13.symm _).far h23.symm _).set k _)
            have HBS1 := Lib.hid (HBD.out.setCell (p := ⟨g1, k, none⟩) hg1 (.bool true))
            have HBS2 := Lib.hid (HBS1.out.setCell (p := ⟨g2, k, none⟩) hg2 (.bool false))
            have HBS := Lib.hid (HBS2.out.setCell (p := ⟨g3, k, none⟩) hg3 (.bool true))
            have hcz := (KEEP.out _ (((HB.out.setCell (p := ⟨g1, k, none⟩) hg1 (.bool true)).setCell (p := ⟨g2, k, none⟩) hg2 (.bool false)).setCell (p := ⟨g3, k, none⟩) hg3 (.bool true))).1
            clear hgx hgy H1 H2 H3 HK1 HK2 HK3' HB HOR HAND HLESS
            go_wp2_with fail
            go_region
            all_goals
              go_wp2_with fail
              go_roundg g
              case measure => omega
              case rel => exact ⟨k + 1, by omega, by go_num, by rw [HUP.out]; simp, Q1.out, Q2.out, Q3.out, HBS.out⟩
          | true => as_aux_lemma =>
            have H1 := Lib.hid (midL_set (fun a b => a || b) fa fb hk60 hgx hgy (v := true) rfl)
            have H2 := Lib.hid (midL_set (fun a b => a && b) fa fb hk60 hgx hgy (v := true) rfl)
            have H3 := Lib.hid (midL_set (fun a b => a && !b) fa fb hk60 hgx hgy (v := false) rfl)
            have HBD := Lib.hid HB.out.drew
            have Q1 := Lib.hid (show Blk (((wr.drew.setCell ⟨g1, k, none⟩ (.bool true)).setCell ⟨g2, k, none⟩ (.bool true)).setCell ⟨g3, k, none⟩ (.bool false)) g1 4 (bools (midL (fun a b => a || b) fa fb (k + 1))) by rw [← H1.out]; exact (((HK1.out.drewN 1).set k _).far h12 _).far h13 _)
            have Q2 := Lib.hid (show Blk (((wr.drew.setCell ⟨g1, k, none⟩ (.bool true)).setCell ⟨g2, k, none⟩ (.bool true)).setCell ⟨g3, k, none⟩ (.bool false)) g2 4 (bools (midL (fun a b => a && b) fa fb (k + 1))) by rw [← H2.out]; exact (((HK2.out.drewN 1).far h12.symm _).set k _).far h23 _)
            have Q3 := Lib.hid (show Blk (((wr.drew.setCell ⟨g1, k, none⟩ (.bool true)).setCell ⟨g2, k, none⟩ (.bool true)).setCell ⟨g3, k, none⟩ (.bool false)) g3 4 (bools (midL (fun a b => a && !b) fa fb (k + 1))) by rw [← H3.out]; exact (((HK3'.out.drewN 1).far h13.symm _).far h23.symm _).set k _)
            have HBS1 := Lib.hid (HBD.out.setCell (p := ⟨g1, k, none⟩) hg1 (.bool true))
            have HBS2 := Lib.hid (HBS1.out.setCell (p := ⟨g2, k, none⟩) hg2 (.bool true))
            have HBS := Lib.hid (HBS2.out.setCell (p := ⟨g3, k, none⟩) hg3 (.bool false))
            have hcz := (KEEP.out _ (((HB.out.setCell (p := ⟨g1, k, none⟩) hg1 (.bool true)).setCell (p := ⟨g2, k, none⟩) hg2 (.bool true)).setCell (p := ⟨g3, k, none⟩) hg3 (.bool false))).1
            clear hgx hgy H1 H2 H3 HK1 HK2 HK3' HB HOR HAND HLESS
            go_wp2_with fail
            go_region
            all_goals
              go_wp2_with fail
              go_roundg g
              case measure => omega
              case rel => exact ⟨k + 1, by omega, by go_num, by rw [HUP.out]; simp, Q1.out, Q2.out, Q3.out, HBS.out⟩
end Go.Proofs.Ytakgkggkfdbejaa
