/- The walk of SeriesParts, out of the contracts. -/
import Derived.Test.YtopcoopgfaijdaaSamples
import Derived.Test.YtopcoopgfaijdaaSeriesAdd2
namespace Go.Proofs.Ytopcoopgfaijdaa
open Go.ChangeShapes Go.WideShapes Go.ChangeAt Go.RowKit
set_option linter.unusedVariables false
set_option maxRecDepth 100000
theorem SerAt.only {ss : List (Int × Int)} {w w' : World} {g g' : Nat} {v : Value} (h : SerAt ss w g v) (ho : Only g' w w') (hg : g ≠ g') (hv : v.ownBlock ≠ some g') : SerAt ss w' g v :=
  ⟨(ho.block g h.1.lt hg).trans h.1, ho.own h.2 hv⟩
theorem Only.trans {g : Nat} {a b c : World} (h : Only g a b) (k : Only g b c) : Only g a c :=
  ⟨k.os.trans h.os, k.tape.trans h.tape, k.output.trans h.output, Nat.le_trans h.size k.size, fun i hi hg => (k.block i (Nat.lt_of_lt_of_le hi h.size) hg).trans (h.block i hi hg)⟩
theorem rises_less {a a' b : Int} {xs : List (Int × Int)} (h : Rises a b xs) (ha : a' ≤ a) : Rises a' b xs := by
  cases xs with
  | nil => trivial
  | cons x xs => exact ⟨by have := h.1; omega, h.2⟩
theorem add_one {L : List (Int × Int)} (h : Rises 0 240 L) (hl : L.length ≤ 20) (j : Nat) (hj : j < L.length) : addErr (lastT (L.take j)) (L.take j).length [L[j]] = 0 := by
  have h1 := rises_get h j hj
  have h3 : lastT (L.take j) < L[j].1 := by
    unfold lastT
    cases j with
    | zero => simp only [List.take_zero, List.getD_nil]; omega
    | succ i =>
      have hl2 : (L.take (i + 1)).length = i + 1 := by rw [List.length_take]; omega
      rw [hl2, Nat.add_sub_cancel, List.getD_eq_getElem?_getD, List.getElem?_eq_getElem (by omega), Option.getD_some, List.getElem_take]
      exact rises_lt h i (i + 1) (by omega) hj
  have hl3 : (L.take j).length = j := by rw [List.length_take]; omega
  rw [hl3]
  generalize L[j] = p at *
  obtain ⟨y, z⟩ := p
  simp only at h1 h3
  rw [addErr_next (by omega) (by omega) (by omega) (by omega)]
  rfl
theorem add_late {L : List (Int × Int)} (h : Rises 0 240 L) {j i : Nat} (hl : L.length = j + 1) (hj : j + 1 ≤ 20) (hi : i < L.length) (y z y2 z2 : Int) (hy : L[j]'(by omega) = (y, z)) (h2 : L[i] = (y2, z2)) :
    addErr (lastT L) L.length [(y + 1, 0), (y + 2, 0), (y2, z2)] = 2 := by
  have h3 : lastT L = y := by
    unfold lastT
    rw [hl, Nat.add_sub_cancel, List.getD_eq_getElem?_getD, List.getElem?_eq_getElem (by omega), Option.getD_some, hy]
  have h4 := rises_get h j (by omega)
  rw [hy] at h4
  have h5 : y2 ≤ y := by
    rcases Nat.lt_or_ge i j with h6 | h6
    · have := rises_lt h i j h6 (by omega); rw [hy, h2] at this; simp only at this; omega
    · have : i = j := by omega
      subst this; rw [hy] at h2; injection h2 with h2 _; omega
  have h7 := rises_get h i hi
  rw [h2] at h7
  simp only at h4 h7
  rw [h3, addErr_next (by omega) (by omega) (by omega) (by omega), addErr_next (by omega) (by omega) (by omega) (by omega), addErr_order (by omega) (by omega) (by omega)]
theorem parts_at {L : List (Int × Int)} (h : Rises 0 240 L) (t : Int) : nAhd L 0 = 0 ∧ nBeh L 1099511627776 = L.length ∧ nBeh L (t - 1) = nAhd L t := by
  refine ⟨nAhd_of (Nat.zero_le _) (fun i _ hi => absurd hi (Nat.not_lt_zero _)) (fun h0 => ?_), nBeh_of (Nat.le_refl _) (fun i hi _ => ?_) (fun h0 => absurd h0 (Nat.lt_irrefl _)), ?_⟩
  · have := (rises_get h 0 h0).1; omega
  · have := (rises_get h i hi).2; omega
  · unfold nBeh nAhd
    congr 2
    funext x
    exact decide_eq_decide.mpr (by omega)
set_option maxHeartbeats 16000000 in
theorem series_parts (A : Option Addr) (n c : Nat) (t0 a0 : Int) (zs : List Int) (w : World) (hl : Sees w w.heap.size 1 A n (ints zs)) (hz : ∀ z ∈ zs, I64 z) (hn : n ≤ 9223372036854775807) (wt : I64 t0) (wa : I64 a0) :
    Calls Try.prog 4 #[.slice A n c, .int .i64 t0, .int .i64 a0] w fun e w' => e = .returned (.bool true) ∧ Below w.heap.size w w' := by
  have HSM := Lib.hid (samples_any A n c zs w hl hz hn)
  have hlen : (samplesOf 0 (zs.take 20)).length = min n 20 := by rw [samplesOf_length, List.length_take, hl.int_len]; omega
  have hri := samplesOf_rises 0 (zs.take 20) 240 (by rw [List.length_take]; omega)
  have hm20 : min n 20 ≤ 20 := Nat.min_le_right _ _
  generalize samplesOf 0 (zs.take 20) = L at *
  generalize min n 20 = m at *
  have HLL := Lib.hid hlen; have HRS := Lib.hid hri
  have WT := Lib.hid wt; have WA := Lib.hid wa
  clear hl hz hn hlen hri wt wa
  obtain ⟨i0, hi, hz0, hz1, hz2⟩ := info_parts Try.infoSmp
  have HI0 := Lib.hid hi; have HZ0 := Lib.hid hz0; have HZ1 := Lib.hid hz1; have HZ2 := Lib.hid hz2
  clear hi hz0 hz1 hz2
  obtain ⟨ht1, ht2⟩ := nWithin_in t0 (lo := 0) (hi := 260) (by omega)
  go_enter Try.func4, Try.ntmps4
  go_wp2_with fail
  refine HSM.out.mono ?_; rintro e w1 ⟨A1, c1, rfl, hown1, hbel1, hc1, hc2⟩
  obtain ⟨wA, hwA⟩ : ∃ wA, wA = w1.alloc (.cells #[.slice none 0 0] 24) := ⟨_, rfl⟩
  obtain ⟨g, hg⟩ : ∃ g, g = w1.heap.size := ⟨_, rfl⟩
  have hbA : Below w1.heap.size w1 wA := by rw [hwA]; exact (Below.refl _ _).alloc (Nat.le_refl _) _
  have hbB : Below wA.heap.size wA (wA.alloc (.cells #[.slice none 0 0] 24)) := (Below.refl _ _).alloc (Nat.le_refl _) _
  have hsA : wA.heap.size = g + 1 := by rw [hwA, hg]; simp
  have hsB : (wA.alloc (.cells #[.slice none 0 0] 24)).heap.size = g + 2 := by simp [hsA]
  have hA0 : SerAt [] wA g (.slice none 0 0) := by rw [hwA, hg]; exact new_ser
  have HA0 := Lib.hid (hA0.below hbB)
  have hB0 : SerAt [] (wA.alloc (.cells #[.slice none 0 0] 24)) (g + 1) (.slice none 0 0) := by rw [← hsA]; exact new_ser
  have HB0 := Lib.hid hB0
  have HO1 := Lib.hid (own_below (own_below hown1 hbA (Nat.le_refl _)) hbB (by rw [hsA]; omega))
  have HLB := Lib.hid (fun k (h : Value.ownBlock (.slice A1 m c1) = some k) => show k < g by rw [hg]; exact (hown1.lt k h).2)
  have hs1 := hbel1.size
  have HW0 := Lib.hid ((hbel1.trans (hbA.mono hs1)).trans (hbB.mono (by rw [hsA]; omega)))
  have HSB := Lib.hid hsB
  have HWA := Lib.hid hwA; have HG := Lib.hid hg
  have hgw : w.heap.size ≤ g := by omega
  clear hown1 hbel1 hbA hbB HSM hA0 hB0 hsA hsB hwA hg hs1
  go_wp2_with fail
  rw [← HWA.out, ← HG.out]
  refine (add_all [] L g _ A1 m c1 _ HA0.out (by simp) (Sees.of_own HO1.out) (by omega) hc1 hc2).mono ?_
  rintro e w2 ⟨va, hfr, rfl, hat2, ho2⟩
  have h0 : addErr (lastT []) ([] : List (Int × Int)).length L = 0 := rises_add (rises_less HRS.out (by decide)) (by decide) (by decide) (by rw [HLL.out]; simp; omega)
  rw [h0] at hat2
  rw [h0]
  have hat3 : SerAt L w2 g va := hat2
  have hva : va.ownBlock ≠ some (g + 1) := by
    intro he
    rcases hfr with rfl | h
    · cases he
    · have := h _ he; rw [HSB.out] at this; omega
  have HVA := Lib.hid hva
  have HA2 := Lib.hid hat3
  have HB2 := Lib.hid (HB0.out.only ho2 (by omega) (by simp [Value.ownBlock]))
  have HW2 := Lib.hid (HW0.out.trans (ho2.below hgw (HW0.out.size)))
  have HO2 := Lib.hid (ho2.own HO1.out (fun e => by have := HLB.out _ e; omega))
  have HNL : Hid (Value.ownBlock (.slice A1 m c1) ≠ some (g + 1)) := fun e => by have := HLB.out _ e; omega
  have HNG : Hid (Value.ownBlock (.slice A1 m c1) ≠ some g) := fun e => by have := HLB.out _ e; omega
  clear hat2 hat3 ho2 h0 HA0 HB0 HO1 HW0 hva hfr HSB HWA HLB
  go_wp2_with fail
  go_loopw [24] (fun i wr => ∃ (j : Nat) (vb : Value), j ≤ m ∧ i = .int .i64 j ∧ SerAt (L.take j) wr (g + 1) vb ∧ Only (g + 1) w2 wr) (fun i _ => m - (intOf i).toNat)
  case atStart => exact ⟨0, _, Nat.zero_le _, rfl, HB2.out, Only.of_below (Below.refl _ _)⟩
  case round =>
    obtain ⟨j, vb, hj, rfl, hsb, hon⟩ := hrel
    have HSB := Lib.hid hsb; have HON := Lib.hid hon
    have hgl := hsb.1.lt
    have HLR := Lib.hid (hon.own HO2.out HNL.out)
    clear hsb hon
    by_cases hlt : j < m
    · obtain ⟨ad, hjl, hA1, c0, c1'⟩ := (Sees.of_own HLR.out).smp hlt
      subst hA1
      have hal : (ad.add (j * 2)).block < wr.heap.size := World.block_lt_of_cell? wr _ c0
      have H0 := Lib.hid (add_one HRS.out (by rw [HLL.out]; exact hm20) j hjl)
      have HTS := Lib.hid (List.take_succ_eq_append_getElem hjl)
      generalize hp : L[j] = p at *
      obtain ⟨y, z⟩ := p
      simp only at c0 c1'
      clear hp
      obtain ⟨wx, hwx⟩ : ∃ wx, wx = wr.alloc (.cells #[.int .i64 y, .int .i64 z] 28) := ⟨_, rfl⟩
      have hsx : wx.heap.size = wr.heap.size + 1 := by rw [hwx]; simp
      have hbx : Below wr.heap.size wr wx := by rw [hwx]; exact (Below.refl _ _).alloc (Nat.le_refl _) _
      have hby : Below wx.heap.size wx (wx.alloc (.cells #[.int .i64 y, .int .i64 z] 28)) := (Below.refl _ _).alloc (Nat.le_refl _) _
      have hxx : Sees (wx.alloc (.cells #[.int .i64 y, .int .i64 z] 28)) (wx.alloc (.cells #[.int .i64 y, .int .i64 z] 28)).heap.size 2 (some ⟨wx.heap.size, 0, none⟩) 1 (smps [(y, z)]) := lit_smps (w := wx) (t := 28) [(y, z)]
      have HX := Lib.hid hxx
      have hbz := hbx.trans (hby.mono (by omega))
      have HSB2 := Lib.hid (HSB.out.below hbz)
      have HON2 := Lib.hid (HON.out.trans (Only.of_below hbz))
      have HWX := Lib.hid hwx; have HSX := Lib.hid hsx
      clear hbx hby hxx hbz hwx hsx
      go_wp2_with fail
      rw [← HWX.out, ← HSX.out]
      refine (add_any (L.take j) [(y, z)] (g + 1) vb _ 1 1 _ HSB2.out (by rw [List.length_take]; omega) HX.out (by omega) (by omega) (by omega)).mono ?_; rintro e w5 ⟨v5, rfl, hat5, ho5⟩
      rw [H0.out] at hat5
      rw [H0.out]
      have hat6 : SerAt (L.take (j + 1)) w5 (g + 1) v5 := by rw [HTS.out]; exact hat5
      have HAT := Lib.hid hat6
      have HON3 := Lib.hid (HON2.out.trans ho5)
      clear hat5 hat6 ho5 HX HSB2 HON2 H0 HTS HWX HSX
      go_wp2_with fail
      go_roundw
      case rel => exact ⟨j + 1, v5, by omega, by go_num, HAT.out, HON3.out⟩
      case measure => simp [intOf]; omega
    · obtain rfl : j = m := by omega
      have htk : L.take j = L := List.take_of_length_le (by rw [HLL.out]; exact Nat.le_refl _)
      rw [htk] at HSB
      have HSA := Lib.hid (HA2.out.only HON.out (by omega) HVA.out)
      have HWR := Lib.hid (HW2.out.trans (HON.out.below (by omega) HW2.out.size))
      clear htk HA2 HB2 HW2 HO2 HON
      go_wp2_with fail
      refine (within_any t0 0 260 _ WT.out (by omega) (by omega) (by omega)).mono ?_; rintro e w' ⟨rfl, rfl⟩
      obtain ⟨E0, E2, E1⟩ := parts_at HRS.out (nWithin t0 0 260)
      have hkm := nAhd_le L (nWithin t0 0 260)
      rw [HLL.out] at hkm
      have HB1 := Lib.hid (between_any L g va 0 (nWithin t0 0 260 - 1) _ HSA.out (by rw [HLL.out]; omega))
      rw [E1, E0, Nat.sub_zero, List.drop_zero] at HB1
      have HB2 := Lib.hid (fun w6 (h : SerAt L w6 g va) => between_any L g va (nWithin t0 0 260) 1099511627776 w6 h (by rw [HLL.out]; omega))
      rw [E2, List.take_length, HLL.out] at HB2
      have HCT := Lib.hid (fun w6 (h : SerAt L w6 (g + 1) vb) => cut_any L (g + 1) vb (nWithin t0 0 260) w6 h (by rw [HLL.out]; omega))
      clear E0 E1 E2 WT
      generalize nWithin t0 0 260 = t at *
      generalize nAhd L t = k at *
      go_wp2_with fail
      refine HB1.out.mono ?_; rintro e w6 ⟨A6, c6, rfl, hown6, hbel6, h61, h62⟩
      have HSA6 := Lib.hid (HSA.out.below hbel6); have HSB6 := Lib.hid (HSB.out.below hbel6)
      have HL6 := Lib.hid (own_below HLR.out hbel6 (Nat.le_refl _))
      have hs6 := hbel6.size
      have HW6 := Lib.hid (HWR.out.trans (hbel6.mono HWR.out.size))
      have HO6 := Lib.hid hown6
      clear hown6 hbel6 HSA HSB HLR HWR HB1
      go_wp2_with fail
      refine (HB2.out _ HSA6.out).mono ?_; rintro e w7 ⟨A7, c7, rfl, hown7, hbel7, h71, h72⟩
      have HSA7 := Lib.hid (HSA6.out.below hbel7); have HSB7 := Lib.hid (HSB6.out.below hbel7)
      have HL7 := Lib.hid (own_below HL6.out hbel7 (Nat.le_refl _))
      have HO67 := Lib.hid (own_below HO6.out hbel7 (Nat.le_refl _))
      have hs7 := hbel7.size
      have HW7 := Lib.hid (HW6.out.trans (hbel7.mono HW6.out.size))
      have HO7 := Lib.hid hown7
      clear hown7 hbel7 HSA6 HSB6 HL6 HW6 HO6 HB2
      --@rest
      have hown8 : (w7.alloc (.cells #[] 28)).ownsRow w7.heap.size 28 2 (.slice (some ⟨w7.heap.size, 0, none⟩) 0 0) 0 [] := World.ownsRow_made w7 #[] 0 (Nat.le_refl _) (by unfold maxLen; omega) rfl
      have HO8 := Lib.hid hown8
      have HT8 := Lib.hid ((Sees.of_own HO67.out).alloc (Nat.le_refl _) (.cells #[] 28))
      clear hown8
      go_wp2_with (at_builtin; refine wpList_append_sees rfl (.tmp 40) (.tmp 41) 22 rfl w7.heap.size 28 i0 (.agg #[.int .i64 0, .int .i64 0]) 2 16 Try.underlying22 HI0.out HZ0.out HZ1.out HZ2.out rfl (by decide) _ 0 [] rfl HO8.out w7.heap.size A6 k _ (smps (L.take k)) rfl HT8.out (smps_one _) (by unfold maxLen; omega) (by omega) (by simp) ?_)
      intro v9 w9 hown9 hg9
      have hb9 : Below w7.heap.size w7 w9 := ((Below.refl w7.heap.size w7).alloc (Nat.le_refl _) _).grown hg9 (by simp) (by simp [Value.ownBlock])
      have HO9 := Lib.hid hown9; have HLT9 := Lib.hid hown9.lt
      have HT9 := Lib.hid (Sees.of_own (own_below HO7.out hb9 (Nat.le_refl _)))
      have HB9 := Lib.hid hb9
      clear hown9 hg9 hb9 HO8 HT8 HO67
      go_wp2_with (at_builtin; refine wpList_append_sees rfl (.tmp 42) (.tmp 43) 22 rfl w7.heap.size 28 i0 (.agg #[.int .i64 0, .int .i64 0]) 2 16 Try.underlying22 HI0.out HZ0.out HZ1.out HZ2.out rfl (by decide) _ k (smps (L.take k)) rfl HO9.out w9.heap.size A7 (j - k) _ (smps (L.drop k)) rfl HT9.out (smps_one _) (by unfold maxLen; omega) (by omega) HB9.out.size ?_)
      intro v10 w10 hown10 hg10
      have hb10 := HB9.out.grown hg10 HB9.out.size (fun g hg => (HLT9.out g hg).1)
      rw [← smps_append, List.take_append_drop] at hown10
      obtain ⟨A10, c10, rfl, h101, h102⟩ := own_slice hown10
      have HS10 := Lib.hid (Sees.of_own hown10)
      have HN7 : Hid (Value.ownBlock (.slice A7 (j - k) c7) ≠ some (g + 1)) := fun e => by have := (HO7.out.lt _ e).1; omega
      have HO77 := HO7
      have HSA10 := Lib.hid (HSA7.out.below hb10)
      have HL10 := Lib.hid (own_below HL7.out hb10 (Nat.le_refl _))
      have HW10 := Lib.hid (HW7.out.trans (hb10.mono HW7.out.size))
      have HSB10 := Lib.hid (HSB7.out.below hb10)
      have HO710 := Lib.hid (own_below HO7.out hb10 (Nat.le_refl _))
      clear HSA7 HL7 HW7 HSB7 HO77
      clear hown10 hg10 hb10 HO9 HLT9 HT9 HB9 HO7
      go_wp2_with fail
      refine (same_smp A10 A1 j c10 j c1 _ _ L L _ HS10.out (Sees.of_own HL10.out) (by omega) (by omega)).mono ?_; rintro e wy ⟨rfl, q, rfl⟩
      rw [decide_eq_true (rfl : L = L)]
      have hbq : Below w10.heap.size w10 (w10.drewN q) := below_drewN3 (Below.refl _ _) q
      have HSA11 := Lib.hid (HSA10.out.below hbq)
      have HL11 := Lib.hid (own_below HL10.out hbq (Nat.le_refl _))
      have HW11 := Lib.hid (HW10.out.trans (hbq.mono HW10.out.size))
      have HSB11 := Lib.hid (HSB10.out.below hbq)
      have HO711 := Lib.hid (own_below HO710.out hbq (Nat.le_refl _))
      clear HSA10 HL10 HW10 HSB10 HO710
      clear hbq HS10
      generalize w10.drewN q = w11 at *
      go_wp2_with fail
      have hdl : (L.drop k).length = j - k := by rw [List.length_drop, HLL.out]
      have HDL := Lib.hid hdl; clear hdl
      refine (HCT.out _ HSB11.out).mono ?_; rintro e w12 ⟨v12, rfl, hat12, ho12⟩
      have HSA12 := Lib.hid (HSA11.out.only ho12 (by omega) HVA.out)
      have HL12 := Lib.hid (ho12.own HL11.out HNL.out)
      have HO712 := Lib.hid (ho12.own HO711.out HN7.out)
      have HW12 := Lib.hid (HW11.out.trans (ho12.below (by omega) HW11.out.size))
      have hall := all_any (L.drop k) (g + 1) v12 w12 hat12 (by rw [HDL.out]; omega)
      rw [HDL.out] at hall
      have HAL := Lib.hid hall
      clear hall hat12 ho12 HSA11 HSB11 HL11 HO711 HW11 HCT HN7
      go_wp2_with fail
      refine HAL.out.mono ?_; rintro e w13 ⟨A13, c13, rfl, hown13, hbel13, h131, h132⟩
      have HS13 := Lib.hid (Sees.of_own hown13)
      have HSA13 := Lib.hid (HSA12.out.below hbel13)
      have HL13 := Lib.hid (own_below HL12.out hbel13 (Nat.le_refl _))
      have HW13 := Lib.hid (HW12.out.trans (hbel13.mono HW12.out.size))
      have HO713 := Lib.hid (own_below HO712.out hbel13 (Nat.le_refl _))
      clear HSA12 HL12 HW12 HO712
      clear hown13 hbel13 HAL
      go_wp2_with fail
      refine (same_smp A13 A7 (j - k) c13 (j - k) c7 _ _ (L.drop k) (L.drop k) _ HS13.out (Sees.of_own HO713.out) (by omega) (by omega)).mono ?_; rintro e wy ⟨rfl, q, rfl⟩
      rw [decide_eq_true (rfl : (L.drop k) = (L.drop k))]
      have hbq : Below w13.heap.size w13 (w13.drewN q) := below_drewN3 (Below.refl _ _) q
      have HSA14 := Lib.hid (HSA13.out.below hbq)
      have HL14 := Lib.hid (own_below HL13.out hbq (Nat.le_refl _))
      have HW14 := Lib.hid (HW13.out.trans (hbq.mono HW13.out.size))
      have HO714 := Lib.hid (own_below HO713.out hbq (Nat.le_refl _))
      clear HSA13 HL13 HW13 HO713
      clear hbq HS13
      generalize w13.drewN q = w14 at *
      clear HO714
      by_cases hm : 0 < j
      · obtain ⟨i, rfl⟩ : ∃ i, j = i + 1 := ⟨j - 1, by omega⟩
        obtain ⟨hp1, hp2⟩ := nWithin_in a0 (lo := 0) (hi := (i : Int)) (by omega)
        have HWI := Lib.hid (within_any a0 0 (i : Int) w14 WA.out (by omega) (by omega) (by omega))
        obtain ⟨p, hp⟩ : ∃ p : Nat, nWithin a0 0 (i : Int) = p := ⟨(nWithin a0 0 (i : Int)).toNat, by omega⟩
        rw [hp] at HWI hp2
        clear hp hp1 WA
        have hpi : p < i + 1 := by omega
        obtain ⟨ad, hpl, hA1, c0, c1'⟩ := (Sees.of_own HL14.out).smp hpi
        subst hA1
        obtain ⟨ad2, hil, hA2, d0, d1⟩ := (Sees.of_own HL14.out).smp (show i < i + 1 by omega)
        injection hA2 with hA2; subst hA2
        have hal := World.block_lt_of_cell? w14 _ c0
        have hal2 := World.block_lt_of_cell? w14 _ d0
        have hyy := rises_get HRS.out i hil
        have HAE := Lib.hid (fun y z y2 z2 => add_late HRS.out HLL.out hm20 hpl y z y2 z2)
        generalize hP : L[p] = P at *
        generalize hI : L[i] = I at *
        obtain ⟨y2, z2⟩ := P
        obtain ⟨y, z⟩ := I
        have HAE2 := Lib.hid (HAE.out y z y2 z2 rfl rfl)
        simp only at c0 c1' d0 d1 hyy
        obtain ⟨wx, hwx⟩ : ∃ wx, wx = w14.alloc (.cells #[.int .i64 y2, .int .i64 z2] 28) := ⟨_, rfl⟩
        have hsx : wx.heap.size = w14.heap.size + 1 := by rw [hwx]; simp
        have hbx : Below w14.heap.size w14 wx := by rw [hwx]; exact (Below.refl _ _).alloc (Nat.le_refl _) _
        obtain ⟨w20, hw20⟩ : ∃ w20, w20 = wx.alloc (.cells #[.int .i64 (y + 1), .int .i64 0, .int .i64 (y + 2), .int .i64 0, .int .i64 y2, .int .i64 z2] 28) := ⟨_, rfl⟩
        have hby : Below wx.heap.size wx w20 := by rw [hw20]; exact (Below.refl _ _).alloc (Nat.le_refl _) _
        have hxx : Sees w20 w20.heap.size 2 (some ⟨wx.heap.size, 0, none⟩) 3 (smps [(y + 1, 0), (y + 2, 0), (y2, z2)]) := by rw [hw20]; exact lit_smps (w := wx) (t := 28) [(y + 1, 0), (y + 2, 0), (y2, z2)]
        have HX := Lib.hid hxx
        have hbz := hbx.trans (hby.mono (by omega))
        have HWX := Lib.hid hwx; have HSX := Lib.hid hsx; have HW20E := Lib.hid hw20
        have HL14b := HL14; have HSA14b := HSA14; have HW14b := HW14
        have HSA20 := Lib.hid (HSA14.out.below hbz)
        have HL20 := Lib.hid (own_below HL14.out hbz (Nat.le_refl _))
        have HW20 := Lib.hid (HW14.out.trans (hbz.mono HW14.out.size))
        clear HSA14 HL14 HW14
        clear hbx hby hxx hbz hwx hsx hw20 hP hI HAE
        go_wp2_with fail
        refine HWI.out.mono ?_; rintro e w' ⟨rfl, rfl⟩
        go_wp2_with fail
        rw [← HWX.out, ← HSX.out, ← HW20E.out]
        refine (add_any L [(y + 1, 0), (y + 2, 0), (y2, z2)] g va _ 3 3 _ HSA20.out (by rw [HLL.out]; omega) HX.out (by omega) (by omega) (by omega)).mono ?_; rintro e w21 ⟨v21, rfl, hat, ho⟩
        rw [HAE2.out] at hat
        rw [HAE2.out]
        have hat2 : SerAt L w21 g v21 := hat
        have HSA21 := Lib.hid hat2
        have HL21 := Lib.hid (ho.own HL20.out HNG.out)
        have HW21 := Lib.hid (HW20.out.trans (ho.below hgw HW20.out.size))
        clear hat hat2 ho HSA20 HL20 HW20 HX HAE2 HWX HSX HW20E HWI HL14b HSA14b HW14b
        have hall := all_any L g v21 w21 HSA21.out (by rw [HLL.out]; omega)
        rw [HLL.out] at hall
        have HAL := Lib.hid hall; clear hall
        go_wp2_with fail
        refine HAL.out.mono ?_; rintro e w22 ⟨A22, c22, rfl, hown, hbel, h122, h222⟩
        have HS22 := Lib.hid (Sees.of_own hown)
        have HSA22 := Lib.hid (HSA21.out.below hbel)
        have HL22 := Lib.hid (own_below HL21.out hbel (Nat.le_refl _))
        have HW22 := Lib.hid (HW21.out.trans (hbel.mono HW21.out.size))
        clear HSA21 HL21 HW21
        clear hown hbel HAL
        go_wp2_with fail
        refine (same_smp A22 (some ad) (i + 1) c22 (i + 1) c1 _ _ L L _ HS22.out (Sees.of_own HL22.out) (by omega) (by omega)).mono ?_; rintro e wy ⟨rfl, q, rfl⟩
        rw [decide_eq_true (rfl : L = L)]
        have hbq : Below w22.heap.size w22 (w22.drewN q) := below_drewN3 (Below.refl _ _) q
        have HSA23 := Lib.hid (HSA22.out.below hbq)
        have HL23 := Lib.hid (own_below HL22.out hbq (Nat.le_refl _))
        have HW23 := Lib.hid (HW22.out.trans (hbq.mono HW22.out.size))
        clear HSA22 HL22 HW22
        clear hbq HS22
        generalize w22.drewN q = w23 at *
        go_wp2_with fail
        refine (add_any L [] g v21 none 0 0 _ HSA23.out (by rw [HLL.out]; omega) Sees.nil (by omega) (by omega) (by omega)).mono ?_; rintro e w30 ⟨v30, rfl, hat, ho⟩
        have hat2 : SerAt (L ++ []) w30 g v30 := hat
        rw [List.append_nil] at hat2
        have HSA30 := Lib.hid hat2
        have HL30 := Lib.hid (ho.own HL23.out HNG.out)
        have HW30 := Lib.hid (HW23.out.trans (ho.below hgw HW23.out.size))
        rw [show addErr (lastT L) L.length [] = 0 from rfl]
        clear hat hat2 ho HSA23 HL23 HW23
        have hall := all_any L g v30 w30 HSA30.out (by rw [HLL.out]; omega)
        rw [HLL.out] at hall
        have HAL := Lib.hid hall; clear hall
        go_wp2_with fail
        refine HAL.out.mono ?_; rintro e w31 ⟨A31, c31, rfl, hown, hbel, h131, h231⟩
        have HS31 := Lib.hid (Sees.of_own hown)
        have HSA31 := Lib.hid (HSA30.out.below hbel)
        have HL31 := Lib.hid (own_below HL30.out hbel (Nat.le_refl _))
        have HW31 := Lib.hid (HW30.out.trans (hbel.mono HW30.out.size))
        clear HSA30 HL30 HW30
        clear hown hbel HAL
        go_wp2_with fail
        refine (same_smp A31 (some ad) (i + 1) c31 (i + 1) c1 _ _ L L _ HS31.out (Sees.of_own HL31.out) (by omega) (by omega)).mono ?_; rintro e wy ⟨rfl, q, rfl⟩
        rw [decide_eq_true (rfl : L = L)]
        have hbq : Below w31.heap.size w31 (w31.drewN q) := below_drewN3 (Below.refl _ _) q
        have HSA32 := Lib.hid (HSA31.out.below hbq)
        have HL32 := Lib.hid (own_below HL31.out hbq (Nat.le_refl _))
        have HW32 := Lib.hid (HW31.out.trans (hbq.mono HW31.out.size))
        clear HSA31 HL31 HW31
        clear hbq HS31
        generalize w31.drewN q = w32 at *
        go_wp2_with fail
        refine (series_runs w32).mono ?_; rintro e w33 ⟨rfl, hbel33⟩
        have HW33 := Lib.hid (HW32.out.trans (hbel33.mono HW32.out.size))
        clear hbel33
        go_wp2_with fail
        go_ret
        exact ⟨rfl, HW33.out⟩
      · have hj0 : ¬ (0 : Int) < j := by omega
        go_wp2_with fail
        refine (add_any L [] g va none 0 0 _ HSA14.out (by rw [HLL.out]; omega) Sees.nil (by omega) (by omega) (by omega)).mono ?_; rintro e w30 ⟨v30, rfl, hat, ho⟩
        have hat2 : SerAt (L ++ []) w30 g v30 := hat
        rw [List.append_nil] at hat2
        have HSA30 := Lib.hid hat2
        have HL30 := Lib.hid (ho.own HL14.out HNG.out)
        have HW30 := Lib.hid (HW14.out.trans (ho.below hgw HW14.out.size))
        rw [show addErr (lastT L) L.length [] = 0 from rfl]
        clear hat hat2 ho HSA14 HL14 HW14
        have hall := all_any L g v30 w30 HSA30.out (by rw [HLL.out]; omega)
        rw [HLL.out] at hall
        have HAL := Lib.hid hall; clear hall
        go_wp2_with fail
        refine HAL.out.mono ?_; rintro e w31 ⟨A31, c31, rfl, hown, hbel, h131, h231⟩
        have HS31 := Lib.hid (Sees.of_own hown)
        have HSA31 := Lib.hid (HSA30.out.below hbel)
        have HL31 := Lib.hid (own_below HL30.out hbel (Nat.le_refl _))
        have HW31 := Lib.hid (HW30.out.trans (hbel.mono HW30.out.size))
        clear HSA30 HL30 HW30
        clear hown hbel HAL
        go_wp2_with fail
        refine (same_smp A31 A1 j c31 j c1 _ _ L L _ HS31.out (Sees.of_own HL31.out) (by omega) (by omega)).mono ?_; rintro e wy ⟨rfl, q, rfl⟩
        rw [decide_eq_true (rfl : L = L)]
        have hbq : Below w31.heap.size w31 (w31.drewN q) := below_drewN3 (Below.refl _ _) q
        have HSA32 := Lib.hid (HSA31.out.below hbq)
        have HL32 := Lib.hid (own_below HL31.out hbq (Nat.le_refl _))
        have HW32 := Lib.hid (HW31.out.trans (hbq.mono HW31.out.size))
        clear HSA31 HL31 HW31
        clear hbq HS31
        generalize w31.drewN q = w32 at *
        go_wp2_with fail
        refine (series_runs w32).mono ?_; rintro e w33 ⟨rfl, hbel33⟩
        have HW33 := Lib.hid (HW32.out.trans (hbel33.mono HW32.out.size))
        clear hbel33
        go_wp2_with fail
        go_ret
        exact ⟨rfl, HW33.out⟩
end Go.Proofs.Ytopcoopgfaijdaa
