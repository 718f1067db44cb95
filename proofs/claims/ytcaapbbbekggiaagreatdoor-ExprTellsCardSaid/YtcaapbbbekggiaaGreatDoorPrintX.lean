/- expr.Print. -/
import Derived.Test.YtcaapbbbekggiaaGreatDoorWriteX
namespace Go.Proofs.YtcaapbbbekggiaaGreatDoor
open Go.ChangeShapes Go.WideShapes Go.ChangeAt Go.RowKit
set_option linter.unusedVariables false
set_option linter.unusedSimpArgs false
set_option maxRecDepth 100000
theorem wordX_size (k : Int) : (wordX k).size ≤ 5 := by
  by_cases h : 17 ≤ k ∧ k ≤ 20
  · have : k = 17 ∨ k = 18 ∨ k = 19 ∨ k = 20 := by omega
    rcases this with rfl | rfl | rfl | rfl <;> decide
  · rw [word_none h]; decide
theorem text_len : ∀ (d : Nat) (x : PE), x.deep ≤ d → x.ty ≠ 0 → x.fits → x.text.length + 50 ≤ 700 * 2 ^ d
  | 0, x, hd, _, _ => by
    obtain ⟨k, n, ms, ns, ks⟩ := x
    unfold PE.deep at hd; omega
  | d + 1, x, hd, ht, hf => by
    obtain ⟨hp1, hp2⟩ := (show 2 ^ (d + 1) = 2 ^ d + 2 ^ d ∧ 1 ≤ 2 ^ d from ⟨by rw [Nat.pow_succ]; omega, Nat.one_le_two_pow⟩)
    cases ty_typed ht with
    | num n =>
      have hn : I64 n := by unfold PE.fits at hf; exact hf.1
      have h1 := Lib.itoa_length_le n hn.1 hn.2
      rw [text_num]; omega
    | pick n ms hm h1 h2 =>
      have hn : I64 n := by unfold PE.fits at hf; exact hf.1
      have h3 := Lib.itoa_length_le n hn.1 hn.2
      have h4 := rightM_facts hm
      have h5 := joinM_length_le ms (fun x hx => ⟨(wordF_sz (h4.2 x hx).1).2, (h4.2 x hx).2.1⟩)
      rw [text_pick]
      simp only [List.length_cons, List.length_append, List.length_nil]; omega
    | one k ns a h1 h2 hn ha =>
      have hfa : a.fits := by unfold PE.fits fitsP at hf; exact hf.2.1
      have hda : a.deep ≤ d := by unfold PE.deep deepsP at hd; simp [deepsP] at hd; omega
      have ih := text_len d a hda (by rw [ha]; decide) hfa
      have h3 := namesF_facts hn
      have h4 := joinN_len24 (l := ns) (fun s hs => (wordF_sz (h3.2 s hs)).2)
      have h5 := wordX_size k
      have h6 : (wordX k).data.toList.length = (wordX k).size := ba_len _
      rw [text_one _ _ h1]
      simp only [List.length_cons, List.length_append, List.length_nil]; omega
    | two k a b h1 h2 ha hb =>
      have hfs : a.fits ∧ b.fits := by unfold PE.fits fitsP fitsP at hf; exact ⟨hf.2.1, hf.2.2.1⟩
      have hds : a.deep ≤ d ∧ b.deep ≤ d := by unfold PE.deep deepsP deepsP at hd; omega
      have iha := text_len d a hds.1 ha hfs.1
      have ihb := text_len d b hds.2 hb hfs.2
      have h5 := signX_size k
      have h6 : (signX k).data.toList.length = (signX k).size := ba_len _
      rw [text_two _ _ h1 h2]
      simp only [List.length_cons, List.length_append, List.length_nil]; omega
/-- An expression's text, if it may have one. -/
def PE.print (x : PE) : List UInt8 := if x.ty ≠ 0 ∧ x.deep ≤ 8 then x.text else []
set_option maxHeartbeats 2000000 in
theorem print_x (d : Nat) (hd : d ≤ 1000000) (x : XE) (w : World) (hs : x.pe.small) (hfit : x.pe.fits) (ht : Tab w) (h : okX d x w) :
    Calls Tryz.prog 12 #[x.val] w fun e w' => e = .returned (.string ⟨x.pe.print.toArray⟩) ∧ Below w.heap.size w w' := by
  obtain ⟨A1, c1, A2, c2, A3, c3, e1, e2, e3⟩ := okX_forms h
  obtain ⟨kk, nn, mv, ms, nv, ns, kv, ks⟩ := x
  simp only [XE.mv, XE.nv, XE.kv, XE.ms, XE.ns, XE.kids] at e1 e2 e3
  subst e1; subst e2; subst e3
  have hb : Below w.heap.size w (w.alloc (.cells #[.int .i64 kk, .int .i64 nn, .slice A1 ms.length c1, .slice A2 ns.length c2, .slice A3 ks.length c3] 26)) := (Below.refl _ _).alloc (Nat.le_refl _) _
  have HB := Lib.hid hb
  have HBX := Lib.hid (Blk.mk (heap_alloc_new w (.cells #[.int .i64 kk, .int .i64 nn, .slice A1 ms.length c1, .slice A2 ns.length c2, .slice A3 ks.length c3] 26)) : Blk _ w.heap.size 26 [.int .i64 kk, .int .i64 nn, .slice A1 ms.length c1, .slice A2 ns.length c2, .slice A3 ks.length c3])
  have HOK := Lib.hid (okX_below hb d _ h)
  have HTY := Lib.hid (type_any d _ (w.alloc (.cells #[.int .i64 kk, .int .i64 nn, .slice A1 ms.length c1, .slice A2 ns.length c2, .slice A3 ks.length c3] 26)) hs HOK.out)
  have HDE := Lib.hid (fun V (hV : okX d (XE.mk kk nn (.slice A1 ms.length c1) ms (.slice A2 ns.length c2) ns (.slice A3 ks.length c3) ks) V) => deep_any d _ V hV hd)
  have HWR := Lib.hid (fun (V : World) (hV : okX d (XE.mk kk nn (.slice A1 ms.length c1) ms (.slice A2 ns.length c2) ns (.slice A3 ks.length c3) ks) V) (hty : ((XE.mk kk nn (.slice A1 ms.length c1) ms (.slice A2 ns.length c2) ns (.slice A3 ks.length c3) ks)).pe.ty ≠ 0) (hdp : ((XE.mk kk nn (.slice A1 ms.length c1) ms (.slice A2 ns.length c2) ns (.slice A3 ks.length c3) ks)).pe.deep ≤ 8) (hb : Below w.heap.size w V) => by
    have h0 := bld_new V
    have ha := ((Below.refl V.heap.size V).alloc (Nat.le_refl _) (.cells #[.pointer none, .slice none 0 0] 52))
    have hl := text_len 8 _ hdp hty hfit
    have h1 := write_any V V.heap.size d (XE.mk kk nn (.slice A1 ms.length c1) ms (.slice A2 ns.length c2) ns (.slice A3 ks.length c3) ks) [] (V.alloc (.cells #[.pointer none, .slice none 0 0] 52)) hV hty hfit ha rfl (by simp) (tab_of ht hb) (by rw [List.nil_append]; omega) h0
    rw [List.nil_append] at h1
    exact h1)
  unfold XE.val XE.kd XE.n XE.mv XE.nv XE.kv at HTY HDE HWR
  simp only at HTY HDE HWR
  have HPR : Hid (((XE.mk kk nn (.slice A1 ms.length c1) ms (.slice A2 ns.length c2) ns (.slice A3 ks.length c3) ks)).pe.print = if ((XE.mk kk nn (.slice A1 ms.length c1) ms (.slice A2 ns.length c2) ns (.slice A3 ks.length c3) ks)).pe.ty ≠ 0 ∧ ((XE.mk kk nn (.slice A1 ms.length c1) ms (.slice A2 ns.length c2) ns (.slice A3 ks.length c3) ks)).pe.deep ≤ 8 then ((XE.mk kk nn (.slice A1 ms.length c1) ms (.slice A2 ns.length c2) ns (.slice A3 ks.length c3) ks)).pe.text else []) := Lib.hid rfl
  clear h hb hs hfit ht
  show Calls _ _ #[.agg #[.int .i64 kk, .int .i64 nn, .slice A1 ms.length c1, .slice A2 ns.length c2, .slice A3 ks.length c3]] _ _
  generalize ((XE.mk kk nn (.slice A1 ms.length c1) ms (.slice A2 ns.length c2) ns (.slice A3 ks.length c3) ks)).pe.print = r at *
  generalize ((XE.mk kk nn (.slice A1 ms.length c1) ms (.slice A2 ns.length c2) ns (.slice A3 ks.length c3) ks)).pe.ty = ty at *
  generalize ((XE.mk kk nn (.slice A1 ms.length c1) ms (.slice A2 ns.length c2) ns (.slice A3 ks.length c3) ks)).pe.deep = dp at *
  generalize ((XE.mk kk nn (.slice A1 ms.length c1) ms (.slice A2 ns.length c2) ns (.slice A3 ks.length c3) ks)).pe.text = tx at *
  go_enter Tryz.func12, Tryz.ntmps12
  go_upto_region 1 with fail
  have HGX := Lib.hid (show w.heap.size = w.heap.size from rfl)
  obtain ⟨W1, hW1⟩ : ∃ W, w.alloc (.cells #[.int .i64 kk, .int .i64 nn, .slice A1 ms.length c1, .slice A2 ns.length c2, .slice A3 ks.length c3] 26) = W := ⟨_, rfl⟩
  rw [hW1] at HB HBX HOK HTY ⊢
  clear hW1
  obtain ⟨x0, x1, x2, x3, x4⟩ := blk_cells5 HBX.out
  by_cases ht : ty = 0
  · have t1 : (ty == 0) = true := by rw [ht]; rfl
    have HE := Lib.hid (show r = [] by rw [HPR.out, if_neg (fun h => h.1 ht)])
    clear ht
    go_wp2_with fail
    (with_reducible refine HTY.out.mono ?_); rintro e w2 ⟨rfl, hb2⟩
    have HB2 := Lib.hid (HB.out.trans (hb2.mono HB.out.size))
    clear hb2
    go_wp2_with fail
    go_ret
    exact ⟨by rw [HE.out]; rfl, HB2.out⟩
  · have t1 : (ty == 0) = false := by rw [beq_eq_false_iff_ne]; exact ht
    have HTN := Lib.hid ht
    clear ht
    go_wp2_with fail
    (with_reducible refine HTY.out.mono ?_); rintro e w2 ⟨rfl, hb2⟩
    have HB2 := Lib.hid (HB.out.trans (hb2.mono HB.out.size))
    have HX2 := Lib.hid (HBX.out.below hb2 HBX.out.lt)
    have HO2 := Lib.hid (okX_below hb2 d _ HOK.out)
    have HC := Lib.hid (HDE.out _ HO2.out)
    clear hb2 x0 x1 x2 x3 x4 HOK HBX HB
    obtain ⟨x0, x1, x2, x3, x4⟩ := blk_cells5 HX2.out
    by_cases hd8 : dp ≤ 8
    · have d1 : ¬ (8 : Int) < dp := by omega
      have d1b : decide ((8 : Int) < dp) = false := decide_eq_false d1
      have HE := Lib.hid (show r = tx by rw [HPR.out, if_pos ⟨HTN.out, hd8⟩])
      go_wp2_with fail
      (with_reducible refine HC.out.mono ?_); rintro e w3 ⟨rfl, hb3⟩
      have HB3 := Lib.hid (HB2.out.trans (hb3.mono HB2.out.size))
      have HX3 := Lib.hid (HX2.out.below hb3 HX2.out.lt)
      have HWC := Lib.hid (HWR.out _ (okX_below hb3 d _ HO2.out) HTN.out hd8 HB3.out)
      clear hb3 HB2 HX2 HO2 HC x0 x1 x2 x3 x4 hd8 HWR
      have HX4 := Lib.hid (HX3.out.alloc (.cells #[.pointer none, .slice none 0 0] 52))
      have HB4 := Lib.hid (HB3.out.alloc HB3.out.size (.cells #[.pointer none, .slice none 0 0] 52))
      have hsz : w3.heap.size + 1 = (w3.alloc (.cells #[.pointer none, .slice none 0 0] 52)).heap.size := by simp
      have HSZ := Lib.hid hsz
      have HWS := Lib.hid HB3.out.size
      clear hsz HX3 HB3
      go_upto_region 4 with fail
      obtain ⟨W4, hW4⟩ : ∃ W, w3.alloc (.cells #[.pointer none, .slice none 0 0] 52) = W := ⟨_, rfl⟩
      rw [hW4] at HX4 HB4 HWC HSZ ⊢
      clear hW4
      obtain ⟨bb, hbb⟩ : ∃ b, w3.heap.size = b := ⟨_, rfl⟩
      rw [hbb] at HWC HSZ HWS ⊢
      clear hbb
      obtain ⟨x0, x1, x2, x3, x4⟩ := blk_cells5 HX4.out
      go_wp2_with fail
      (with_reducible refine HWC.out.mono ?_); rintro e w5 ⟨rfl, hbl, hk⟩
      have HBL := Lib.hid hbl
      have HB5 := Lib.hid (HB4.out.trans (hk.1.mono HWS.out))
      have hbg : bb ≤ w5.heap.size := by have := hk.1.size; have := HSZ.out; omega
      clear hbl hk HWC x0 x1 x2 x3 x4
      go_wp2_with fail
      refine (bTold bb bb tx _ HBL.out hbg).mono ?_
      rintro e w6 ⟨rfl, hb6⟩
      have HB6 := Lib.hid (HB5.out.trans (hb6.mono HWS.out))
      clear hb6
      go_wp2_with fail
      go_ret
      exact ⟨by rw [HE.out]; rfl, HB6.out⟩
    · have d1 : (8 : Int) < dp := by omega
      have d1b : decide ((8 : Int) < dp) = true := decide_eq_true d1
      have HE := Lib.hid (show r = [] by rw [HPR.out, if_neg (fun h => hd8 h.2)])
      go_wp2_with fail
      (with_reducible refine HC.out.mono ?_); rintro e w3 ⟨rfl, hb3⟩
      have HB3 := Lib.hid (HB2.out.trans (hb3.mono HB2.out.size))
      clear hb3
      go_wp2_with fail
      go_ret
      exact ⟨by rw [HE.out]; rfl, HB3.out⟩
end Go.Proofs.YtcaapbbbekggiaaGreatDoor
