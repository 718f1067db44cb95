/- Law ExprTells. -/
import Derived.Test.YtcaapbbbekggiaaGreatDoorTellsMath
import Derived.Test.YtcaapbbbekggiaaGreatDoorRefType
import Derived.Test.YtcaapbbbekggiaaGreatDoorCountX
import Derived.Test.YtcaapbbbekggiaaGreatDoorKeepX4
import Derived.Test.YtcaapbbbekggiaaGreatDoorExprRuns
import Derived.Test.YtcaapbbbekggiaaGreatDoorSameX
namespace Go.Proofs.YtcaapbbbekggiaaGreatDoor
open Go.ChangeShapes Go.WideShapes Go.ChangeAt Go.RowKit
set_option linter.unusedVariables false
set_option linter.unusedSimpArgs false
set_option maxRecDepth 100000
/-- The law's expression in its box. -/
structure TeAt (w0 : World) (b7 : Nat) (Y : XE) (W : World) : Prop where
  bel : Below w0.heap.size w0 W
  ok : okX 5 Y W
  box : Blk W b7 26 [.int .i64 Y.kd, .int .i64 Y.n, Y.mv, Y.nv, Y.kv]
theorem TeAt.below {w0 W W' : World} {b7 : Nat} {Y : XE} (h : TeAt w0 b7 Y W) (hb : Below W.heap.size W W') : TeAt w0 b7 Y W' :=
  ⟨h.bel.trans (hb.mono h.bel.size), okX_below hb _ _ h.ok, h.box.below hb h.box.lt⟩
theorem KSet.ok_more {k : KSet} {B B' : Nat} {w : World} (h : k.ok B w) (hB : B ≤ B') : k.ok B' w := ⟨h.has_.more hB, h.hasI, h.n_, h.vals_.more hB, h.valsI, h.n2_⟩
set_option maxHeartbeats 8000000 in
theorem expr_tells (X : XE) (dX : Nat) (k : KSet) (own : Bool) (w : World) (hX : okX dX X w) (hs : szX dX X) (hk : k.ok w.heap.size w) (tab : Tab w) :
    Calls Tryz.prog 3 #[X.val, k.val, .bool own] w fun e w' => e = .returned (.bool true) ∧ Below w.heap.size w w' := by
  obtain ⟨B1, b1, B2, b2, B3, b3, e1, e2, e3⟩ := okX_forms hX
  have hv : X.val = .agg #[.int .i64 X.kd, .int .i64 X.n, .slice B1 X.ms.length b1, .slice B2 X.ns.length b2, .slice B3 X.kids.length b3] := by unfold XE.val; rw [e1, e2, e3]
  have HSM0 := Lib.hid (fun (V : World) (hV : Below w.heap.size w V) => small_cut (fun b => V.heap.size ≤ b) 4 (by omega) dX X V (okX_farS (fun b hb hn => by omega) dX X (okX_below hV _ _ hX)) hs (fun b hb => hb))
  rw [hv] at HSM0 ⊢
  unfold KSet.val
  clear hv e1 e2 e3 hs hX
  generalize X.ms.length = l1 at *
  generalize X.ns.length = l2 at *
  generalize X.kids.length = l3 at *
  have HK := Lib.hid (fun (V : World) (hV : Below w.heap.size w V) (hV2 : w.heap.size ≤ V.heap.size) => hk.below hV)
  have HT := Lib.hid (fun (V : World) (hV : Below w.heap.size w V) => tab_of tab hV)
  have hb0 : Below w.heap.size w ((w.alloc (.cells #[.int .i64 X.kd, .int .i64 X.n, .slice B1 l1 b1, .slice B2 l2 b2, .slice B3 l3 b3] 26)).alloc (.cells #[.slice k.A k.n k.c, .slice k.A2 k.n2 k.c2] 29)) := ((Below.refl _ w).alloc (Nat.le_refl _) _).alloc (by simp) _
  have HB0 := Lib.hid hb0
  obtain ⟨bX, hbX⟩ : ∃ b, w.heap.size = b := ⟨_, rfl⟩
  obtain ⟨bK, hbK⟩ : ∃ b, bX + 1 = b := ⟨_, rfl⟩
  have HBX : Hid (Blk ((w.alloc (.cells #[.int .i64 X.kd, .int .i64 X.n, .slice B1 l1 b1, .slice B2 l2 b2, .slice B3 l3 b3] 26)).alloc (.cells #[.slice k.A k.n k.c, .slice k.A2 k.n2 k.c2] 29)) bX 26 [.int .i64 X.kd, .int .i64 X.n, .slice B1 l1 b1, .slice B2 l2 b2, .slice B3 l3 b3]) := Lib.hid (hbX ▸ (Blk.mk (heap_alloc_new w _)).alloc _)
  have HBK : Hid (Blk ((w.alloc (.cells #[.int .i64 X.kd, .int .i64 X.n, .slice B1 l1 b1, .slice B2 l2 b2, .slice B3 l3 b3] 26)).alloc (.cells #[.slice k.A k.n k.c, .slice k.A2 k.n2 k.c2] 29)) bK 29 [.slice k.A k.n k.c, .slice k.A2 k.n2 k.c2]) := Lib.hid (by
    subst hbX; subst hbK
    have h := heap_alloc_new (w.alloc (.cells #[.int .i64 X.kd, .int .i64 X.n, .slice B1 l1 b1, .slice B2 l2 b2, .slice B3 l3 b3] 26)) (.cells #[.slice k.A k.n k.c, .slice k.A2 k.n2 k.c2] 29)
    rw [show (w.alloc (.cells #[.int .i64 X.kd, .int .i64 X.n, .slice B1 l1 b1, .slice B2 l2 b2, .slice B3 l3 b3] 26)).heap.size = w.heap.size + 1 by simp] at h
    exact Blk.mk h)
  have HbX := Lib.hid hbX; have HbK := Lib.hid hbK
  clear hbX hbK hb0 hk tab
  go_enter Tryz.func3, Tryz.ntmps3
  go_upto_region 1 with fail
  rw [HbX.out, HbK.out]
  generalize (w.alloc (.cells #[.int .i64 X.kd, .int .i64 X.n, .slice B1 l1 b1, .slice B2 l2 b2, .slice B3 l3 b3] 26)).alloc (.cells #[.slice k.A k.n k.c, .slice k.A2 k.n2 k.c2] 29) = W1 at *
  have HSM := Lib.hid (show Calls Tryz.prog 4 #[.agg #[.int .i64 X.kd, .int .i64 X.n, .slice B1 l1 b1, .slice B2 l2 b2, .slice B3 l3 b3], .int .i64 4] W1 (SmallAns (fun b => W1.heap.size ≤ b) 4 W1) from HSM0.out W1 HB0.out)
  obtain ⟨x0, x1, x2, x3, x4⟩ := blk_cells5 HBX.out
  go_wp2_with fail
  (with_reducible refine HSM.out.mono ?_); rintro e w2 ⟨y, rfl, hfy, hty, hsy, hb2⟩
  obtain ⟨C1, d1, C2, d2, C3, d3, u1, u2, u3⟩ := okX_forms hfy.now
  have hvy : y.val = .agg #[.int .i64 y.kd, .int .i64 y.n, .slice C1 y.ms.length d1, .slice C2 y.ns.length d2, .slice C3 y.kids.length d3] := by unfold XE.val; rw [u1, u2, u3]
  have hby := (Below.refl w2.heap.size w2).alloc (Nat.le_refl _) (.cells #[.int .i64 y.kd, .int .i64 y.n, .slice C1 y.ms.length d1, .slice C2 y.ns.length d2, .slice C3 y.kids.length d3] 26)
  have HB2 := Lib.hid (HB0.out.trans (hb2.mono HB0.out.size))
  have HBK2 := Lib.hid ((HBK.out.below hb2 HBK.out.lt).below hby (HBK.out.below hb2 HBK.out.lt).lt)
  obtain ⟨b7, hb7⟩ : ∃ b, w2.heap.size = b := ⟨_, rfl⟩
  have HTE : Hid (TeAt w b7 y (w2.alloc (.cells #[.int .i64 y.kd, .int .i64 y.n, .slice C1 y.ms.length d1, .slice C2 y.ns.length d2, .slice C3 y.kids.length d3] 26))) := Lib.hid ⟨HB2.out.trans (hby.mono HB2.out.size), okX_below hby _ _ hfy.now, by rw [u1, u2, u3, ← hb7]; exact Blk.mk (heap_alloc_new w2 _)⟩
  have HYT := Lib.hid (And.intro hty hsy)
  have HLE := Lib.hid (show w.heap.size ≤ b7 from hb7 ▸ HB2.out.size)
  rw [hvy]
  clear x0 x1 x2 x3 x4 hfy hty hsy hb2 hby HSM HSM0 HBX HBK u1 u2 u3 hvy HB0 HB2
  go_upto_if 16 with fail
  generalize w2.alloc (.cells #[.int .i64 y.kd, .int .i64 y.n, .slice C1 y.ms.length d1, .slice C2 y.ns.length d2, .slice C3 y.kids.length d3] 26) = W3 at *
  clear hb7
  go_cut [] from 17 to 18 (fun wx => ∃ Y : XE, TeAt w b7 Y wx ∧ tinyX 5 Y ∧ szX 5 Y)
  case first => --done
    cases own with
    | false =>
      go_wp2_with fail
      go_meet
      exact ⟨y, HTE.out, HYT.out⟩
    | true =>
      have z0 := HBK2.out.cell 0
      have z1 := HBK2.out.cell 1
      simp only [List.getElem?_cons_zero, List.getElem?_cons_succ] at z0 z1
      have HC := Lib.hid (expr_far k W3 (KSet.ok_more (HK.out W3 HTE.out.bel HTE.out.bel.size) HTE.out.bel.size))
      unfold KSet.val at HC
      go_wp2_with fail
      (with_reducible refine HC.out.mono ?_); rintro e w4 ⟨x, rfl, hkx, hfx, hbx⟩
      obtain ⟨D1, g1, D2, g2, D3, g3, u1, u2, u3⟩ := okX_forms hfx.now
      have hvx : x.val = .agg #[.int .i64 x.kd, .int .i64 x.n, .slice D1 x.ms.length g1, .slice D2 x.ns.length g2, .slice D3 x.kids.length g3] := by unfold XE.val; rw [u1, u2, u3]
      rw [hvx]
      have hlt := HTE.out.box.lt
      have hle := HLE.out
      have hbk4 := HTE.out.box.below hbx HTE.out.box.lt
      have hbz := HTE.out.bel.trans (hbx.mono HTE.out.bel.size)
      have HZ : Hid (TeAt w b7 x (set5W w4 b7 (.int .i64 x.kd) (.int .i64 x.n) (.slice D1 x.ms.length g1) (.slice D2 x.ns.length g2) (.slice D3 x.kids.length g3))) := Lib.hid ⟨((((hbz.setCell (p := ⟨b7, 0, none⟩) hle _).setCell (p := ⟨b7, 1, none⟩) hle _).setCell (p := ⟨b7, 2, none⟩) hle _).setCell (p := ⟨b7, 3, none⟩) hle _).setCell (p := ⟨b7, 4, none⟩) hle _, (hfx.grown (set5W_grown w4 b7 _ _ _ _ _) (fun c e => by injection e with e; omega)).now, by rw [u1, u2, u3]; exact set5W_blk hbk4 _ _ _ _ _⟩
      have HTS := Lib.hid (keepV_ts 5 x hkx)
      obtain ⟨y0, y1, y2, y3, y4⟩ := blk_cells5 hbk4
      obtain ⟨f0, f1, f2, f3, f4⟩ := blk_fr5 hbk4
      unfold set5W at HZ
      clear hkx hfx hbx hvx hbk4 hbz u1 u2 u3 HTE HBK2 HC z0 z1
      go_wp2_with fail
      go_meet
      exact ⟨x, HZ.out, HTS.out⟩
  case rest =>
    obtain ⟨Y, hat, hty, hsy⟩ := hcut
    clear HTE HYT HBK2 HK
    obtain ⟨A1, c1, A2, c2, A3, c3, e1, e2, e3⟩ := okX_forms hat.ok
    obtain ⟨hfew, hsmall, hfits, hcnt⟩ := tiny_facts 5 Y hat.ok hty hsy
    have hdp5 := okX_deep 5 Y wc hat.ok
    have hc6 : Y.pe.count ≤ 1000000 := Nat.le_trans hcnt (by decide)
    have hv : Y.val = .agg #[.int .i64 Y.kd, .int .i64 Y.n, .slice A1 Y.ms.length c1, .slice A2 Y.ns.length c2, .slice A3 Y.kids.length c3] := by unfold XE.val; rw [e1, e2, e3]
    have hcs : Y.mv = .slice A1 Y.ms.length c1 ∧ Y.nv = .slice A2 Y.ns.length c2 ∧ Y.kv = .slice A3 Y.kids.length c3 := ⟨e1, e2, e3⟩
    have HBC := Lib.hid (fun V (hV : TeAt w b7 Y V) => blk_cells5 hV.box)
    rw [e1, e2, e3] at HBC
    have HRT := Lib.hid (fun V (hV : TeAt w b7 Y V) => rtype_any 5 Y V hV.ok hfew hsy (by omega))
    have HPK := Lib.hid (fun V (hV : TeAt w b7 Y V) => picks_all 5 Y V hV.ok hfew hc6)
    have HTY := Lib.hid (fun V (hV : TeAt w b7 Y V) => type_any 5 Y V hsmall hV.ok)
    have HDE := Lib.hid (fun V (hV : TeAt w b7 Y V) => deep_any 5 Y V hV.ok (by omega))
    have HRG := Lib.hid (fun V (hV : TeAt w b7 Y V) => right_x 5 (by omega) Y V hsmall hV.ok)
    have HPX := Lib.hid (fun V (hV : TeAt w b7 Y V) => print_x 5 (by omega) Y V hsmall hfits (HT.out V hV.bel) hV.ok)
    have HCT := Lib.hid (fun V (hV : TeAt w b7 Y V) => count_any 5 Y V hV.ok hc6)
    have HSA := Lib.hid (fun V (hV : TeAt w b7 Y V) => sameX_any 5 Y Y V hV.ok hV.ok)
    have HEQ : Hid (eqPE Y.pe Y.pe = true) := Lib.hid ((eqPE_iff _ _).2 rfl)
    rw [HEQ.out] at HSA
    have HER := Lib.hid (fun V (hV : TeAt w b7 Y V) => expr_runs V (HT.out V hV.bel))
    have HPN : Hid (Y.pe.ty ≠ 0 → ∀ V (hV : TeAt w b7 Y V), Calls Tryz.prog 7 #[Y.val] V fun e w' => e = .returned (.string ⟨Y.pe.print.toArray⟩) ∧ Below V.heap.size V w') := Lib.hid (fun hne V hV => by
      obtain ⟨g1, g2⟩ := typed_good 5 Y hV.ok hne hfits
      have h := print_any 5 (by omega) Y V hV.ok g1
      rw [g2] at h
      have e : Y.pe.print = Y.pe.text := by unfold PE.print; rw [if_pos ⟨hne, by omega⟩]
      rw [e]; exact h)
    have HPZ : Hid (Y.pe.ty = 0 → Y.pe.print = []) := Lib.hid (fun h => by unfold PE.print; rw [if_neg (fun h2 => h2.1 h)])
    have HRV : Hid (Y.pe.right = decide (Y.pe.ty = 2)) := Lib.hid (by unfold PE.right; rw [decide_eq_true (show Y.pe.deep ≤ 8 by omega), Bool.and_true])
    rw [hv] at HRT HPK HTY HDE HRG HPX HCT HSA HPN
    have HA := Lib.hid hat
    obtain ⟨ct, hct⟩ : ∃ c, Y.pe.count = c := ⟨_, rfl⟩
    obtain ⟨dp, hdp⟩ : ∃ c, Y.pe.deep = c := ⟨_, rfl⟩
    obtain ⟨ty, hty2⟩ : ∃ c, Y.pe.ty = c := ⟨_, rfl⟩
    rw [hct] at HPK HCT hc6
    rw [hdp] at HRT HDE hdp5
    rw [hty2] at HRT HTY HPN HPZ HRV
    rw [HRV.out] at HRG
    obtain ⟨pr, hpr⟩ : ∃ c, Y.pe.print = c := ⟨_, rfl⟩
    rw [hpr] at HPX HPN HPZ
    clear hat hty hsy e1 e2 e3 hfew hsmall hfits hcnt hv hcs hct hdp hty2 hpr HRV HEQ
    generalize Y.ms.length = lm at *
    generalize Y.ns.length = ln at *
    generalize Y.kids.length = lk at *
    obtain ⟨kk, hkk⟩ : ∃ z, Y.kd = z := ⟨_, rfl⟩
    obtain ⟨nn, hnn⟩ : ∃ z, Y.n = z := ⟨_, rfl⟩
    rw [hkk, hnn] at HBC HRT HPK HTY HDE HRG HPX HCT HSA HPN
    clear hkk hnn
    obtain ⟨x0, x1, x2, x3, x4⟩ := HBC.out wc HA.out
    have HC := Lib.hid (HRT.out wc HA.out)
    go_wp2_with fail
    (with_reducible refine HC.out.mono ?_); rintro e w4 ⟨rfl, hb4⟩
    have HA4 := Lib.hid (HA.out.below hb4)
    clear hb4 HC HA HRT x0 x1 x2 x3 x4
    have d8 : (dp : Int) ≤ 8 := by omega
    have d8n : dp ≤ 8 := by omega
    obtain ⟨P, hP⟩ : ∃ P, (⟨pr.toArray⟩ : ByteArray) = P := ⟨_, rfl⟩
    rw [hP] at HPX HPN
    obtain ⟨y0, y1, y2, y3, y4⟩ := HBC.out _ HA4.out
    by_cases hz : ty = 0
    · have t1 : (ty != 0) = false := by rw [hz]; rfl
      have HE := Lib.hid (show (⟨#[]⟩ : ByteArray) = P by rw [← hP, HPZ.out hz])
      have HA5 := Lib.hid HA4.out
      clear hP hz HPZ HPN HA4
      go_upto_region 8 with fail
      rw [HE.out]
      clear y0 y1 y2 y3 y4 HE
      obtain ⟨y0, y1, y2, y3, y4⟩ := HBC.out _ HA5.out
      have HC := Lib.hid (HPK.out _ HA5.out)
      go_wp2_with fail
      (with_reducible refine HC.out.mono ?_); rintro e w9 ⟨A', c', rfl, hpk⟩
      obtain ⟨l, hown, hl2⟩ := hpk.row
      have HA9 := Lib.hid (HA5.out.below hpk.bel)
      have HSE := Lib.hid (show Slc w9 5 (.slice A' ct c') ct (quint l) from Slc.of_own hown)
      have HL2 := Lib.hid hl2
      clear hpk hown hl2 HC HA5 HPK y0 y1 y2 y3 y4
      go_wp2_with fail
      go_loopg [11, 35] ct (fun g y11 y35 wr => ∃ i : Nat, i + g = ct ∧ y35 = .int .i64 i ∧ y11 = .int .i64 i ∧ Below w9.heap.size w9 wr)
      case atStart => exact ⟨0, by omega, rfl, rfl, Below.refl _ _⟩
      case round =>
        obtain ⟨i, hig, rfl, rfl, hbel⟩ := hrel
        have HBE := Lib.hid hbel
        clear hbel
        cases gk with
        | succ g =>
          have hlt : i < ct := by omega
          obtain ⟨ad, hkl, hAd, e0, e1, e2, e3, e4⟩ := (Slc.slice (HSE.out.below HBE.out)).1.quint hlt
          have h2 := HL2.out l[i] (List.getElem_mem hkl)
          subst hAd
          generalize l[i] = q at *
          obtain ⟨qn, Q1, s1, r1, Q2, s2, r2, Q3, s3, r3, rfl⟩ := h2
          simp only at e0 e1 e2 e3 e4
          have HB2 := Lib.hid (HBE.out.alloc HBE.out.size (.cells #[.int .i64 2, .int .i64 qn, .slice Q1 s1 r1, .slice Q2 s2 r2, .slice Q3 s3 r3] 26))
          clear HBE
          go_wp2_with fail
          go_roundg g
          case measure => omega
          case rel => exact ⟨i + 1, by omega, by first | rfl | go_num, by first | rfl | go_num, HB2.out⟩
        | zero =>
          obtain rfl : i = ct := by omega
          have HQ0 := Lib.hid (HA9.out.below HBE.out)
          clear HA9 HSE HL2 HBE
          obtain ⟨p, hp⟩ : ∃ p, decide (ty = 2) = p := ⟨_, rfl⟩
          have hp2 : (ty == 2) = p := by rw [← hp]; rfl
          rw [hp] at HRG
          clear hp
          cases p with
          | false =>
            obtain ⟨y0, y1, y2, y3, y4⟩ := HBC.out _ HQ0.out
            have HC := Lib.hid (HTY.out _ HQ0.out)
            go_wp2_with fail
            (with_reducible refine HC.out.mono ?_); rintro e v0 ⟨rfl, hb⟩
            have HQ1 := Lib.hid (HQ0.out.below hb)
            clear hb HC HQ0 y0 y1 y2 y3 y4
            obtain ⟨y0, y1, y2, y3, y4⟩ := HBC.out _ HQ1.out
            have HC := Lib.hid (HDE.out _ HQ1.out)
            go_wp2_with fail
            (with_reducible refine HC.out.mono ?_); rintro e v1 ⟨rfl, hb⟩
            have HQ2 := Lib.hid (HQ1.out.below hb)
            clear hb HC HQ1 y0 y1 y2 y3 y4
            obtain ⟨y0, y1, y2, y3, y4⟩ := HBC.out _ HQ2.out
            have HC := Lib.hid (HRG.out _ HQ2.out)
            go_wp2_with fail
            (with_reducible refine HC.out.mono ?_); rintro e v2 ⟨rfl, hb⟩
            have HQ3 := Lib.hid (HQ2.out.below hb)
            clear hb HC HQ2 y0 y1 y2 y3 y4
            obtain ⟨y0, y1, y2, y3, y4⟩ := HBC.out _ HQ3.out
            have HC := Lib.hid (HPX.out _ HQ3.out)
            go_wp2_with fail
            (with_reducible refine HC.out.mono ?_); rintro e v3 ⟨rfl, hb⟩
            have HQ4 := Lib.hid (HQ3.out.below hb)
            clear hb HC HQ3 y0 y1 y2 y3 y4
            obtain ⟨y0, y1, y2, y3, y4⟩ := HBC.out _ HQ4.out
            have HC := Lib.hid (HCT.out _ HQ4.out)
            go_wp2_with fail
            (with_reducible refine HC.out.mono ?_); rintro e v4 ⟨rfl, hb⟩
            have HQ5 := Lib.hid (HQ4.out.below hb)
            clear hb HC HQ4 y0 y1 y2 y3 y4
            obtain ⟨y0, y1, y2, y3, y4⟩ := HBC.out _ HQ5.out
            have HC := Lib.hid (HSA.out _ HQ5.out)
            go_wp2_with fail
            (with_reducible refine HC.out.mono ?_); rintro e v5 ⟨rfl, hb⟩
            have HQ6 := Lib.hid (HQ5.out.below hb)
            clear hb HC HQ5 y0 y1 y2 y3 y4
            have HC := Lib.hid (HER.out _ HQ6.out)
            go_wp2_with fail
            (with_reducible refine HC.out.mono ?_); rintro e v6 ⟨rfl, hb⟩
            have HQ7 := Lib.hid (HQ6.out.below hb)
            clear hb HC HQ6
            go_wp2_with fail
            go_ret
            exact ⟨rfl, HQ7.out.bel⟩
          | true =>
            obtain ⟨y0, y1, y2, y3, y4⟩ := HBC.out _ HQ0.out
            have HC := Lib.hid (HTY.out _ HQ0.out)
            go_wp2_with fail
            (with_reducible refine HC.out.mono ?_); rintro e v0 ⟨rfl, hb⟩
            have HQ1 := Lib.hid (HQ0.out.below hb)
            clear hb HC HQ0 y0 y1 y2 y3 y4
            obtain ⟨y0, y1, y2, y3, y4⟩ := HBC.out _ HQ1.out
            have HC := Lib.hid (HDE.out _ HQ1.out)
            go_wp2_with fail
            (with_reducible refine HC.out.mono ?_); rintro e v1 ⟨rfl, hb⟩
            have HQ2 := Lib.hid (HQ1.out.below hb)
            clear hb HC HQ1 y0 y1 y2 y3 y4
            obtain ⟨y0, y1, y2, y3, y4⟩ := HBC.out _ HQ2.out
            have HC := Lib.hid (HRG.out _ HQ2.out)
            go_wp2_with fail
            (with_reducible refine HC.out.mono ?_); rintro e v2 ⟨rfl, hb⟩
            have HQ3 := Lib.hid (HQ2.out.below hb)
            clear hb HC HQ2 y0 y1 y2 y3 y4
            obtain ⟨y0, y1, y2, y3, y4⟩ := HBC.out _ HQ3.out
            have HC := Lib.hid (HPX.out _ HQ3.out)
            go_wp2_with fail
            (with_reducible refine HC.out.mono ?_); rintro e v3 ⟨rfl, hb⟩
            have HQ4 := Lib.hid (HQ3.out.below hb)
            clear hb HC HQ3 y0 y1 y2 y3 y4
            obtain ⟨y0, y1, y2, y3, y4⟩ := HBC.out _ HQ4.out
            have HC := Lib.hid (HCT.out _ HQ4.out)
            go_wp2_with fail
            (with_reducible refine HC.out.mono ?_); rintro e v4 ⟨rfl, hb⟩
            have HQ5 := Lib.hid (HQ4.out.below hb)
            clear hb HC HQ4 y0 y1 y2 y3 y4
            obtain ⟨y0, y1, y2, y3, y4⟩ := HBC.out _ HQ5.out
            have HC := Lib.hid (HSA.out _ HQ5.out)
            go_wp2_with fail
            (with_reducible refine HC.out.mono ?_); rintro e v5 ⟨rfl, hb⟩
            have HQ6 := Lib.hid (HQ5.out.below hb)
            clear hb HC HQ5 y0 y1 y2 y3 y4
            have HC := Lib.hid (HER.out _ HQ6.out)
            go_wp2_with fail
            (with_reducible refine HC.out.mono ?_); rintro e v6 ⟨rfl, hb⟩
            have HQ7 := Lib.hid (HQ6.out.below hb)
            clear hb HC HQ6
            go_wp2_with fail
            go_ret
            exact ⟨rfl, HQ7.out.bel⟩
    · have t1 : (ty != 0) = true := by rw [bne_iff_ne]; exact hz
      have HC := Lib.hid (HPN.out hz _ HA4.out)
      clear hP hz HPZ HPN
      go_wp2_with fail
      (with_reducible refine HC.out.mono ?_); rintro e w5 ⟨rfl, hb5⟩
      have HA5 := Lib.hid (HA4.out.below hb5)
      clear hb5 HC HA4 y0 y1 y2 y3 y4
      go_upto_region 8 with fail
      obtain ⟨y0, y1, y2, y3, y4⟩ := HBC.out _ HA5.out
      have HC := Lib.hid (HPK.out _ HA5.out)
      go_wp2_with fail
      (with_reducible refine HC.out.mono ?_); rintro e w9 ⟨A', c', rfl, hpk⟩
      obtain ⟨l, hown, hl2⟩ := hpk.row
      have HA9 := Lib.hid (HA5.out.below hpk.bel)
      have HSE := Lib.hid (show Slc w9 5 (.slice A' ct c') ct (quint l) from Slc.of_own hown)
      have HL2 := Lib.hid hl2
      clear hpk hown hl2 HC HA5 HPK y0 y1 y2 y3 y4
      go_wp2_with fail
      go_loopg [11, 35] ct (fun g y11 y35 wr => ∃ i : Nat, i + g = ct ∧ y35 = .int .i64 i ∧ y11 = .int .i64 i ∧ Below w9.heap.size w9 wr)
      case atStart => exact ⟨0, by omega, rfl, rfl, Below.refl _ _⟩
      case round =>
        obtain ⟨i, hig, rfl, rfl, hbel⟩ := hrel
        have HBE := Lib.hid hbel
        clear hbel
        cases gk with
        | succ g =>
          have hlt : i < ct := by omega
          obtain ⟨ad, hkl, hAd, e0, e1, e2, e3, e4⟩ := (Slc.slice (HSE.out.below HBE.out)).1.quint hlt
          have h2 := HL2.out l[i] (List.getElem_mem hkl)
          subst hAd
          generalize l[i] = q at *
          obtain ⟨qn, Q1, s1, r1, Q2, s2, r2, Q3, s3, r3, rfl⟩ := h2
          simp only at e0 e1 e2 e3 e4
          have HB2 := Lib.hid (HBE.out.alloc HBE.out.size (.cells #[.int .i64 2, .int .i64 qn, .slice Q1 s1 r1, .slice Q2 s2 r2, .slice Q3 s3 r3] 26))
          clear HBE
          go_wp2_with fail
          go_roundg g
          case measure => omega
          case rel => exact ⟨i + 1, by omega, by first | rfl | go_num, by first | rfl | go_num, HB2.out⟩
        | zero =>
          obtain rfl : i = ct := by omega
          have HQ0 := Lib.hid (HA9.out.below HBE.out)
          clear HA9 HSE HL2 HBE
          obtain ⟨p, hp⟩ : ∃ p, decide (ty = 2) = p := ⟨_, rfl⟩
          have hp2 : (ty == 2) = p := by rw [← hp]; rfl
          rw [hp] at HRG
          clear hp
          cases p with
          | false =>
            obtain ⟨y0, y1, y2, y3, y4⟩ := HBC.out _ HQ0.out
            have HC := Lib.hid (HTY.out _ HQ0.out)
            go_wp2_with fail
            (with_reducible refine HC.out.mono ?_); rintro e v0 ⟨rfl, hb⟩
            have HQ1 := Lib.hid (HQ0.out.below hb)
            clear hb HC HQ0 y0 y1 y2 y3 y4
            obtain ⟨y0, y1, y2, y3, y4⟩ := HBC.out _ HQ1.out
            have HC := Lib.hid (HDE.out _ HQ1.out)
            go_wp2_with fail
            (with_reducible refine HC.out.mono ?_); rintro e v1 ⟨rfl, hb⟩
            have HQ2 := Lib.hid (HQ1.out.below hb)
            clear hb HC HQ1 y0 y1 y2 y3 y4
            obtain ⟨y0, y1, y2, y3, y4⟩ := HBC.out _ HQ2.out
            have HC := Lib.hid (HRG.out _ HQ2.out)
            go_wp2_with fail
            (with_reducible refine HC.out.mono ?_); rintro e v2 ⟨rfl, hb⟩
            have HQ3 := Lib.hid (HQ2.out.below hb)
            clear hb HC HQ2 y0 y1 y2 y3 y4
            obtain ⟨y0, y1, y2, y3, y4⟩ := HBC.out _ HQ3.out
            have HC := Lib.hid (HPX.out _ HQ3.out)
            go_wp2_with fail
            (with_reducible refine HC.out.mono ?_); rintro e v3 ⟨rfl, hb⟩
            have HQ4 := Lib.hid (HQ3.out.below hb)
            clear hb HC HQ3 y0 y1 y2 y3 y4
            obtain ⟨y0, y1, y2, y3, y4⟩ := HBC.out _ HQ4.out
            have HC := Lib.hid (HCT.out _ HQ4.out)
            go_wp2_with fail
            (with_reducible refine HC.out.mono ?_); rintro e v4 ⟨rfl, hb⟩
            have HQ5 := Lib.hid (HQ4.out.below hb)
            clear hb HC HQ4 y0 y1 y2 y3 y4
            obtain ⟨y0, y1, y2, y3, y4⟩ := HBC.out _ HQ5.out
            have HC := Lib.hid (HSA.out _ HQ5.out)
            go_wp2_with fail
            (with_reducible refine HC.out.mono ?_); rintro e v5 ⟨rfl, hb⟩
            have HQ6 := Lib.hid (HQ5.out.below hb)
            clear hb HC HQ5 y0 y1 y2 y3 y4
            have HC := Lib.hid (HER.out _ HQ6.out)
            go_wp2_with fail
            (with_reducible refine HC.out.mono ?_); rintro e v6 ⟨rfl, hb⟩
            have HQ7 := Lib.hid (HQ6.out.below hb)
            clear hb HC HQ6
            go_wp2_with fail
            go_ret
            exact ⟨rfl, HQ7.out.bel⟩
          | true =>
            obtain ⟨y0, y1, y2, y3, y4⟩ := HBC.out _ HQ0.out
            have HC := Lib.hid (HTY.out _ HQ0.out)
            go_wp2_with fail
            (with_reducible refine HC.out.mono ?_); rintro e v0 ⟨rfl, hb⟩
            have HQ1 := Lib.hid (HQ0.out.below hb)
            clear hb HC HQ0 y0 y1 y2 y3 y4
            obtain ⟨y0, y1, y2, y3, y4⟩ := HBC.out _ HQ1.out
            have HC := Lib.hid (HDE.out _ HQ1.out)
            go_wp2_with fail
            (with_reducible refine HC.out.mono ?_); rintro e v1 ⟨rfl, hb⟩
            have HQ2 := Lib.hid (HQ1.out.below hb)
            clear hb HC HQ1 y0 y1 y2 y3 y4
            obtain ⟨y0, y1, y2, y3, y4⟩ := HBC.out _ HQ2.out
            have HC := Lib.hid (HRG.out _ HQ2.out)
            go_wp2_with fail
            (with_reducible refine HC.out.mono ?_); rintro e v2 ⟨rfl, hb⟩
            have HQ3 := Lib.hid (HQ2.out.below hb)
            clear hb HC HQ2 y0 y1 y2 y3 y4
            obtain ⟨y0, y1, y2, y3, y4⟩ := HBC.out _ HQ3.out
            have HC := Lib.hid (HPX.out _ HQ3.out)
            go_wp2_with fail
            (with_reducible refine HC.out.mono ?_); rintro e v3 ⟨rfl, hb⟩
            have HQ4 := Lib.hid (HQ3.out.below hb)
            clear hb HC HQ3 y0 y1 y2 y3 y4
            obtain ⟨y0, y1, y2, y3, y4⟩ := HBC.out _ HQ4.out
            have HC := Lib.hid (HCT.out _ HQ4.out)
            go_wp2_with fail
            (with_reducible refine HC.out.mono ?_); rintro e v4 ⟨rfl, hb⟩
            have HQ5 := Lib.hid (HQ4.out.below hb)
            clear hb HC HQ4 y0 y1 y2 y3 y4
            obtain ⟨y0, y1, y2, y3, y4⟩ := HBC.out _ HQ5.out
            have HC := Lib.hid (HSA.out _ HQ5.out)
            go_wp2_with fail
            (with_reducible refine HC.out.mono ?_); rintro e v5 ⟨rfl, hb⟩
            have HQ6 := Lib.hid (HQ5.out.below hb)
            clear hb HC HQ5 y0 y1 y2 y3 y4
            have HC := Lib.hid (HER.out _ HQ6.out)
            go_wp2_with fail
            (with_reducible refine HC.out.mono ?_); rintro e v6 ⟨rfl, hb⟩
            have HQ7 := Lib.hid (HQ6.out.below hb)
            clear hb HC HQ6
            go_wp2_with fail
            go_ret
            exact ⟨rfl, HQ7.out.bel⟩
end Go.Proofs.YtcaapbbbekggiaaGreatDoor
