/- expr.Same. -/
import Derived.Test.YtcaapbbbekggiaaGreatDoorExprs
namespace Go.Proofs.YtcaapbbbekggiaaGreatDoor
open Go.ChangeShapes Go.WideShapes Go.ChangeAt Go.RowKit
set_option linter.unusedVariables false
set_option linter.unusedSimpArgs false
set_option maxRecDepth 100000
def SameSaid (d : Nat) : Prop := ∀ (a b : XE) (w : World), okX d a w → okX d b w → Calls Tryz.prog 14 #[a.val, b.val] w fun e w' => e = .returned (.bool (eqPE a.pe b.pe)) ∧ Below w.heap.size w w'
set_option maxHeartbeats 4000000 in
theorem eqfunc_x (d : Nat) (IH : SameSaid d) (A : Option Addr) (c : Nat) (ka : List XE) (A2 : Option Addr) (c2 : Nat) (kb : List XE) (w : World) (ha : Slc w 5 (.slice A ka.length c) ka.length (kcells ka)) (hb : Slc w 5 (.slice A2 kb.length c2) kb.length (kcells kb)) (oa : ∀ k ∈ ka, okX d k w) (ob : ∀ k ∈ kb, okX d k w) :
    Calls Tryz.prog 32 #[.slice A ka.length c, .slice A2 kb.length c2, .func (.func 14) #[] #[]] w fun e w' => e = .returned (.bool (eqPs (pesX ka) (pesX kb))) ∧ Below w.heap.size w w' := by
  have HA := Lib.hid (fun V (hV : Below w.heap.size w V) => Slc.slice (ha.below hV)); have HB := Lib.hid (fun V (hV : Below w.heap.size w V) => Slc.slice (hb.below hV))
  have hma := (Slc.slice ha).2; have hmb := (Slc.slice hb).2
  have HOA := Lib.hid (fun V (hV : Below w.heap.size w V) k (hk : k ∈ ka) => okX_below hV d k (oa k hk)); have HOB := Lib.hid (fun V (hV : Below w.heap.size w V) k (hk : k ∈ kb) => okX_below hV d k (ob k hk))
  have HIH := Lib.hid (fun a b V h1 h2 => IH a b V h1 h2)
  obtain ⟨q, hq⟩ : ∃ q, eqPs (pesX ka) (pesX kb) = q := ⟨_, rfl⟩
  have HQ := Lib.hid hq
  rw [hq]
  clear ha hb oa ob IH hq
  go_enter Tryz.func32, Tryz.ntmps32
  by_cases hl : ka.length = kb.length
  · have t3 : ((ka.length : Int) != (kb.length : Int)) = false := by rw [hl]; simp
    have HLE := Lib.hid hl
    obtain ⟨n, hn⟩ : ∃ n, ka.length = n := ⟨_, rfl⟩
    have HNA := Lib.hid hn
    have HNB := Lib.hid (show kb.length = n by rw [← hl]; exact hn)
    rw [HNB.out] at t3 hmb HB ⊢
    rw [hn] at t3 hma HA ⊢
    clear hl hn
    go_wp2_with fail
    go_loopg [7, 17] n (fun g y7 y17 wr => ∃ i : Nat, i + g = n ∧ y17 = .int .i64 i ∧ (pesX ka).take i = (pesX kb).take i ∧ Below w.heap.size w wr)
    case atStart => exact ⟨0, by omega, rfl, by simp, Below.refl _ _⟩
    case round =>
      obtain ⟨i, hig, rfl, htk, hbel⟩ := hrel
      have HT := Lib.hid htk; have HBE := Lib.hid hbel
      clear htk hbel
      cases gk with
      | zero =>
        obtain rfl : i = n := by omega
        have HE := Lib.hid (show q = true by
          rw [← HQ.out, eqPs_iff]
          have h := HT.out
          rw [List.take_of_length_le (by rw [pesX_length, HNA.out]; exact Nat.le_refl _), List.take_of_length_le (by rw [pesX_length, HNB.out]; exact Nat.le_refl _)] at h
          exact h)
        go_wp2_with fail
        go_ret
        exact ⟨by rw [HE.out]; rfl, HBE.out⟩
      | succ g =>
        have hlt : i < n := by omega
        obtain ⟨ada, hal, hAa, e0, e1, e2, e3, e4⟩ := (HA.out _ HBE.out).1.kid hlt
        obtain ⟨adb, hbl, hAb, f0, f1, f2, f3, f4⟩ := (HB.out _ HBE.out).1.kid hlt
        subst hAa; subst hAb
        have hla := World.block_lt_of_cell? wr _ e0
        have hlb := World.block_lt_of_cell? wr _ f0
        have hqa := HOA.out _ HBE.out ka[i] (List.getElem_mem _)
        have hqb := HOB.out _ HBE.out kb[i] (List.getElem_mem _)
        obtain ⟨r, hr⟩ : ∃ r, eqPE (ka[i]'hal).pe (kb[i]'hbl).pe = r := ⟨_, rfl⟩
        have HR : Hid (if r = true then (pesX ka).take (i + 1) = (pesX kb).take (i + 1) else q = false) := Lib.hid (by
          cases r with
          | true =>
            rw [if_pos rfl, List.take_succ_eq_append_getElem (by rw [pesX_length]; exact hal), List.take_succ_eq_append_getElem (by rw [pesX_length]; exact hbl), HT.out, pesX_get ka i hal, pesX_get kb i hbl, (eqPE_iff _ _).1 hr]
          | false =>
            rw [if_neg (by simp), ← HQ.out]
            cases he : eqPs (pesX ka) (pesX kb) with
            | false => rfl
            | true =>
              have h := (eqPs_iff _ _).1 he
              have h2 : (ka[i]'hal).pe = (kb[i]'hbl).pe := by rw [← pesX_get ka i hal, ← pesX_get kb i hbl]; simp only [h]
              rw [eqPE_yes h2] at hr; cases hr)
        have HC0 := Lib.hid (fun V (h1 : okX d (ka[i]'hal) V) (h2 : okX d (kb[i]'hbl) V) => HIH.out (ka[i]'hal) (kb[i]'hbl) V h1 h2)
        rw [hr] at HC0
        clear hr
        generalize ka[i] = qa at *
        generalize kb[i] = qb at *
        obtain ⟨B1, b1, B2, b2, B3, b3, v1, v2, v3⟩ := okX_forms hqa
        obtain ⟨D1, d1, D2, d2, D3, d3, u1, u2, u3⟩ := okX_forms hqb
        rw [v1] at e2; rw [v2] at e3; rw [v3] at e4
        rw [u1] at f2; rw [u2] at f3; rw [u3] at f4
        have hva : qa.val = .agg #[.int .i64 qa.kd, .int .i64 qa.n, .slice B1 qa.ms.length b1, .slice B2 qa.ns.length b2, .slice B3 qa.kids.length b3] := by unfold XE.val; rw [v1, v2, v3]
        have hvb : qb.val = .agg #[.int .i64 qb.kd, .int .i64 qb.n, .slice D1 qb.ms.length d1, .slice D2 qb.ns.length d2, .slice D3 qb.kids.length d3] := by unfold XE.val; rw [u1, u2, u3]
        rw [hva, hvb] at HC0
        have ha2 : Below wr.heap.size wr ((wr.alloc (.cells #[.int .i64 qa.kd, .int .i64 qa.n, .slice B1 qa.ms.length b1, .slice B2 qa.ns.length b2, .slice B3 qa.kids.length b3] 26)).alloc (.cells #[.int .i64 qb.kd, .int .i64 qb.n, .slice D1 qb.ms.length d1, .slice D2 qb.ns.length d2, .slice D3 qb.kids.length d3] 26)) := ((Below.refl _ _).alloc (Nat.le_refl _) _).alloc (by simp) _
        have HCC := Lib.hid (HC0.out _ (okX_below ha2 d _ hqa) (okX_below ha2 d _ hqb))
        have HB2 := Lib.hid (HBE.out.trans (ha2.mono HBE.out.size))
        clear hqa hqb v1 v2 v3 u1 u2 u3 hva hvb ha2 HC0 HBE
        generalize qa.ms.length = l1 at *
        generalize qa.ns.length = l2 at *
        generalize qa.kids.length = l3 at *
        generalize qb.ms.length = m1 at *
        generalize qb.ns.length = m2 at *
        generalize qb.kids.length = m3 at *
        generalize qa.kd = qak at *
        generalize qa.n = qan at *
        generalize qb.kd = qbk at *
        generalize qb.n = qbn at *
        go_wp2_with fail
        (with_reducible refine HCC.out.mono ?_); rintro e w3 ⟨rfl, hb3⟩
        have HB3 := Lib.hid (HB2.out.trans (hb3.mono HB2.out.size))
        clear hb3 HCC HB2
        cases r with
        | true =>
          have HTN := Lib.hid (show (pesX ka).take (i + 1) = (pesX kb).take (i + 1) by have h := HR.out; rw [if_pos rfl] at h; exact h)
          clear HR
          go_wp2_with fail
          go_roundg g
          case measure => omega
          case rel => exact ⟨i + 1, by omega, by go_num, HTN.out, HB3.out⟩
        | false =>
          have HE := Lib.hid (show q = false by have h := HR.out; rw [if_neg (by simp)] at h; exact h)
          clear HR
          go_wp2_with fail
          go_ret
          exact ⟨by rw [HE.out]; rfl, HB3.out⟩
  · have t3 : ((ka.length : Int) != (kb.length : Int)) = true := by rw [bne_iff_ne]; omega
    have HE := Lib.hid (show q = false by
      rw [← HQ.out]
      cases he : eqPs (pesX ka) (pesX kb) with
      | false => rfl
      | true =>
        have := congrArg List.length ((eqPs_iff _ _).1 he)
        rw [pesX_length, pesX_length] at this
        exact absurd this hl)
    clear hl
    go_wp2_with fail
    go_ret
    exact ⟨by rw [HE.out]; rfl, Below.refl _ _⟩
set_option maxHeartbeats 4000000 in
theorem same_step (d : Nat) (IH : SameSaid d) : SameSaid (d + 1) := by
  intro a b w hoka hokb
  obtain ⟨Aa1, ca1, Aa2, ca2, Aa3, ca3, e1, e2, e3⟩ := okX_forms hoka
  obtain ⟨kka, nna, mva, msa, nva, nsa, kva, ka⟩ := a
  simp only [XE.mv, XE.nv, XE.kv, XE.ms, XE.ns, XE.kids] at e1 e2 e3
  subst e1; subst e2; subst e3
  obtain ⟨Ab1, cb1, Ab2, cb2, Ab3, cb3, e1, e2, e3⟩ := okX_forms hokb
  obtain ⟨kkb, nnb, mvb, msb, nvb, nsb, kvb, kb⟩ := b
  simp only [XE.mv, XE.nv, XE.kv, XE.ms, XE.ns, XE.kids] at e1 e2 e3
  subst e1; subst e2; subst e3
  have hsz : (w.alloc (.cells #[.int .i64 kka, .int .i64 nna, .slice Aa1 msa.length ca1, .slice Aa2 nsa.length ca2, .slice Aa3 ka.length ca3] 26)).heap.size = w.heap.size + 1 := by simp
  have hb : Below w.heap.size w ((w.alloc (.cells #[.int .i64 kka, .int .i64 nna, .slice Aa1 msa.length ca1, .slice Aa2 nsa.length ca2, .slice Aa3 ka.length ca3] 26)).alloc (.cells #[.int .i64 kkb, .int .i64 nnb, .slice Ab1 msb.length cb1, .slice Ab2 nsb.length cb2, .slice Ab3 kb.length cb3] 26)) := ((Below.refl _ _).alloc (Nat.le_refl _) _).alloc (by simp) _
  obtain ⟨oa1, oa2, oa3, oa4⟩ := hoka
  obtain ⟨ob1, ob2, ob3, ob4⟩ := hokb
  simp only [XE.mv, XE.nv, XE.kv, XE.ms, XE.ns, XE.kids] at oa1 oa2 oa3 oa4 ob1 ob2 ob3 ob4
  have HM1 := Lib.hid (Slc.slice (oa1.below hb)); have HM2 := Lib.hid (Slc.slice (ob1.below hb))
  have HN1 := Lib.hid (fun V (hV : Below w.heap.size w V) => Slc.slice (oa2.below hV)); have HN2 := Lib.hid (fun V (hV : Below w.heap.size w V) => Slc.slice (ob2.below hV))
  have HF := Lib.hid (fun V (hV : Below w.heap.size w V) => eqfunc_x d IH Aa3 ca3 ka Ab3 cb3 kb V (oa3.below hV) (ob3.below hV) (fun k hk => okX_below hV d k (oa4 k hk)) (fun k hk => okX_below hV d k (ob4 k hk)))
  have HB0 := Lib.hid hb
  have HX0 : Hid (Blk ((w.alloc (.cells #[.int .i64 kka, .int .i64 nna, .slice Aa1 msa.length ca1, .slice Aa2 nsa.length ca2, .slice Aa3 ka.length ca3] 26)).alloc (.cells #[.int .i64 kkb, .int .i64 nnb, .slice Ab1 msb.length cb1, .slice Ab2 nsb.length cb2, .slice Ab3 kb.length cb3] 26)) w.heap.size 26 [.int .i64 kka, .int .i64 nna, .slice Aa1 msa.length ca1, .slice Aa2 nsa.length ca2, .slice Aa3 ka.length ca3]) := Lib.hid ((Blk.mk (heap_alloc_new w _)).alloc _)
  have HY0 : Hid (Blk ((w.alloc (.cells #[.int .i64 kka, .int .i64 nna, .slice Aa1 msa.length ca1, .slice Aa2 nsa.length ca2, .slice Aa3 ka.length ca3] 26)).alloc (.cells #[.int .i64 kkb, .int .i64 nnb, .slice Ab1 msb.length cb1, .slice Ab2 nsb.length cb2, .slice Ab3 kb.length cb3] 26)) (w.heap.size + 1) 26 [.int .i64 kkb, .int .i64 nnb, .slice Ab1 msb.length cb1, .slice Ab2 nsb.length cb2, .slice Ab3 kb.length cb3]) := Lib.hid (by have hh := (Blk.mk (heap_alloc_new (w.alloc (.cells #[.int .i64 kka, .int .i64 nna, .slice Aa1 msa.length ca1, .slice Aa2 nsa.length ca2, .slice Aa3 ka.length ca3] 26)) (.cells #[.int .i64 kkb, .int .i64 nnb, .slice Ab1 msb.length cb1, .slice Ab2 nsb.length cb2, .slice Ab3 kb.length cb3] 26)) : Blk _ (w.alloc (.cells #[.int .i64 kka, .int .i64 nna, .slice Aa1 msa.length ca1, .slice Aa2 nsa.length ca2, .slice Aa3 ka.length ca3] 26)).heap.size 26 [.int .i64 kkb, .int .i64 nnb, .slice Ab1 msb.length cb1, .slice Ab2 nsb.length cb2, .slice Ab3 kb.length cb3]); rw [hsz] at hh; exact hh)
  obtain ⟨q, hq⟩ : ∃ q, eqPE (PE.mk kka nna msa nsa (pesX ka)) (PE.mk kkb nnb msb nsb (pesX kb)) = q := ⟨_, rfl⟩
  have HQ := Lib.hid (show q = (decide (kka = kkb) && (decide (nna = nnb) && (decide (msa = msb) && (decide (nsa = nsb) && eqPs (pesX ka) (pesX kb))))) by rw [← hq]; unfold eqPE; rfl)
  show Calls Tryz.prog 14 #[.agg #[.int .i64 kka, .int .i64 nna, .slice Aa1 msa.length ca1, .slice Aa2 nsa.length ca2, .slice Aa3 ka.length ca3], .agg #[.int .i64 kkb, .int .i64 nnb, .slice Ab1 msb.length cb1, .slice Ab2 nsb.length cb2, .slice Ab3 kb.length cb3]] w fun e w' => e = .returned (.bool (eqPE (PE.mk kka nna msa nsa (pesX ka)) (PE.mk kkb nnb msb nsb (pesX kb)))) ∧ Below w.heap.size w w'
  rw [hq]
  clear hq oa1 oa2 oa3 oa4 ob1 ob2 ob3 ob4 hb hsz IH
  have HG := Lib.hid (show ∃ g, w.heap.size = g from ⟨_, rfl⟩)
  have HG1 := Lib.hid (show ∃ g, w.heap.size + 1 = g from ⟨_, rfl⟩)
  go_enter Tryz.func14, Tryz.ntmps14
  go_upto_region 1 with fail
  obtain ⟨bb, hbb⟩ := HG1.out
  rw [hbb] at HY0 ⊢
  obtain ⟨ba, hba⟩ := HG.out
  rw [hba] at HX0 ⊢
  clear HG HG1 hba hbb
  generalize (w.alloc (.cells #[.int .i64 kka, .int .i64 nna, .slice Aa1 msa.length ca1, .slice Aa2 nsa.length ca2, .slice Aa3 ka.length ca3] 26)).alloc (.cells #[.int .i64 kkb, .int .i64 nnb, .slice Ab1 msb.length cb1, .slice Ab2 nsb.length cb2, .slice Ab3 kb.length cb3] 26) = W2 at *
  obtain ⟨x0, x1, x2, x3, x4⟩ := blk_cells5 HX0.out
  obtain ⟨y0, y1, y2, y3, y4⟩ := blk_cells5 HY0.out
  by_cases hk : kka = kkb
  · have t1 : (kka == kkb) = true := by rw [hk]; simp
    by_cases hn : nna = nnb
    · have t2 : (nna == nnb) = true := by rw [hn]; simp
      obtain ⟨p1, hp1⟩ : ∃ p, decide (msa = msb) = p := ⟨_, rfl⟩
      obtain ⟨p2, hp2⟩ : ∃ p, decide (nsa = nsb) = p := ⟨_, rfl⟩
      have HC1 := Lib.hid (equal_mtc Aa1 Ab1 _ ca1 _ cb1 _ _ msa msb W2 HM1.out.1 HM2.out.1 (Nat.le_trans HM1.out.2.1 HM1.out.2.2) (Nat.le_trans HM2.out.2.1 HM2.out.2.2))
      rw [hp1] at HC1
      have HQ2 := Lib.hid (show q = (p1 && (p2 && eqPs (pesX ka) (pesX kb))) by rw [HQ.out, decide_eq_true hk, decide_eq_true hn, hp1, hp2]; rfl)
      have HC2 := Lib.hid (fun V (hV : Below w.heap.size w V) => equal_str Aa2 Ab2 _ ca2 _ cb2 _ _ nsa nsb V (HN1.out V hV).1 (HN2.out V hV).1 (Nat.le_trans (HN1.out V hV).2.1 (HN1.out V hV).2.2) (Nat.le_trans (HN2.out V hV).2.1 (HN2.out V hV).2.2))
      rw [hp2] at HC2
      clear hk hn hp1 hp2 HQ HM1 HM2 HN1 HN2
      cases p1 with
      | false =>
        have HE := Lib.hid (show q = false by rw [HQ2.out]; rfl)
        go_wp2_with fail
        (with_reducible refine HC1.out.mono ?_); rintro e w3 ⟨rfl, m, rfl⟩
        have HB := Lib.hid (HB0.out.trans ((below_dn2 W2 m).mono HB0.out.size))
        go_wp2_with fail
        go_ret
        exact ⟨by rw [HE.out]; rfl, HB.out⟩
      | true =>
        go_wp2_with fail
        (with_reducible refine HC1.out.mono ?_); rintro e w3 ⟨rfl, m, rfl⟩
        have hbm := below_dn2 W2 m
        have HB1 := Lib.hid (HB0.out.trans (hbm.mono HB0.out.size))
        have HX1 := Lib.hid (HX0.out.below hbm HX0.out.lt); have HY1 := Lib.hid (HY0.out.below hbm HY0.out.lt)
        clear HB0 HX0 HY0 HC1 x0 x1 x2 x3 x4 y0 y1 y2 y3 y4 hbm
        generalize W2.drewN m = W3 at *
        obtain ⟨x0, x1, x2, x3, x4⟩ := blk_cells5 HX1.out
        obtain ⟨y0, y1, y2, y3, y4⟩ := blk_cells5 HY1.out
        cases p2 with
        | false =>
          have HE := Lib.hid (show q = false by rw [HQ2.out]; rfl)
          go_wp2_with fail
          (with_reducible refine (HC2.out _ HB1.out).mono ?_); rintro e w4 ⟨rfl, m2, rfl⟩
          have HB := Lib.hid (HB1.out.trans ((below_dn2 W3 m2).mono HB1.out.size))
          go_wp2_with fail
          go_ret
          exact ⟨by rw [HE.out]; rfl, HB.out⟩
        | true =>
          have HQ3 := Lib.hid (show eqPs (pesX ka) (pesX kb) = q by rw [HQ2.out]; rfl)
          clear HQ2
          go_wp2_with fail
          (with_reducible refine (HC2.out _ HB1.out).mono ?_); rintro e w4 ⟨rfl, m2, rfl⟩
          have hbm := below_dn2 W3 m2
          have HB2 := Lib.hid (HB1.out.trans (hbm.mono HB1.out.size))
          have HX2 := Lib.hid (HX1.out.below hbm HX1.out.lt); have HY2 := Lib.hid (HY1.out.below hbm HY1.out.lt)
          clear HB1 HX1 HY1 HC2 x0 x1 x2 x3 x4 y0 y1 y2 y3 y4 hbm
          generalize W3.drewN m2 = W4 at *
          obtain ⟨x0, x1, x2, x3, x4⟩ := blk_cells5 HX2.out
          obtain ⟨y0, y1, y2, y3, y4⟩ := blk_cells5 HY2.out
          have HFC := Lib.hid (HF.out W4 HB2.out)
          rw [HQ3.out] at HFC
          go_wp2_with fail
          (with_reducible refine HFC.out.mono ?_); rintro e w5 ⟨rfl, hb⟩
          have HB3 := Lib.hid (HB2.out.trans (hb.mono HB2.out.size))
          clear hb
          go_wp2_with fail
          go_ret
          exact ⟨rfl, HB3.out⟩
    · have t2 : (nna == nnb) = false := by rw [beq_eq_false_iff_ne]; exact hn
      have HE := Lib.hid (show q = false by rw [HQ.out, decide_eq_false hn]; simp)
      clear hk hn
      go_wp2_with fail
      go_ret
      exact ⟨by rw [HE.out]; rfl, HB0.out⟩
  · have t1 : (kka == kkb) = false := by rw [beq_eq_false_iff_ne]; exact hk
    have HE := Lib.hid (show q = false by rw [HQ.out, decide_eq_false hk]; rfl)
    clear hk
    go_wp2_with fail
    go_ret
    exact ⟨by rw [HE.out]; rfl, HB0.out⟩
theorem sameX_any : ∀ d, SameSaid d
  | 0 => fun a b w h => h.elim
  | d + 1 => same_step d (sameX_any d)
end Go.Proofs.YtcaapbbbekggiaaGreatDoor
