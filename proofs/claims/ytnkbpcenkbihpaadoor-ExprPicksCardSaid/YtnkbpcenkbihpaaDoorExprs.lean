/- klaxonkeep.Exprs. -/
import Derived.Test.YtnkbpcenkbihpaaDoorDeep
import Derived.Test.YtnkbpcenkbihpaaDoorSameMtc
import Derived.Test.YtnkbpcenkbihpaaDoorSameStr
namespace Go.Proofs.YtnkbpcenkbihpaaDoor
open Go.ChangeShapes Go.WideShapes Go.ChangeAt Go.RowKit
set_option linter.unusedVariables false
set_option linter.unusedSimpArgs false
set_option maxRecDepth 100000
theorem below_dn2 (w : World) (k : Nat) : Below w.heap.size w (w.drewN k) := { size := Nat.le_refl _, os := rfl, tape := rfl, output := rfl, block := fun _ _ => rfl }
mutual
/-- Are two expressions the same. -/
def eqPE : PE → PE → Bool
  | .mk k n ms ns ks, .mk k' n' ms' ns' ks' => decide (k = k') && (decide (n = n') && (decide (ms = ms') && (decide (ns = ns') && eqPs ks ks')))
def eqPs : List PE → List PE → Bool
  | [], [] => true
  | x :: l, y :: m => eqPE x y && eqPs l m
  | [], _ :: _ => false
  | _ :: _, [] => false
end
mutual
theorem eqPE_iff : ∀ (a b : PE), eqPE a b = true ↔ a = b
  | .mk k n ms ns ks, .mk k' n' ms' ns' ks' => by
    unfold eqPE
    rw [Bool.and_eq_true, Bool.and_eq_true, Bool.and_eq_true, Bool.and_eq_true, decide_eq_true_iff, decide_eq_true_iff, decide_eq_true_iff, decide_eq_true_iff, eqPs_iff ks ks']
    constructor
    · rintro ⟨rfl, rfl, rfl, rfl, rfl⟩; rfl
    · intro h; injection h with h1 h2 h3 h4 h5; exact ⟨h1, h2, h3, h4, h5⟩
theorem eqPs_iff : ∀ (a b : List PE), eqPs a b = true ↔ a = b
  | [], [] => by simp [eqPs]
  | x :: l, y :: m => by
    unfold eqPs
    rw [Bool.and_eq_true, eqPE_iff x y, eqPs_iff l m]
    constructor
    · rintro ⟨rfl, rfl⟩; rfl
    · intro h; injection h with h1 h2; exact ⟨h1, h2⟩
  | [], y :: m => by simp [eqPs]
  | x :: l, [] => by simp [eqPs]
end
theorem eqPE_no {a b : PE} (h : a ≠ b) : eqPE a b = false := by
  cases he : eqPE a b with
  | false => rfl
  | true => exact absurd ((eqPE_iff a b).1 he) h
theorem eqPE_yes {a b : PE} (h : a = b) : eqPE a b = true := (eqPE_iff a b).2 h
theorem pesX_get (l : List XE) (i : Nat) (h : i < l.length) : (pesX l)[i]'(by rw [pesX_length]; exact h) = l[i].pe := by
  simp only [pesX_map, List.getElem_map]
def ExprsSaid (d : Nat) : Prop := ∀ (a b : XE) (w : World), okX d a w → okX d b w → a.pe.small → Calls Tryd.prog 15 #[a.val, b.val] w fun e w' => e = .returned (.bool (eqPE a.pe b.pe)) ∧ Below w.heap.size w w'
/-- Within Exprs: both boxes, both rows of kids. -/
structure EqAt (d : Nat) (w0 : World) (sa : Value) (ka : List XE) (sb : Value) (kb : List XE) (ba bb : Nat) (va vb : List Value) (w : World) : Prop where
  bel : Below w0.heap.size w0 w
  xa : Blk w ba 26 va
  xb : Blk w bb 26 vb
  ra : Slc w 5 sa ka.length (kcells ka)
  rb : Slc w 5 sb kb.length (kcells kb)
  oa : ∀ k ∈ ka, okX d k w
  ob : ∀ k ∈ kb, okX d k w
theorem EqAt.below {d : Nat} {w0 w w' : World} {sa sb : Value} {ka kb : List XE} {ba bb : Nat} {va vb : List Value} (h : EqAt d w0 sa ka sb kb ba bb va vb w) (hb : Below w.heap.size w w') : EqAt d w0 sa ka sb kb ba bb va vb w' :=
  ⟨h.bel.trans (hb.mono h.bel.size), h.xa.below hb h.xa.lt, h.xb.below hb h.xb.lt, h.ra.below hb, h.rb.below hb, fun k hk => okX_below hb d k (h.oa k hk), fun k hk => okX_below hb d k (h.ob k hk)⟩
set_option maxHeartbeats 4000000 in
theorem exprs_step (d : Nat) (IH : ExprsSaid d) : ExprsSaid (d + 1) := by
  intro a b w hoka hokb hsm
  obtain ⟨Aa1, ca1, Aa2, ca2, Aa3, ca3, e1, e2, e3⟩ := okX_forms hoka
  obtain ⟨kka, nna, mva, msa, nva, nsa, kva, ka⟩ := a
  simp only [XE.mv, XE.nv, XE.kv, XE.ms, XE.ns, XE.kids] at e1 e2 e3
  subst e1; subst e2; subst e3
  obtain ⟨Ab1, cb1, Ab2, cb2, Ab3, cb3, e1, e2, e3⟩ := okX_forms hokb
  obtain ⟨kkb, nnb, mvb, msb, nvb, nsb, kvb, kb⟩ := b
  simp only [XE.mv, XE.nv, XE.kv, XE.ms, XE.ns, XE.kids] at e1 e2 e3
  subst e1; subst e2; subst e3
  obtain ⟨hs1, hs2, hs3, hsk⟩ := (show msa.length ≤ 1000002 ∧ nsa.length ≤ 1000002 ∧ (pesX ka).length ≤ 1000002 ∧ smallP (pesX ka) from hsm)
  rw [pesX_length] at hs3
  have hsz : (w.alloc (.cells #[.int .i64 kka, .int .i64 nna, .slice Aa1 msa.length ca1, .slice Aa2 nsa.length ca2, .slice Aa3 ka.length ca3] 26)).heap.size = w.heap.size + 1 := by simp
  have hb : Below w.heap.size w ((w.alloc (.cells #[.int .i64 kka, .int .i64 nna, .slice Aa1 msa.length ca1, .slice Aa2 nsa.length ca2, .slice Aa3 ka.length ca3] 26)).alloc (.cells #[.int .i64 kkb, .int .i64 nnb, .slice Ab1 msb.length cb1, .slice Ab2 nsb.length cb2, .slice Ab3 kb.length cb3] 26)) := ((Below.refl _ _).alloc (Nat.le_refl _) _).alloc (by simp) _
  obtain ⟨oa1, oa2, oa3, oa4⟩ := hoka
  obtain ⟨ob1, ob2, ob3, ob4⟩ := hokb
  simp only [XE.mv, XE.nv, XE.kv, XE.ms, XE.ns, XE.kids] at oa1 oa2 oa3 oa4 ob1 ob2 ob3 ob4
  have HM1 := Lib.hid (Slc.slice (oa1.below hb)); have HM2 := Lib.hid (Slc.slice (ob1.below hb))
  have HN1 := Lib.hid (fun V (hV : Below w.heap.size w V) => Slc.slice (oa2.below hV)); have HN2 := Lib.hid (fun V (hV : Below w.heap.size w V) => Slc.slice (ob2.below hV))
  have HE0 : Hid (EqAt d w (.slice Aa3 ka.length ca3) ka (.slice Ab3 kb.length cb3) kb w.heap.size (w.heap.size + 1) [.int .i64 kka, .int .i64 nna, .slice Aa1 msa.length ca1, .slice Aa2 nsa.length ca2, .slice Aa3 ka.length ca3] [.int .i64 kkb, .int .i64 nnb, .slice Ab1 msb.length cb1, .slice Ab2 nsb.length cb2, .slice Ab3 kb.length cb3] ((w.alloc (.cells #[.int .i64 kka, .int .i64 nna, .slice Aa1 msa.length ca1, .slice Aa2 nsa.length ca2, .slice Aa3 ka.length ca3] 26)).alloc (.cells #[.int .i64 kkb, .int .i64 nnb, .slice Ab1 msb.length cb1, .slice Ab2 nsb.length cb2, .slice Ab3 kb.length cb3] 26))) := Lib.hid ⟨hb, (Blk.mk (heap_alloc_new w _)).alloc _, by have hh := (Blk.mk (heap_alloc_new (w.alloc (.cells #[.int .i64 kka, .int .i64 nna, .slice Aa1 msa.length ca1, .slice Aa2 nsa.length ca2, .slice Aa3 ka.length ca3] 26)) (.cells #[.int .i64 kkb, .int .i64 nnb, .slice Ab1 msb.length cb1, .slice Ab2 nsb.length cb2, .slice Ab3 kb.length cb3] 26)) : Blk _ (w.alloc (.cells #[.int .i64 kka, .int .i64 nna, .slice Aa1 msa.length ca1, .slice Aa2 nsa.length ca2, .slice Aa3 ka.length ca3] 26)).heap.size 26 [.int .i64 kkb, .int .i64 nnb, .slice Ab1 msb.length cb1, .slice Ab2 nsb.length cb2, .slice Ab3 kb.length cb3]); rw [hsz] at hh; exact hh, oa3.below hb, ob3.below hb, fun k hk => okX_below hb d k (oa4 k hk), fun k hk => okX_below hb d k (ob4 k hk)⟩
  have HIH := Lib.hid (fun (x y : XE) (V : World) (h1 : okX d x V) (h2 : okX d y V) (h3 : x.pe.small) => IH x y V h1 h2 h3)
  have HSK := Lib.hid (fun x (hx : x ∈ ka) => smallP_mem ka hsk x hx)
  obtain ⟨q, hq⟩ : ∃ q, eqPE (PE.mk kka nna msa nsa (pesX ka)) (PE.mk kkb nnb msb nsb (pesX kb)) = q := ⟨_, rfl⟩
  have HQ := Lib.hid (show q = (decide (kka = kkb) && (decide (nna = nnb) && (decide (msa = msb) && (decide (nsa = nsb) && eqPs (pesX ka) (pesX kb))))) by rw [← hq]; unfold eqPE; rfl)
  show Calls Tryd.prog 15 #[.agg #[.int .i64 kka, .int .i64 nna, .slice Aa1 msa.length ca1, .slice Aa2 nsa.length ca2, .slice Aa3 ka.length ca3], .agg #[.int .i64 kkb, .int .i64 nnb, .slice Ab1 msb.length cb1, .slice Ab2 nsb.length cb2, .slice Ab3 kb.length cb3]] w fun e w' => e = .returned (.bool (eqPE (PE.mk kka nna msa nsa (pesX ka)) (PE.mk kkb nnb msb nsb (pesX kb)))) ∧ Below w.heap.size w w'
  rw [hq]
  clear hq oa1 oa2 oa3 oa4 ob1 ob2 ob3 ob4 hb hsz hsm hsk IH
  have HG := Lib.hid (show ∃ g, w.heap.size = g from ⟨_, rfl⟩)
  have HG1 := Lib.hid (show ∃ g, w.heap.size + 1 = g from ⟨_, rfl⟩)
  go_enter Tryd.func15, Tryd.ntmps15
  go_upto_region 1 with fail
  obtain ⟨bb, hbb⟩ := HG1.out
  rw [hbb] at HE0 ⊢
  obtain ⟨ba, hba⟩ := HG.out
  rw [hba] at HE0 ⊢
  clear HG HG1 hba hbb
  generalize (w.alloc (.cells #[.int .i64 kka, .int .i64 nna, .slice Aa1 msa.length ca1, .slice Aa2 nsa.length ca2, .slice Aa3 ka.length ca3] 26)).alloc (.cells #[.int .i64 kkb, .int .i64 nnb, .slice Ab1 msb.length cb1, .slice Ab2 nsb.length cb2, .slice Ab3 kb.length cb3] 26) = W2 at *
  obtain ⟨x0, x1, x2, x3, x4⟩ := blk_cells5 HE0.out.xa
  obtain ⟨y0, y1, y2, y3, y4⟩ := blk_cells5 HE0.out.xb
  by_cases hk : kka = kkb
  · have t1 : (kka != kkb) = false := by rw [hk]; simp
    by_cases hn : nna = nnb
    · have t2 : (nna != nnb) = false := by rw [hn]; simp
      obtain ⟨p1, hp1⟩ : ∃ p, decide (msa = msb) = p := ⟨_, rfl⟩
      obtain ⟨p2, hp2⟩ : ∃ p, decide (nsa = nsb) = p := ⟨_, rfl⟩
      have HC1 := Lib.hid (same_mtc Aa1 Ab1 _ ca1 _ cb1 _ _ msa msb W2 HM1.out.1 HM2.out.1 (Nat.le_trans HM1.out.2.1 HM1.out.2.2) (Nat.le_trans HM2.out.2.1 HM2.out.2.2))
      rw [hp1] at HC1
      have HQ2 := Lib.hid (show q = (p1 && (p2 && eqPs (pesX ka) (pesX kb))) by rw [HQ.out, decide_eq_true hk, decide_eq_true hn, hp1, hp2]; rfl)
      have HC2 := Lib.hid (fun V (hV : Below w.heap.size w V) => same_str Aa2 Ab2 _ ca2 _ cb2 _ _ nsa nsb V (HN1.out V hV).1 (HN2.out V hV).1 (Nat.le_trans (HN1.out V hV).2.1 (HN1.out V hV).2.2) (Nat.le_trans (HN2.out V hV).2.1 (HN2.out V hV).2.2))
      rw [hp2] at HC2
      clear hk hn hp1 hp2 HQ HM1 HM2 HN1 HN2
      cases p1 with
      | false =>
        have HE := Lib.hid (show q = false by rw [HQ2.out]; rfl)
        go_wp2_with fail
        (with_reducible refine HC1.out.mono ?_); rintro e w3 ⟨rfl, m, rfl⟩
        have HB := Lib.hid (HE0.out.bel.trans ((below_dn2 W2 m).mono HE0.out.bel.size))
        go_wp2_with fail
        go_ret
        exact ⟨by rw [HE.out]; rfl, HB.out⟩
      | true =>
        go_wp2_with fail
        (with_reducible refine HC1.out.mono ?_); rintro e w3 ⟨rfl, m, rfl⟩
        have HE1 := Lib.hid (HE0.out.below (below_dn2 W2 m))
        clear HE0 HC1 x0 x1 x2 x3 x4 y0 y1 y2 y3 y4
        generalize W2.drewN m = W3 at *
        obtain ⟨x0, x1, x2, x3, x4⟩ := blk_cells5 HE1.out.xa
        obtain ⟨y0, y1, y2, y3, y4⟩ := blk_cells5 HE1.out.xb
        cases p2 with
        | false =>
          have HE := Lib.hid (show q = false by rw [HQ2.out]; rfl)
          go_wp2_with fail
          (with_reducible refine (HC2.out _ HE1.out.bel).mono ?_); rintro e w4 ⟨rfl, m2, rfl⟩
          have HB := Lib.hid (HE1.out.bel.trans ((below_dn2 W3 m2).mono HE1.out.bel.size))
          go_wp2_with fail
          go_ret
          exact ⟨by rw [HE.out]; rfl, HB.out⟩
        | true =>
          have HQ3 := Lib.hid (show q = eqPs (pesX ka) (pesX kb) by rw [HQ2.out]; rfl)
          clear HQ2
          go_wp2_with fail
          (with_reducible refine (HC2.out _ HE1.out.bel).mono ?_); rintro e w4 ⟨rfl, m2, rfl⟩
          have HE2 := Lib.hid (HE1.out.below (below_dn2 W3 m2))
          clear HE1 HC2 x0 x1 x2 x3 x4 y0 y1 y2 y3 y4
          generalize W3.drewN m2 = W4 at *
          obtain ⟨x0, x1, x2, x3, x4⟩ := blk_cells5 HE2.out.xa
          obtain ⟨y0, y1, y2, y3, y4⟩ := blk_cells5 HE2.out.xb
          by_cases hl : ka.length = kb.length
          · have t3 : ((ka.length : Int) != (kb.length : Int)) = false := by rw [hl]; simp
            have HLE := Lib.hid hl
            rw [← hl] at HE2 y4
            clear hl
            have hm1 := (Slc.slice HE2.out.ra).2
            have hm2 := (Slc.slice HE2.out.rb).2
            rw [← HLE.out] at hm2
            go_wp2_with fail
            clear x0 x1 x2 x3 x4 y0 y1 y2 y3 y4
            go_loopg [5, 46] ka.length (fun g y5 y46 wr => ∃ i : Nat, i + g = ka.length ∧ y46 = .int .i64 i ∧ (pesX ka).take i = (pesX kb).take i ∧ EqAt d w (.slice Aa3 ka.length ca3) ka (.slice Ab3 ka.length cb3) kb ba bb [.int .i64 kka, .int .i64 nna, .slice Aa1 msa.length ca1, .slice Aa2 nsa.length ca2, .slice Aa3 ka.length ca3] [.int .i64 kkb, .int .i64 nnb, .slice Ab1 msb.length cb1, .slice Ab2 nsb.length cb2, .slice Ab3 ka.length cb3] wr)
            case atStart => exact ⟨0, by omega, rfl, by simp, HE2.out⟩
            case round =>
              obtain ⟨i, hig, rfl, htk, hat⟩ := hrel
              have HT := Lib.hid htk
              have HA := Lib.hid hat
              clear htk hat HE2
              cases gk with
              | zero =>
                obtain rfl : i = ka.length := by omega
                have HE := Lib.hid (show q = true by
                  rw [HQ3.out, eqPs_iff]
                  have h := HT.out
                  rw [List.take_of_length_le (by rw [pesX_length]; exact Nat.le_refl _), List.take_of_length_le (by rw [pesX_length, HLE.out]; exact Nat.le_refl _)] at h
                  exact h)
                go_wp2_with fail
                go_ret
                exact ⟨by rw [HE.out]; rfl, HA.out.bel⟩
              | succ g =>
                have hlt : i < ka.length := by omega
                obtain ⟨ada, hal, hAa, _⟩ := (Slc.slice HA.out.ra).1.kid hlt
                obtain ⟨adb, hbl, hAb, _⟩ := (Slc.slice HA.out.rb).1.kid (show i < kb.length by rw [← HLE.out]; exact hlt)
                subst hAa; subst hAb
                have HCA := Lib.hid (fun (V : World) (hV : EqAt d w (.slice (some ada) ka.length ca3) ka (.slice (some adb) ka.length cb3) kb ba bb [.int .i64 kka, .int .i64 nna, .slice Aa1 msa.length ca1, .slice Aa2 nsa.length ca2, .slice (some ada) ka.length ca3] [.int .i64 kkb, .int .i64 nnb, .slice Ab1 msb.length cb1, .slice Ab2 nsb.length cb2, .slice (some adb) ka.length cb3] V) => show V.cell? (ada.add (i * 5)) = some (.int .i64 (ka[i]'hal).kd) ∧ V.cell? ⟨(ada.add (i * 5)).block, (ada.add (i * 5)).off + 1, none⟩ = some (.int .i64 (ka[i]'hal).n) ∧ V.cell? ⟨(ada.add (i * 5)).block, (ada.add (i * 5)).off + 2, none⟩ = some (ka[i]'hal).mv ∧ V.cell? ⟨(ada.add (i * 5)).block, (ada.add (i * 5)).off + 3, none⟩ = some (ka[i]'hal).nv ∧ V.cell? ⟨(ada.add (i * 5)).block, (ada.add (i * 5)).off + 4, none⟩ = some (ka[i]'hal).kv by
                  obtain ⟨ad', hl', hA', h0, h1, h2, h3, h4⟩ := (Slc.slice hV.ra).1.kid hlt
                  injection hA' with hA'; subst hA'
                  exact ⟨h0, h1, h2, h3, h4⟩)
                have HCB := Lib.hid (fun (V : World) (hV : EqAt d w (.slice (some ada) ka.length ca3) ka (.slice (some adb) ka.length cb3) kb ba bb [.int .i64 kka, .int .i64 nna, .slice Aa1 msa.length ca1, .slice Aa2 nsa.length ca2, .slice (some ada) ka.length ca3] [.int .i64 kkb, .int .i64 nnb, .slice Ab1 msb.length cb1, .slice Ab2 nsb.length cb2, .slice (some adb) ka.length cb3] V) => show V.cell? (adb.add (i * 5)) = some (.int .i64 (kb[i]'hbl).kd) ∧ V.cell? ⟨(adb.add (i * 5)).block, (adb.add (i * 5)).off + 1, none⟩ = some (.int .i64 (kb[i]'hbl).n) ∧ V.cell? ⟨(adb.add (i * 5)).block, (adb.add (i * 5)).off + 2, none⟩ = some (kb[i]'hbl).mv ∧ V.cell? ⟨(adb.add (i * 5)).block, (adb.add (i * 5)).off + 3, none⟩ = some (kb[i]'hbl).nv ∧ V.cell? ⟨(adb.add (i * 5)).block, (adb.add (i * 5)).off + 4, none⟩ = some (kb[i]'hbl).kv by
                  obtain ⟨ad', hl', hA', h0, h1, h2, h3, h4⟩ := (Slc.slice hV.rb).1.kid (show i < kb.length by rw [← HLE.out]; exact hlt)
                  injection hA' with hA'; subst hA'
                  exact ⟨h0, h1, h2, h3, h4⟩)
                obtain ⟨r, hr⟩ : ∃ r, eqPE (ka[i]'hal).pe (kb[i]'hbl).pe = r := ⟨_, rfl⟩
                have HCQ := Lib.hid (fun (V : World) (hV : EqAt d w (.slice (some ada) ka.length ca3) ka (.slice (some adb) ka.length cb3) kb ba bb [.int .i64 kka, .int .i64 nna, .slice Aa1 msa.length ca1, .slice Aa2 nsa.length ca2, .slice (some ada) ka.length ca3] [.int .i64 kkb, .int .i64 nnb, .slice Ab1 msb.length cb1, .slice Ab2 nsb.length cb2, .slice (some adb) ka.length cb3] V) => show Calls Tryd.prog 15 #[.agg #[.int .i64 (ka[i]'hal).kd, .int .i64 (ka[i]'hal).n, (ka[i]'hal).mv, (ka[i]'hal).nv, (ka[i]'hal).kv], .agg #[.int .i64 (kb[i]'hbl).kd, .int .i64 (kb[i]'hbl).n, (kb[i]'hbl).mv, (kb[i]'hbl).nv, (kb[i]'hbl).kv]] V fun e w' => e = .returned (.bool r) ∧ Below V.heap.size V w' by
                  rw [← hr]; exact HIH.out _ _ V (hV.oa _ (List.getElem_mem _)) (hV.ob _ (List.getElem_mem _)) (HSK.out _ (List.getElem_mem _)))
                have HR : Hid (if r = true then (pesX ka).take (i + 1) = (pesX kb).take (i + 1) else q = false) := Lib.hid (by
                  cases r with
                  | true =>
                    rw [if_pos rfl, List.take_succ_eq_append_getElem (by rw [pesX_length]; exact hal), List.take_succ_eq_append_getElem (by rw [pesX_length]; exact hbl), HT.out, pesX_get ka i hal, pesX_get kb i hbl, (eqPE_iff _ _).1 hr]
                  | false =>
                    rw [if_neg (by simp), HQ3.out]
                    cases he : eqPs (pesX ka) (pesX kb) with
                    | false => rfl
                    | true =>
                      have h := (eqPs_iff _ _).1 he
                      have h2 : (ka[i]'hal).pe = (kb[i]'hbl).pe := by rw [← pesX_get ka i hal, ← pesX_get kb i hbl]; simp only [h]
                      rw [eqPE_yes h2] at hr; cases hr)
                clear hr
                generalize ka[i] = qa at *
                generalize kb[i] = qb at *
                have hi0 : (0 : Int) ≤ i := by omega
                have hi1 : (i : Int) < ka.length := by omega
                go_upto_region 6 with fail
                go_cut [60] from 49 to 60 (fun y60 wx => y60 = .bool (!r) ∧ EqAt d w (.slice (some ada) ka.length ca3) ka (.slice (some adb) ka.length cb3) kb ba bb [.int .i64 kka, .int .i64 nna, .slice Aa1 msa.length ca1, .slice Aa2 nsa.length ca2, .slice (some ada) ka.length ca3] [.int .i64 kkb, .int .i64 nnb, .slice Ab1 msb.length cb1, .slice Ab2 nsb.length cb2, .slice (some adb) ka.length cb3] wx)
                case first =>
                  refine wp_region_facts (R := fun a b => Below a.heap.size a b) (G := (fun W => EqAt d w (.slice (some ada) ka.length ca3) ka (.slice (some adb) ka.length cb3) kb ba bb [.int .i64 kka, .int .i64 nna, .slice Aa1 msa.length ca1, .slice Aa2 nsa.length ca2, .slice (some ada) ka.length ca3] [.int .i64 kkb, .int .i64 nnb, .slice Ab1 msb.length cb1, .slice Ab2 nsb.length cb2, .slice (some adb) ka.length cb3] W)) (V := fun i' u' W => match i' with | 0 => u' = .pointer (some ⟨ba, 4, none⟩) | 1 => u' = .slice (some ada) ka.length ca3 | 2 => u' = .int .i64 i | 3 => u' = .pointer (some (ada.add (i * 5))) | 4 => u' = .agg #[.int .i64 qa.kd, .int .i64 qa.n, qa.mv, qa.nv, qa.kv] | 5 => u' = .pointer (some ⟨bb, 4, none⟩) | 6 => u' = .slice (some adb) ka.length cb3 | 7 => u' = .int .i64 i | 8 => u' = .pointer (some (adb.add (i * 5))) | 9 => u' = .agg #[.int .i64 qb.kd, .int .i64 qb.n, qb.mv, qb.nv, qb.kv] | 10 => u' = .bool r | 11 => u' = .bool (!r) | _ => True) (by kernel_rfl) (fun w => Below.refl _ _) (fun a b c h1 h2 => h1.trans (h2.mono h1.size)) (by kernel_rfl) (by kernel_rfl) ?hG ⟨?o0, ?o1, ?o2, ?o3, ?o4, ?o5, ?o6, ?o7, ?o8, ?o9, ?o10, ?o11, trivial⟩ ?hend
                  case o0 =>
                    intro a w hfr hG hd
                    refine ⟨fun hw => ?_, fun hw => absurd hw (by simp [Region.wanted])⟩
                    have s2 : a.tmps.getD 2 undef = .pointer (some ⟨ba, 0, none⟩) := hfr.at 2 (by kernel_rfl)
                    refine op_yields (.pointer (some ⟨ba, 4, none⟩)) ?_ ?_ ?_
                    · simp only [execOp, resolve, List.map_toArray, List.map_cons, List.map_nil, Act.eval, s2]; simp [go_sem, -Array.getD_eq_getD_getElem?, s2]
                    · exact Below.refl _ _
                    · exact (fun _ _ => rfl)
                  case o1 =>
                    intro a w hfr hG hd
                    obtain ⟨d0, _⟩ := hd
                    refine ⟨fun hw => ?_, fun hw => absurd hw (by simp [Region.wanted])⟩
                    have s49 : a.tmps.getD 49 undef = .pointer (some ⟨ba, 4, none⟩) := (d0 rfl).now
                    have z4 := hG.now.xa.cell 4; simp only [List.getElem?_cons_zero, List.getElem?_cons_succ] at z4
                    refine op_yields (.slice (some ada) ka.length ca3) ?_ ?_ ?_
                    · simp only [execOp, resolve, List.map_toArray, List.map_cons, List.map_nil, Act.eval, s49]; simp [go_sem, -Array.getD_eq_getD_getElem?, s49, z4]
                    · exact Below.refl _ _
                    · exact (fun _ _ => rfl)
                  case o2 =>
                    intro a w hfr hG hd
                    refine ⟨fun hw => ?_, fun hw => absurd hw (by simp [Region.wanted])⟩
                    have s5 : a.tmps.getD 5 undef = .int .i64 i := hfr.at 5 (by kernel_rfl)
                    refine op_yields (.int .i64 i) ?_ ?_ ?_
                    · simp only [execOp, resolve, List.map_toArray, List.map_cons, List.map_nil, Act.eval, s5]; simp [go_sem, -Array.getD_eq_getD_getElem?, s5]
                    · exact Below.refl _ _
                    · exact (fun _ _ => rfl)
                  case o3 =>
                    intro a w hfr hG hd
                    obtain ⟨d0, d1, _⟩ := hd
                    refine ⟨fun hw => ?_, fun hw => absurd hw (by simp [Region.wanted])⟩
                    have s50 : a.tmps.getD 50 undef = .slice (some ada) ka.length ca3 := (d0 rfl).now
                    have s51 : a.tmps.getD 51 undef = .int .i64 i := (d1 rfl).now
                    refine op_yields (.pointer (some (ada.add (i * 5)))) ?_ ?_ ?_
                    · simp only [execOp, resolve, List.map_toArray, List.map_cons, List.map_nil, Act.eval, s50, s51]; simp [go_sem, -Array.getD_eq_getD_getElem?, s50, s51, hlt, hi0, hi1]
                    · exact Below.refl _ _
                    · exact (fun _ _ => rfl)
                  case o4 =>
                    intro a w hfr hG hd
                    obtain ⟨d0, _⟩ := hd
                    refine ⟨fun hw => ?_, fun hw => absurd hw (by simp [Region.wanted])⟩
                    have s52 : a.tmps.getD 52 undef = .pointer (some (ada.add (i * 5))) := (d0 rfl).now
                    obtain ⟨z0, z1, z2, z3, z4⟩ := HCA.out w hG.now
                    refine op_yields (.agg #[.int .i64 qa.kd, .int .i64 qa.n, qa.mv, qa.nv, qa.kv]) ?_ ?_ ?_
                    · simp only [execOp, resolve, List.map_toArray, List.map_cons, List.map_nil, Act.eval, s52]; simp [go_sem, -Array.getD_eq_getD_getElem?, s52, z0, z1, z2, z3, z4]
                    · exact Below.refl _ _
                    · exact (fun _ _ => rfl)
                  case o5 =>
                    intro a w hfr hG hd
                    refine ⟨fun hw => ?_, fun hw => absurd hw (by simp [Region.wanted])⟩
                    have s3 : a.tmps.getD 3 undef = .pointer (some ⟨bb, 0, none⟩) := hfr.at 3 (by kernel_rfl)
                    refine op_yields (.pointer (some ⟨bb, 4, none⟩)) ?_ ?_ ?_
                    · simp only [execOp, resolve, List.map_toArray, List.map_cons, List.map_nil, Act.eval, s3]; simp [go_sem, -Array.getD_eq_getD_getElem?, s3]
                    · exact Below.refl _ _
                    · exact (fun _ _ => rfl)
                  case o6 =>
                    intro a w hfr hG hd
                    obtain ⟨d0, _⟩ := hd
                    refine ⟨fun hw => ?_, fun hw => absurd hw (by simp [Region.wanted])⟩
                    have s54 : a.tmps.getD 54 undef = .pointer (some ⟨bb, 4, none⟩) := (d0 rfl).now
                    have z4 := hG.now.xb.cell 4; simp only [List.getElem?_cons_zero, List.getElem?_cons_succ] at z4
                    refine op_yields (.slice (some adb) ka.length cb3) ?_ ?_ ?_
                    · simp only [execOp, resolve, List.map_toArray, List.map_cons, List.map_nil, Act.eval, s54]; simp [go_sem, -Array.getD_eq_getD_getElem?, s54, z4]
                    · exact Below.refl _ _
                    · exact (fun _ _ => rfl)
                  case o7 =>
                    intro a w hfr hG hd
                    refine ⟨fun hw => ?_, fun hw => absurd hw (by simp [Region.wanted])⟩
                    have s5 : a.tmps.getD 5 undef = .int .i64 i := hfr.at 5 (by kernel_rfl)
                    refine op_yields (.int .i64 i) ?_ ?_ ?_
                    · simp only [execOp, resolve, List.map_toArray, List.map_cons, List.map_nil, Act.eval, s5]; simp [go_sem, -Array.getD_eq_getD_getElem?, s5]
                    · exact Below.refl _ _
                    · exact (fun _ _ => rfl)
                  case o8 =>
                    intro a w hfr hG hd
                    obtain ⟨d0, d1, _⟩ := hd
                    refine ⟨fun hw => ?_, fun hw => absurd hw (by simp [Region.wanted])⟩
                    have s55 : a.tmps.getD 55 undef = .slice (some adb) ka.length cb3 := (d0 rfl).now
                    have s56 : a.tmps.getD 56 undef = .int .i64 i := (d1 rfl).now
                    refine op_yields (.pointer (some (adb.add (i * 5)))) ?_ ?_ ?_
                    · simp only [execOp, resolve, List.map_toArray, List.map_cons, List.map_nil, Act.eval, s55, s56]; simp [go_sem, -Array.getD_eq_getD_getElem?, s55, s56, hlt, hi0, hi1]
                    · exact Below.refl _ _
                    · exact (fun _ _ => rfl)
                  case o9 =>
                    intro a w hfr hG hd
                    obtain ⟨d0, _⟩ := hd
                    refine ⟨fun hw => ?_, fun hw => absurd hw (by simp [Region.wanted])⟩
                    have s57 : a.tmps.getD 57 undef = .pointer (some (adb.add (i * 5))) := (d0 rfl).now
                    obtain ⟨z0, z1, z2, z3, z4⟩ := HCB.out w hG.now
                    refine op_yields (.agg #[.int .i64 qb.kd, .int .i64 qb.n, qb.mv, qb.nv, qb.kv]) ?_ ?_ ?_
                    · simp only [execOp, resolve, List.map_toArray, List.map_cons, List.map_nil, Act.eval, s57]; simp [go_sem, -Array.getD_eq_getD_getElem?, s57, z0, z1, z2, z3, z4]
                    · exact Below.refl _ _
                    · exact (fun _ _ => rfl)
                  case o10 =>
                    intro a w hfr hG hd
                    obtain ⟨d0, d1, _⟩ := hd
                    refine ⟨fun hw => ?_, fun hw => absurd hw (by simp [Region.wanted])⟩
                    have s53 : a.tmps.getD 53 undef = .agg #[.int .i64 qa.kd, .int .i64 qa.n, qa.mv, qa.nv, qa.kv] := (d0 rfl).now
                    have s58 : a.tmps.getD 58 undef = .agg #[.int .i64 qb.kd, .int .i64 qb.n, qb.mv, qb.nv, qb.kv] := (d1 rfl).now
                    refine op_calls2 ((HCQ.out w hG.now).mono fun e' w' hh => ⟨_, hh.1, hh.2, (fun _ _ => rfl)⟩) ?_
                    simp only [execOp, resolve, List.map_toArray, List.map_cons, List.map_nil, Act.eval, s53, s58]; simp [go_sem, -Array.getD_eq_getD_getElem?, s53, s58]
                  case o11 =>
                    intro a w hfr hG hd
                    obtain ⟨d0, _⟩ := hd
                    refine ⟨fun hw => ?_, fun hw => absurd hw (by simp [Region.wanted])⟩
                    have s59 : a.tmps.getD 59 undef = .bool r := (d0 rfl).now
                    refine op_yields (.bool (!r)) ?_ ?_ ?_
                    · simp only [execOp, resolve, List.map_toArray, List.map_cons, List.map_nil, Act.eval, s59]; simp [go_sem, -Array.getD_eq_getD_getElem?, s59]
                    · exact Below.refl _ _
                    · exact (fun _ _ => rfl)
                  case hG => exact fun w' hb => HA.out.below ((Below.refl _ _).drew.trans (hb.mono (by simp)))
                  case hend =>
                    intro vs w' hG hv
                    have key : vs 11 = .bool (!r) := by
                      obtain ⟨_, _, _, _, _, _, _, _, _, _, _, h11, _⟩ := hv
                      exact h11.now
                    have HP2 := Lib.hid hG.now
                    clear hv hG HA HCA HCB HCQ
                    simp only [putAll, Act.put, key]
                    clear key
                    go_simp
                    go_wp2_with fail
                    go_meet
                    exact ⟨rfl, HP2.out⟩
                case rest =>
                  obtain ⟨rfl, hat⟩ := hcut
                  have HP2 := Lib.hid hat
                  clear hat HA HCA HCB HCQ
                  cases r with
                  | true =>
                    have HTN := Lib.hid (show (pesX ka).take (i + 1) = (pesX kb).take (i + 1) by have h := HR.out; rw [if_pos rfl] at h; exact h)
                    clear HR
                    go_wp2_with fail
                    go_roundg g
                    case measure => omega
                    case rel => exact ⟨i + 1, by omega, by go_num, HTN.out, HP2.out⟩
                  | false =>
                    have HE := Lib.hid (show q = false by have h := HR.out; rw [if_neg (by simp)] at h; exact h)
                    clear HR
                    go_wp2_with fail
                    go_ret
                    exact ⟨by rw [HE.out]; rfl, HP2.out.bel⟩
          · have t3 : ((ka.length : Int) != (kb.length : Int)) = true := by rw [bne_iff_ne]; omega
            have HE := Lib.hid (show q = false by
              rw [HQ3.out]
              cases he : eqPs (pesX ka) (pesX kb) with
              | false => rfl
              | true =>
                have := congrArg List.length ((eqPs_iff _ _).1 he)
                rw [pesX_length, pesX_length] at this
                exact absurd this hl)
            clear hl
            go_wp2_with fail
            go_ret
            exact ⟨by rw [HE.out]; rfl, HE2.out.bel⟩
    · have t2 : (nna != nnb) = true := by rw [bne_iff_ne]; exact hn
      have HE := Lib.hid (show q = false by rw [HQ.out, decide_eq_false hn]; simp)
      clear hk hn
      go_wp2_with fail
      go_ret
      exact ⟨by rw [HE.out]; rfl, HE0.out.bel⟩
  · have t1 : (kka != kkb) = true := by rw [bne_iff_ne]; exact hk
    have HE := Lib.hid (show q = false by rw [HQ.out, decide_eq_false hk]; rfl)
    clear hk
    go_wp2_with fail
    go_ret
    exact ⟨by rw [HE.out]; rfl, HE0.out.bel⟩
theorem exprs_any : ∀ d, ExprsSaid d
  | 0 => fun a b w h => h.elim
  | d + 1 => exprs_step d (exprs_any d)
end Go.Proofs.YtnkbpcenkbihpaaDoor
