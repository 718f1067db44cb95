/- klaxonref7.Two: vectors compared. -/
import Derived.Test.YtbndmmfpoljeaaaRef7f
import Derived.Test.YtbndmmfpoljeaaaVecStart
namespace Go.Proofs.Ytbndmmfpoljeaaa
open Go.ChangeShapes Go.WideShapes Go.ChangeAt Go.RowKit
set_option linter.unusedVariables false
set_option linter.unusedSimpArgs false
set_option maxRecDepth 100000
set_option maxHeartbeats 8000000 in
theorem two_cc (base base2 : Nat) (A B : Option Addr) (ca cb : Nat) (ra rb : List PtR) (k : Int) (w0 : World) (h : PtsAt base (.slice A ra.length ca) ra w0) (h9 : PtsAt base2 (.slice B rb.length cb) rb w0) (hc : ra.length ≤ ca) (hc9 : rb.length ≤ cb) (hB : ra.length ≤ 19) (hB9 : rb.length ≤ 19) (hs : SetsOk ra) (hs9 : SetsOk rb) (hv : ∀ p ∈ ra, I64 p.val) (hv9 : ∀ p ∈ rb, I64 p.val) (h1 : 8 ≤ k) (h2 : k ≤ 13) :
    Calls Try.prog 16 #[.int .i64 k, .agg #[.int .i64 2, .int .i64 0, .slice A ra.length ca], .agg #[.int .i64 2, .int .i64 0, .slice B rb.length cb]] w0 (TwoAns (filterR k (ptsOf ra) (ptsOf rb)) w0) := by
  obtain ⟨i0, hi, hz0, hz1, hz2⟩ := info_parts Try.infoPt
  have HI := Lib.hid hi; have HZ0 := Lib.hid hz0; have HZ1 := Lib.hid hz1; have HZ2 := Lib.hid hz2
  clear hi hz0 hz1 hz2
  have HPA := Lib.hid (fun (V : World) (hV : Below w0.heap.size w0 V) => h.below hV)
  have HPB := Lib.hid (fun (V : World) (hV : Below w0.heap.size w0 V) => h9.below hV)
  have HS := Lib.hid hs; have HV := Lib.hid hv; have HS9 := Lib.hid hs9; have HV9 := Lib.hid hv9; have HK := Lib.hid (And.intro h1 h2)
  have HTW := Lib.hid (fun (V : World) (hV : Below w0.heap.size w0 V) => twice_r A ra.length ca ra V (PtsS.of (h.below hV)) rfl (by omega) hc hs)
  have HTB := Lib.hid (fun (V : World) (hV : Below w0.heap.size w0 V) => twice_r B rb.length cb rb V (PtsS.of (h9.below hV)) rfl (by omega) hc9 hs9)
  have HFN := Lib.hid (fun (V : World) (hV : Below w0.heap.size w0 V) (tt : List UInt8) => find_r B rb.length cb rb tt V (PtsS.of (h9.below hV)) rfl (by omega) hs9)
  have HST := Lib.hid (TwAt.start w0 (.int .i64 2) (.int .i64 0) (.slice A ra.length ca) (.int .i64 2) (.int .i64 0) (.slice B rb.length cb))
  obtain ⟨F, hF⟩ : ∃ F, filterF k (ptsOf rb) = F := ⟨_, rfl⟩
  obtain ⟨tw, htw⟩ : ∃ b, twiceF (keysOf ra) = b := ⟨_, rfl⟩
  obtain ⟨tb, htb⟩ : ∃ b, twiceF (keysOf rb) = b := ⟨_, rfl⟩
  have HR : Hid (filterR k (ptsOf ra) (ptsOf rb) = if (tw || tb) = true then ([], 5) else resF F (ptsOf ra)) := Lib.hid (by unfold filterR; rw [← keysOf_pts, ← keysOf_pts, htw, htb, hF])
  have HFF := Lib.hid hF
  rw [htw] at HTW
  rw [htb] at HTB
  have hk7 : ¬ k ≤ 7 := by omega
  have t14 : (k == 14) = false := by rw [beq_eq_false_iff_ne]; omega
  have t15 : (k == 15) = false := by rw [beq_eq_false_iff_ne]; omega
  have t16 : (k == 16) = false := by rw [beq_eq_false_iff_ne]; omega
  clear h h9 hs hs9 hv hv9 hF htw htb h1 h2
  obtain ⟨NB, hNB⟩ : ∃ N, rb.length = N := ⟨_, rfl⟩
  have HNB := Lib.hid hNB
  rw [hNB] at HPB HTB HST hc9 hB9 HFN ⊢
  clear hNB
  obtain ⟨NA, hNA⟩ : ∃ N, ra.length = N := ⟨_, rfl⟩
  have HN := Lib.hid hNA
  rw [hNA] at HPA HTW HST hc hB ⊢
  clear hNA
  go_enter Try.func16, Try.ntmps16
  go_upto_region 1 with fail
  obtain ⟨b6, hb6⟩ : ∃ b, w0.heap.size + 1 + 1 = b := ⟨_, rfl⟩
  obtain ⟨b5, hb5⟩ : ∃ b, w0.heap.size + 1 = b := ⟨_, rfl⟩
  obtain ⟨b4, hb4⟩ : ∃ b, w0.heap.size = b := ⟨_, rfl⟩
  obtain ⟨W1, hW1⟩ : ∃ W, (((w0.alloc (.cells #[.int .i64 2, .int .i64 0, .slice A NA ca] 41)).alloc (.cells #[.int .i64 2, .int .i64 0, .slice B NB cb] 41)).alloc (.cells #[.int .i64 0, .int .i64 0, .slice none 0 0] 41)) = W := ⟨_, rfl⟩
  have HT1 := Lib.hid (show TwAt w0 b4 b5 b6 [.int .i64 2, .int .i64 0, .slice A NA ca] [.int .i64 2, .int .i64 0, .slice B NB cb] W1 by have h := HST.out; rw [hW1, hb6, hb5, hb4] at h; exact h)
  rw [hb6, hb5, hb4, hW1]
  clear HST hb6 hb5 hb4 hW1
  have a0 := HT1.out.x4.cell 0; have a1 := HT1.out.x4.cell 1; have a2 := HT1.out.x4.cell 2
  have d0 := HT1.out.x5.cell 0; have d1 := HT1.out.x5.cell 1; have d2 := HT1.out.x5.cell 2
  simp only [List.getElem?_cons_zero, List.getElem?_cons_succ] at a0 a1 a2 d0 d1 d2
  go_wp2_with fail
  (with_reducible refine (HTW.out _ HT1.out.bel).mono ?_); rintro e w2 ⟨rfl, hb⟩
  have HT2 := Lib.hid (HT1.out.below hb)
  clear hb HT1 HTW a0 a1 a2 d0 d1 d2
  have d0 := HT2.out.x5.cell 0; have d1 := HT2.out.x5.cell 1; have d2 := HT2.out.x5.cell 2
  simp only [List.getElem?_cons_zero, List.getElem?_cons_succ] at d0 d1 d2
  cases tw with
  | true =>
    have HE := Lib.hid (two_end (rows := []) (A := none) (c := 0) (r := ([], 5)) HT2.out.x6 HT2.out.le HT2.out.bel (PtsAt.nil w2.heap.size w2) HT2.out.bel.size ⟨Nat.le_refl _, by omega⟩ rfl 0)
    have HR2 : Hid (filterR k (ptsOf ra) (ptsOf rb) = ([], 5)) := Lib.hid (by rw [HR.out]; rfl)
    obtain ⟨⟨g0, g1, g2⟩, y0, y1, y2⟩ := two_cells HT2.out.x6 (.int .i64 0) (.int .i64 0)
    go_wp2_with fail
    clear g0 g1 g2 y0 y1 y2
    generalize ((w2.setCell ⟨b6, 0, none⟩ (.int .i64 0)).setCell ⟨b6, 1, none⟩ (.int .i64 0)).setCell ⟨b6, 2, none⟩ (.slice none 0 0) = Wz at *
    have q0 := HE.out.1.cell 0; have q1 := HE.out.1.cell 1; have q2 := HE.out.1.cell 2
    simp only [List.getElem?_cons_zero, List.getElem?_cons_succ] at q0 q1 q2
    refine bodyPost_ret (v := .tuple #[.agg #[.int .i64 0, .int .i64 0, .slice none 0 0], .int .i64 5]) (by simp [results, Try.results16, go_sem, q0, q1, q2]) rfl ?_
    rw [HR2.out]
    exact HE.out.2
  | false =>
  go_wp2_with fail
  (with_reducible refine (HTB.out _ HT2.out.bel).mono ?_); rintro e w1 ⟨rfl, hb⟩
  have HT3 := Lib.hid (HT2.out.below hb)
  clear hb HT2 HTB d0 d1 d2
  have HT2 := HT3
  clear HT3
  cases tb with
  | true =>
    have HE := Lib.hid (two_end (rows := []) (A := none) (c := 0) (r := ([], 5)) HT2.out.x6 HT2.out.le HT2.out.bel (PtsAt.nil w1.heap.size w1) HT2.out.bel.size ⟨Nat.le_refl _, by omega⟩ rfl 0)
    have HR2 : Hid (filterR k (ptsOf ra) (ptsOf rb) = ([], 5)) := Lib.hid (by rw [HR.out]; rfl)
    obtain ⟨⟨g0, g1, g2⟩, y0, y1, y2⟩ := two_cells HT2.out.x6 (.int .i64 0) (.int .i64 0)
    go_wp2_with fail
    clear g0 g1 g2 y0 y1 y2
    generalize ((w1.setCell ⟨b6, 0, none⟩ (.int .i64 0)).setCell ⟨b6, 1, none⟩ (.int .i64 0)).setCell ⟨b6, 2, none⟩ (.slice none 0 0) = Wz at *
    have q0 := HE.out.1.cell 0; have q1 := HE.out.1.cell 1; have q2 := HE.out.1.cell 2
    simp only [List.getElem?_cons_zero, List.getElem?_cons_succ] at q0 q1 q2
    refine bodyPost_ret (v := .tuple #[.agg #[.int .i64 0, .int .i64 0, .slice none 0 0], .int .i64 5]) (by simp [results, Try.results16, go_sem, q0, q1, q2]) rfl ?_
    rw [HR2.out]
    exact HE.out.2
  | false =>
  have HRS : Hid (filterR k (ptsOf ra) (ptsOf rb) = resF F (ptsOf ra)) := Lib.hid (by rw [HR.out]; rfl)
  have HAN := Lib.hid (fun j hj => And.intro (outF_next F ra j hj) (errF_next F ra j hj))
  have d0 := HT2.out.x5.cell 0; have d1 := HT2.out.x5.cell 1; have d2 := HT2.out.x5.cell 2
  have a0 := HT2.out.x4.cell 0; have a1 := HT2.out.x4.cell 1; have a2 := HT2.out.x4.cell 2
  simp only [List.getElem?_cons_zero, List.getElem?_cons_succ] at d0 d1 d2 a0 a1 a2
  go_wp2_with fail
  clear d0 d1 d2 a0 a1 a2
  go_loopg [11, 118] NA (fun g x11 x118 wr => ∃ (j : Nat) (X : Option Addr) (cx : Nat) (rows : List PtR), j + g = NA ∧ x118 = .int .i64 j ∧ x11 = .slice X rows.length cx ∧ OutAt w1.heap.size (.slice X rows.length cx) rows j (outF F (ptsOf (ra.take j))) wr ∧ errF F (ptsOf (ra.take j)) = 0 ∧ Below w1.heap.size w1 wr ∧ SetsOk rows)
  case atStart => exact ⟨0, none, 0, [], by omega, rfl, rfl, OutAt.nil _ _, rfl, Below.refl _ _, fun p hp => absurd hp List.not_mem_nil⟩
  case round =>
    obtain ⟨j, X, cx, rows, hjg, rfl, rfl, ho, her, hbel, hsk⟩ := hrel
    have HO := Lib.hid ho; have HBE := Lib.hid hbel; have HER := Lib.hid her; have HSK := Lib.hid hsk; have HJG := Lib.hid hjg
    have HT3 := Lib.hid (HT2.out.below hbel)
    have HBW := HT3.out.bel
    clear ho hbel her hsk
    cases gk with
    | zero =>
      obtain rfl : j = NA := by omega
      have HC := Lib.hid (sorted_r w1.heap.size X rows.length cx rows wr HO.out.at_ rfl (by have := HO.out.len; omega) HSK.out)
      have HF : Hid (filterR k (ptsOf ra) (ptsOf rb) = (sortP (ptsOf rows), 0)) := Lib.hid (by
        have e1 := HO.out.eq
        have e2 := HER.out
        rw [List.take_of_length_le (by rw [HN.out]; exact Nat.le_refl _)] at e1 e2
        rw [HRS.out, resF, if_pos e2, e1])
      clear HO HBW HER
      go_wp2_with fail
      (with_reducible refine HC.out.mono ?_); rintro e w9 ⟨Y, cy, ry, h1, rfl, h3, h4, h5, h6⟩
      have HT4 := Lib.hid (HT3.out.below h4)
      have HE := Lib.hid (two_end (rows := ry) (A := Y) (c := cy) (r := (sortP (ptsOf rows), 0)) HT4.out.x6 HT4.out.le HT4.out.bel h3 HT3.out.bel.size ⟨h5, h6⟩ h1 2)
      clear h1 h3 h4 h5 h6 HC HT3
      obtain ⟨⟨g0, g1, g2⟩, y0, y1, y2⟩ := two_cells HT4.out.x6 (.int .i64 2) (.int .i64 0)
      go_wp2_with fail
      clear g0 g1 g2 y0 y1 y2
      generalize ((w9.setCell ⟨b6, 0, none⟩ (.int .i64 2)).setCell ⟨b6, 1, none⟩ (.int .i64 0)).setCell ⟨b6, 2, none⟩ (.slice Y ry.length cy) = Wz at *
      have q0 := HE.out.1.cell 0; have q1 := HE.out.1.cell 1; have q2 := HE.out.1.cell 2
      simp only [List.getElem?_cons_zero, List.getElem?_cons_succ] at q0 q1 q2
      refine bodyPost_ret (v := .tuple #[.agg #[.int .i64 2, .int .i64 0, .slice Y ry.length cy], .int .i64 0]) (by simp [results, Try.results16, go_sem, q0, q1, q2]) rfl ?_
      rw [HF.out]
      exact HE.out.2
    | succ g =>
      have hlt : j < ra.length := by have := HN.out; omega
      have HRP := HPA.out wr HBW
      obtain ⟨ad, hA, e0, e1, hu9⟩ := HRP.get2 hlt
      clear hu9
      have hol := HRP.each ra[j] (List.getElem_mem hlt)
      obtain ⟨hl, hlx⟩ := HS.out ra[j] (List.getElem_mem hlt)
      have HNX := Lib.hid (HAN.out j hlt)
      have HOV := Lib.hid (fun (V : World) (hV : Below w0.heap.size w0 V) => (HPA.out V hV).each ra[j] (List.getElem_mem hlt))
      subst hA
      have hi64 := HV.out ra[j] (List.getElem_mem hlt)
      have HLT := Lib.hid hlt
      generalize ra[j] = q at *
      obtain ⟨sv, l, val⟩ := q
      simp only at e0 e1 hol hl hlx hi64
      obtain ⟨A2, c2, hsv, hss, hu8, hu9⟩ := hol.hasL
      clear hu8 hu9
      subst hsv
      obtain ⟨sl, hsl⟩ : ∃ m, l.length = m := ⟨_, rfl⟩
      have HSE := Lib.hid hsl
      have HLX := Lib.hid hlx
      rw [hsl] at e0 hss hl hol
      have ha := (Below.refl wr.heap.size wr).alloc (Nat.le_refl _) (.cells #[.slice A2 sl c2, .int .i64 val] 28)
      have HX2 := Lib.hid (Blk.mk (heap_alloc_new wr (.cells #[.slice A2 sl c2, .int .i64 val] 28)) : Blk _ wr.heap.size 28 [.slice A2 sl c2, .int .i64 val])
      have HAL := Lib.hid ha
      have HNX1 := Lib.hid HNX.out.1
      have HNX3 := Lib.hid (HNX.out.2 HER.out)
      have HBA := Lib.hid (fun (V : World) (hV : Below wr.heap.size wr V) => bare_r A2 sl c2 V.heap.size l V ((hss.below hV).more hV.size) (Nat.le_refl _) (by omega))
      have HKY := Lib.hid (fun (V : World) (hV : HasL V (.slice A2 sl c2) l) => key_r hV (by omega) hlx)
      have HHL := Lib.hid (show HasL (wr.alloc (.cells #[.slice A2 sl c2, .int .i64 val] 28)) (.slice A2 sl c2) l from by have h := (hol.below ha).hasL; exact h)
      have HOL := Lib.hid hol
      have HFD := Lib.hid (fun (V : World) (hV : Below w0.heap.size w0 V) => HFN.out V hV (keyT l))
      obtain ⟨o, ho⟩ : ∃ o, idxG (keysOf rb) (keyT l) = o := ⟨_, rfl⟩
      have HO9 := Lib.hid ho
      rw [ho] at HFD
      obtain ⟨fv, hfv⟩ : ∃ v, fI o = v := ⟨_, rfl⟩
      have HFV := Lib.hid hfv
      rw [hfv] at HFD
      have HO2 := Lib.hid (HO.out.below ha)
      have HBE2 := Lib.hid (HBE.out.trans (ha.mono HBE.out.size))
      have HT4 := Lib.hid (HT3.out.below ha)
      have hbl : (bareL l).length ≤ 1000 := by have := bare_len l; omega
      obtain ⟨sn, hsn⟩ : ∃ m, (bareL l).length = m := ⟨_, rfl⟩
      have HSN := Lib.hid hsn
      rw [hsn] at HBA hbl
      have HI64 := Lib.hid hi64
      clear hss hol ha HO HBE HRP HBW hsl HER hsn hi64 hlx HT3 hlt ho hfv HNX
      go_upto_region 23 with fail
      obtain ⟨bx, hbx⟩ : ∃ b, wr.heap.size = b := ⟨_, rfl⟩
      rw [hbx] at HX2
      rw [hbx]
      clear e0 e1
      obtain ⟨W2, hW2⟩ : ∃ W, wr.alloc (.cells #[.slice A2 sl c2, .int .i64 val] 28) = W := ⟨_, rfl⟩
      rw [hW2] at HX2 HAL HHL HO2 HBE2 HT4 ⊢
      clear hW2
      have d0 := HT4.out.x5.cell 0; have d1 := HT4.out.x5.cell 1
      simp only [List.getElem?_cons_zero, List.getElem?_cons_succ] at d0 d1
      go_upto_region 25 with fail
      clear d0 d1
      refine wp_region_facts (R := fun a b => Below a.heap.size a b) (G := (fun W => TwAt w0 b4 b5 b6 [.int .i64 2, .int .i64 0, .slice (some ad) NA ca] [.int .i64 2, .int .i64 0, .slice B NB cb] W ∧ Blk W bx 28 [.slice A2 sl c2, .int .i64 val] ∧ HasL W (.slice A2 sl c2) l ∧ Below w1.heap.size w1 W ∧ OutAt w1.heap.size (.slice X rows.length cx) rows j (outF F (ptsOf (ra.take j))) W)) (V := fun i' u' W => match i' with | 0 => u' = .pointer (some ⟨b5, 2, none⟩) | 1 => u' = .slice B NB cb | 2 => u' = .pointer (some ⟨bx, 0, none⟩) | 3 => u' = .slice A2 sl c2 | 4 => u' = .string ⟨(keyT l).toArray⟩ | 5 => u' = .int .i64 fv | 6 => u' = .int .i64 fv | _ => True) (by kernel_rfl) (fun w => Below.refl _ _) (fun a b c h1 h2 => h1.trans (h2.mono h1.size)) (by kernel_rfl) (by kernel_rfl) ?hG ⟨?o0, ?o1, ?o2, ?o3, ?o4, ?o5, ?o6, trivial⟩ ?hend
      case o0 =>
        intro a w hfr hG hd
        refine ⟨fun hw => ?_, fun hw => absurd hw (by simp [Region.wanted])⟩
        have s5 : a.tmps.getD 5 undef = .pointer (some ⟨b5, 0, none⟩) := hfr.at 5 (by kernel_rfl)
        refine op_yields (.pointer (some ⟨b5, 2, none⟩)) ?_ ?_ ?_
        · simp only [execOp, resolve, List.map_toArray, List.map_cons, List.map_nil, Act.eval, s5]; simp [go_sem, -Array.getD_eq_getD_getElem?, s5]
        · exact Below.refl _ _
        · exact (fun _ _ => rfl)
      case o1 =>
        intro a w hfr hG hd
        obtain ⟨d0, _⟩ := hd
        refine ⟨fun hw => ?_, fun hw => absurd hw (by simp [Region.wanted])⟩
        have s127 : a.tmps.getD 127 undef = .pointer (some ⟨b5, 2, none⟩) := (d0 rfl).now
        have z0 := hG.now.1.x5.cell 2; simp only [List.getElem?_cons_zero, List.getElem?_cons_succ] at z0
        refine op_yields (.slice B NB cb) ?_ ?_ ?_
        · simp only [execOp, resolve, List.map_toArray, List.map_cons, List.map_nil, Act.eval, s127]; simp [go_sem, -Array.getD_eq_getD_getElem?, s127, z0]
        · exact Below.refl _ _
        · exact (fun _ _ => rfl)
      case o2 =>
        intro a w hfr hG hd
        refine ⟨fun hw => ?_, fun hw => absurd hw (by simp [Region.wanted])⟩
        have s17 : a.tmps.getD 17 undef = .pointer (some ⟨bx, 0, none⟩) := hfr.at 17 (by kernel_rfl)
        refine op_yields (.pointer (some ⟨bx, 0, none⟩)) ?_ ?_ ?_
        · simp only [execOp, resolve, List.map_toArray, List.map_cons, List.map_nil, Act.eval, s17]; simp [go_sem, -Array.getD_eq_getD_getElem?, s17]
        · exact Below.refl _ _
        · exact (fun _ _ => rfl)
      case o3 =>
        intro a w hfr hG hd
        obtain ⟨d0, _⟩ := hd
        refine ⟨fun hw => ?_, fun hw => absurd hw (by simp [Region.wanted])⟩
        have s129 : a.tmps.getD 129 undef = .pointer (some ⟨bx, 0, none⟩) := (d0 rfl).now
        have z0 := hG.now.2.1.cell 0; simp only [List.getElem?_cons_zero] at z0
        refine op_yields (.slice A2 sl c2) ?_ ?_ ?_
        · simp only [execOp, resolve, List.map_toArray, List.map_cons, List.map_nil, Act.eval, s129]; simp [go_sem, -Array.getD_eq_getD_getElem?, s129, z0]
        · exact Below.refl _ _
        · exact (fun _ _ => rfl)
      case o4 =>
        intro a w hfr hG hd
        obtain ⟨d0, _⟩ := hd
        refine ⟨fun hw => ?_, fun hw => absurd hw (by simp [Region.wanted])⟩
        have s130 : a.tmps.getD 130 undef = .slice A2 sl c2 := (d0 rfl).now
        refine op_calls2 ((HKY.out w hG.now.2.2.1).mono fun e' w' hh => ⟨_, hh.1, hh.2, (fun _ _ => rfl)⟩) ?_
        simp only [execOp, resolve, List.map_toArray, List.map_cons, List.map_nil, Act.eval, s130]; simp [go_sem, -Array.getD_eq_getD_getElem?, s130]
      case o5 =>
        intro a w hfr hG hd
        obtain ⟨d0, d1, d2, _⟩ := hd
        refine ⟨fun hw => ?_, fun hw => absurd hw (by simp [Region.wanted])⟩
        have s128 : a.tmps.getD 128 undef = .slice B NB cb := (d0 rfl).now
        have s131 : a.tmps.getD 131 undef = .string ⟨(keyT l).toArray⟩ := (d1 rfl).now
        refine op_calls2 ((HFD.out w hG.now.1.bel).mono fun e' w' hh => ⟨_, hh.1, hh.2, (fun _ _ => rfl)⟩) ?_
        simp only [execOp, resolve, List.map_toArray, List.map_cons, List.map_nil, Act.eval, s128, s131]; simp [go_sem, -Array.getD_eq_getD_getElem?, s128, s131]
      case o6 =>
        intro a w hfr hG hd
        obtain ⟨d0, d1, d2, d3, d4, d5, d6, d7, _⟩ := hd
        refine ⟨fun hw => ?_, fun hw => absurd hw (by simp [Region.wanted])⟩
        have s132 : a.tmps.getD 132 undef = .int .i64 fv := (d0 rfl).now
        refine op_yields (.int .i64 fv) ?_ ?_ ?_
        · simp only [execOp, resolve, List.map_toArray, List.map_cons, List.map_nil, Act.eval, s132]; simp [go_sem, -Array.getD_eq_getD_getElem?, s132]
        · exact Below.refl _ _
        · exact (fun _ _ => rfl)
      case hG =>
        intro w' hb
        have hb2 : Below W2.heap.size W2 w' := ((Below.refl _ _).drew).trans (hb.mono (by simp))
        exact ⟨HT4.out.below hb2, HX2.out.below hb2 HX2.out.lt, HHL.out.below hb2, HBE2.out.trans (hb2.mono HBE2.out.size), HO2.out.below hb2⟩
      intro vs wq hG hv
      have key : vs 6 = .int .i64 fv := by
        obtain ⟨_, _, _, _, _, _, h6, _⟩ := hv
        exact h6.now
      have HT5 := Lib.hid hG.now.1; have HX5 := Lib.hid hG.now.2.1; have HBE5 := Lib.hid hG.now.2.2.2.1; have HO5 := Lib.hid hG.now.2.2.2.2
      have HSS := Lib.hid hG.now.2.2.1
      clear hv hG HKY HFD HHL HX2 HBE2 HO2 HT4
      simp only [putAll, Act.put, key]
      clear key
      go_simp
      clear HBA
      have h8 : 8 ≤ k := HK.out.1
      have h13 : k ≤ 13 := HK.out.2
      cases o with
      | none =>
        obtain rfl : fv = -1 := HFV.out.symm
        have d0 := HT5.out.x5.cell 0
        simp only [List.getElem?_cons_zero, List.getElem?_cons_succ] at d0
        have hff : F (l, val) = none := by rw [← HFF.out]; unfold filterF; rw [find_idx, HO9.out]; rfl
        have HO6 := Lib.hid (HO5.out.next (HNX1.out.trans (by simp only [hff]; simp)))
        have HE6 : Hid (errF F (ptsOf (ra.take (j + 1))) = 0) := Lib.hid (by rw [HNX3.out]; simp only [hff])
        clear HO5 hff
        go_wp2_with fail
        go_roundg g
        case measure => omega
        case rel => exact ⟨j + 1, X, cx, rows, by have := HJG.out; omega, by first | rfl | go_num, rfl, HO6.out, HE6.out, HBE5.out, HSK.out⟩
      | some q =>
        obtain rfl : fv = (q : Int) := HFV.out.symm
        obtain ⟨hq1, hq2⟩ := idxG_some HO9.out
        have hqn : q < rb.length := by unfold keysOf at hq1; rwa [List.length_map] at hq1
        have hqb : q < NB := by rw [← HNB.out]; exact hqn
        have hqb2 : (q : Int) < NB := by omega
        have hqb3 : (0 : Int) ≤ q := by omega
        obtain ⟨adb, hB2, hu7, c9, hu8⟩ := (HPB.out wq HT5.out.bel).get2 hqn
        subst hB2
        have HVQ := Lib.hid (HV9.out rb[q] (List.getElem_mem hqn))
        have hvp := valP_at rb q hqn
        generalize rb[q].val = v2 at *
        clear hu7 hu8 hq1 hq2 hqn
        have HHO := Lib.hid (fun V => holds_r k val v2 V HK.out.1 HK.out.2)
        obtain ⟨hb, hhb⟩ : ∃ b, holdsF k val v2 = b := ⟨_, rfl⟩
        have hff : F (l, val) = if hb = true then some (l, (val, 0)) else none := by
          rw [← HFF.out]; unfold filterF; rw [find_idx, HO9.out]
          show (if holdsF k val (valP (ptsOf rb) (q : Int)) = true then some (l, (val, 0)) else none) = _
          rw [hvp, hhb]
        have HFH := Lib.hid hff
        rw [hhb] at HHO
        clear hhb hvp hff
        have d0 := HT5.out.x5.cell 0; have d2 := HT5.out.x5.cell 2
        have z0 := HX5.out.cell 0; have z1 := HX5.out.cell 1
        simp only [List.getElem?_cons_zero, List.getElem?_cons_succ] at d0 d2 z0 z1
        go_wp2_with fail
        (with_reducible refine (HHO.out _).mono ?_); rintro e w3 ⟨rfl, rfl⟩
        clear d0 d2 z0 z1 c9
        cases hb with
        | false =>
          have hff : F (l, val) = none := by rw [HFH.out]; rfl
          have HO6 := Lib.hid (HO5.out.next (HNX1.out.trans (by simp only [hff]; simp)))
          have HE6 : Hid (errF F (ptsOf (ra.take (j + 1))) = 0) := Lib.hid (by rw [HNX3.out]; simp only [hff])
          clear HO5 hff
          go_wp2_with fail
          go_roundg g
          case measure => omega
          case rel => exact ⟨j + 1, X, cx, rows, by have := HJG.out; omega, by first | rfl | go_num, rfl, HO6.out, HE6.out, HBE5.out, HSK.out⟩
        | true =>
          have hff : F (l, val) = some (l, (val, 0)) := by rw [HFH.out]; rfl
          have HNX2 := Lib.hid HNX1.out
          have HEN : Hid (errF F (ptsOf (ra.take (j + 1))) = 0) := Lib.hid (by rw [HNX3.out]; simp only [hff])
          simp only [hff] at HNX2
          have hov := HOV.out wq HT5.out.bel
          try simp only at hov
          rw [HSE.out] at hov
          have hb4 := (Below.refl wq.heap.size wq).alloc (Nat.le_refl _) (.cells #[.slice A2 sl c2, .int .i64 val] 28)
          have HO4 := Lib.hid (HO5.out.below hb4)
          have HOL4 := Lib.hid (hov.below hb4)
          have HBE4 := Lib.hid (HBE5.out.trans (hb4.mono HBE5.out.size))
          have HX4 := Lib.hid ((Blk.mk (heap_alloc_new wq (.cells #[.slice A2 sl c2, .int .i64 val] 28)) : Blk _ wq.heap.size 28 [.slice A2 sl c2, .int .i64 val]).sees (size := 2) (n := 1) rfl (List.prefix_refl _))
          have hsl9 : l.length ≤ 1000 := by have := HSE.out; omega
          have HSL9 := Lib.hid hsl9
          clear hov hb4 HO5 HBE5 HNX1 HNX3 hff hsl9
          have z0 := HX5.out.cell 0; have z1 := HX5.out.cell 1
          simp only [List.getElem?_cons_zero, List.getElem?_cons_succ] at z0 z1
          go_wp2_with (at_builtin; refine wpList_append_at rfl (.tmp 197) (.tmp 199) 22 rfl w1.heap.size 28 i0 (.agg #[.slice none 0 0, .int .i64 0]) 2 32 Try.underlying22 HI.out HZ0.out HZ1.out HZ2.out rfl (by decide) (.slice X rows.length cx) rows.length (pts rows) rfl HO4.out.at_.own _ (some ⟨wq.heap.size, 0, none⟩) 1 _ [.slice A2 sl c2, .int .i64 val] rfl HX4.out (by intro u hu; simp at hu; rcases hu with rfl | rfl <;> rfl) (by unfold maxLen; have := HO4.out.len; omega) (by have := HO4.out.len; omega) HBE4.out.size ?_)
          intro v' w5 hown hgr hwh
          have HO5 := Lib.hid (HO4.out.push (l := l) (z := val) HOL4.out HSL9.out hown hgr HNX2.out)
          have HBE5 := Lib.hid (HBE4.out.grown hgr HBE4.out.size (fun g e => (HO4.out.at_.own.lt g e).1))
          obtain ⟨A5, c5, rfl, hu8, hu9⟩ := own_slice hown
          have HL5 := Lib.hid (show (rows ++ [(⟨.slice A2 sl c2, l, val⟩ : PtR)]).length = rows.length + 1 by simp)
          have HSK5 : Hid (SetsOk (rows ++ [(⟨.slice A2 sl c2, l, val⟩ : PtR)])) := Lib.hid (fun p hp => by
            rcases List.mem_append.1 hp with hp | hp
            · exact HSK.out p hp
            · rw [List.mem_singleton] at hp; subst hp
              exact ⟨HSL9.out, fun x hx => HLX.out x hx⟩)
          clear hown hgr hwh HO4 HOL4 HBE4 HX4 hu8 hu9 z0 z1
          go_wp2_with fail
          go_roundg g
          case measure => omega
          case rel => exact ⟨j + 1, A5, c5, _, by have := HJG.out; omega, by first | rfl | go_num, by rw [HL5.out], by rw [HL5.out]; exact HO5.out, HEN.out, HBE5.out, HSK5.out⟩
end Go.Proofs.Ytbndmmfpoljeaaa
