/- Texts, merged in one. -/
import Derived.Test.YtlmakdclebbbkaaGreatBase23
namespace Go.Proofs.YtlmakdclebbbkaaGreat
open Go.ChangeShapes Go.WideShapes Go.ChangeAt Go.RowKit
set_option linter.unusedVariables false
set_option linter.unusedSimpArgs false
set_option maxRecDepth 100000
theorem place_some (ks : List (List UInt8)) : ∀ k t i, placeK ks k t = some i → ∃ q : Nat, i = (q : Int) ∧ q < k ∧ ks.getD q [] = t
  | 0, t, i, h => by cases h
  | k + 1, t, i, h => by
    unfold placeK at h
    by_cases h1 : (placeK ks k (ks.getD k [])).isSome = true
    · rw [if_pos h1] at h
      obtain ⟨q, e, hq, hg⟩ := place_some ks k t i h
      exact ⟨q, e, by omega, hg⟩
    · rw [if_neg h1] at h
      by_cases h2 : t = ks.getD k []
      · rw [if_pos h2] at h
        injection h with h
        exact ⟨k, h.symm, by omega, h2.symm⟩
      · rw [if_neg h2] at h
        obtain ⟨q, e, hq, hg⟩ := place_some ks k t i h
        exact ⟨q, e, by omega, hg⟩
def valP (qs : List Pt) (i : Int) : Int := ((qs[i.toNat]?).map Prod.snd).getD 0
theorem valP_at (rb : List PtR) (q : Nat) (h : q < rb.length) : valP (ptsOf rb) (q : Int) = rb[q].val := by
  unfold valP ptsOf
  rw [show ((q : Int)).toNat = q by omega, List.getElem?_map, List.getElem?_eq_getElem h]; rfl
def findP (qs : List Pt) (p : Pt) : Option Int := placeK (keysP qs) qs.length (keyT p.1)
def mathF (kd : Int) (qs : List Pt) (p : Pt) : Option (List Lbl × (Int × Int)) := (findP qs p).map fun i => (bareL p.1, reckonF kd p.2 (valP qs i))
def mathR (kd : Int) (ps qs : List Pt) : List Pt × Int := if (twiceF (keysP ps) || twiceF (keysP qs)) = true then ([], 5) else resF (mathF kd qs) ps
def filterF (kd : Int) (qs : List Pt) (p : Pt) : Option (List Lbl × (Int × Int)) := match findP qs p with
  | none => none
  | some i => if holdsC kd p.2 (valP qs i) = true then some (p.1, (p.2, 0)) else none
def filterR (kd : Int) (ps qs : List Pt) : List Pt × Int := if (twiceF (keysP ps) || twiceF (keysP qs)) = true then ([], 5) else resF (filterF kd qs) ps
set_option maxHeartbeats 8000000 in
theorem math_any (b1 b2 : Nat) (A B : Option Addr) (c cB : Nat) (ra rb : List PtR) (kd : Int) (w : World) (h : PtsAt b1 (.slice A ra.length c) ra w) (h2 : PtsAt b2 (.slice B rb.length cB) rb w) (hn : ra.length ≤ 1000) (hnB : rb.length ≤ 1000) (hsl : ∀ x ∈ ra, x.set.length ≤ 1000) (hslB : ∀ x ∈ rb, x.set.length ≤ 1000) (hv : ∀ x ∈ ra, I64 x.val) (hvB : ∀ x ∈ rb, I64 x.val) :
    Calls Tryz.prog 25 #[.int .i64 kd, .slice A ra.length c, .slice B rb.length cB] w (PtsAnsE (mathR kd (ptsOf ra) (ptsOf rb)) w) := by
  obtain ⟨i0, hi, hz0, hz1, hz2⟩ := info_parts Tryz.infoPt
  have HI := Lib.hid hi; have HZ0 := Lib.hid hz0; have HZ1 := Lib.hid hz1; have HZ2 := Lib.hid hz2
  clear hi hz0 hz1 hz2
  have HTW := Lib.hid (twice_any b1 A c ra w h (by omega) hsl)
  have HTB := Lib.hid (fun V (hV : Below w.heap.size w V) => twice_any b2 B cB rb V (h2.below hV) hnB hslB)
  have HPL := Lib.hid (fun V (hV : Below w.heap.size w V) => places_any b2 B cB rb V (h2.below hV) hnB hslB)
  have H := Lib.hid (fun (V : World) (hV : Below w.heap.size w V) => h.below hV)
  have H2 := Lib.hid (fun (V : World) (hV : Below w.heap.size w V) => h2.below hV)
  have HSL := Lib.hid hsl; have HV := Lib.hid hv; have HVB := Lib.hid hvB
  obtain ⟨FF, hFF⟩ : ∃ f, mathF kd (ptsOf rb) = f := ⟨_, rfl⟩
  have HFF := Lib.hid hFF
  have HAN := Lib.hid (fun k hk => And.intro (outF_next FF ra k hk) (errF_next FF ra k hk))
  have HFI := Lib.hid (show ∀ p, findP (ptsOf rb) p = placeK (keysOf rb) rb.length (keyT p.1) from fun p => by unfold findP; rw [← keysOf_pts]; simp [ptsOf])
  have HVP := Lib.hid (valP_at rb)
  clear h h2 hsl hslB hv hvB
  obtain ⟨N, hN⟩ : ∃ N, ra.length = N := ⟨_, rfl⟩
  have HN := Lib.hid hN
  rw [hN] at H hn HTW ⊢
  rw [← hN] at H
  obtain ⟨NB, hNB⟩ : ∃ N, rb.length = N := ⟨_, rfl⟩
  have HNB := Lib.hid hNB
  rw [hNB] at H2 hnB HTB HPL HFI ⊢
  rw [← hNB] at H2
  clear hN hNB
  obtain ⟨tw, htw⟩ : ∃ b, twiceF (keysOf ra) = b := ⟨_, rfl⟩
  obtain ⟨twB, htwB⟩ : ∃ b, twiceF (keysOf rb) = b := ⟨_, rfl⟩
  have HRS : Hid (mathR kd (ptsOf ra) (ptsOf rb) = if (tw || twB) = true then ([], 5) else resF FF (ptsOf ra)) := Lib.hid (by unfold mathR; rw [← keysOf_pts, ← keysOf_pts, htw, htwB, ← hFF])
  obtain ⟨ks, hks⟩ : ∃ k, keysOf rb = k := ⟨_, rfl⟩
  rw [htw] at HTW
  rw [htwB] at HTB
  rw [hks] at HPL HFI
  clear htw htwB hFF hks
  go_enter Tryz.func25, Tryz.ntmps25
  go_wp2_with fail
  (with_reducible refine HTW.out.mono ?_); rintro e w1 ⟨rfl, hb1⟩
  have HB1 := Lib.hid hb1
  clear hb1 HTW
  cases tw with
  | true =>
    have HF : Hid (PtsAnsE (mathR kd (ptsOf ra) (ptsOf rb)) w (.returned (.tuple #[.slice none 0 0, .int .i64 5])) w1) := Lib.hid (.fault (by rw [HRS.out]; rfl) HB1.out)
    go_wp2_with fail
    go_ret2
    exact HF.out
  | false =>
  go_wp2_with fail
  (with_reducible refine (HTB.out _ HB1.out).mono ?_); rintro e w2 ⟨rfl, hb2⟩
  have HB2 := Lib.hid (HB1.out.trans (hb2.mono HB1.out.size))
  clear hb2 HTB HB1
  cases twB with
  | true =>
    have HF : Hid (PtsAnsE (mathR kd (ptsOf ra) (ptsOf rb)) w (.returned (.tuple #[.slice none 0 0, .int .i64 5])) w2) := Lib.hid (.fault (by rw [HRS.out]; rfl) HB2.out)
    go_wp2_with fail
    go_ret2
    exact HF.out
  | false =>
  have HRS2 : Hid (mathR kd (ptsOf ra) (ptsOf rb) = resF FF (ptsOf ra)) := Lib.hid (by rw [HRS.out]; rfl)
  have HRS := HRS2
  clear HRS2
  go_wp2_with fail
  (with_reducible refine (HPL.out _ HB2.out).mono ?_); rintro e w3 ⟨rfl, hm, hb3⟩
  have HMP := Lib.hid hm
  have HB3 := Lib.hid (HB2.out.trans (hb3.mono HB2.out.size))
  obtain ⟨bm, hbm⟩ : ∃ b, w2.heap.size = b := ⟨_, rfl⟩
  have HBM := Lib.hid (show bm < w3.heap.size ∧ w.heap.size ≤ w3.heap.size by rw [← hbm]; exact ⟨hm.lt, Nat.le_trans HB2.out.size hb3.size⟩)
  rw [hbm] at HMP ⊢
  clear hm hb3 hbm HB2 HPL
  go_wp2_with fail
  go_loopg [9, 26] N (fun g x9 x26 wr => ∃ (k : Nat) (X : Option Addr) (cx : Nat) (rows : List PtR), k + g = N ∧ x26 = .int .i64 k ∧ x9 = .slice X rows.length cx ∧ OutAt w3.heap.size (.slice X rows.length cx) rows k (outF FF (ptsOf (ra.take k))) wr ∧ errF FF (ptsOf (ra.take k)) = 0 ∧ IMap wr bm NB (placeK ks NB) (placeC ks NB) ∧ Below w3.heap.size w3 wr)
  case atStart => exact ⟨0, none, 0, [], by omega, rfl, rfl, OutAt.nil _ _, rfl, HMP.out, Below.refl _ _⟩
  case round =>
    obtain ⟨k, X, cx, rows, hkg, rfl, rfl, ho, her, hmap, hbel⟩ := hrel
    have HMQ := Lib.hid hmap
    have HO := Lib.hid ho; have HBE := Lib.hid hbel; have HER := Lib.hid her
    have HBT := Lib.hid (HB3.out.trans (hbel.mono HBM.out.2))
    have HBW := HBT.out
    clear ho hbel her hmap HMP
    have HMP := HMQ
    clear HMQ
    cases gk with
    | zero =>
      obtain rfl : k = N := by omega
      have HC := Lib.hid (sort_any w3.heap.size X cx rows wr HO.out.at_ (by have := HO.out.len; omega) HO.out.sets)
      have HF : Hid (mathR kd (ptsOf ra) (ptsOf rb) = (sortP (ptsOf rows), 0)) := Lib.hid (by
        have e1 := HO.out.eq
        have e2 := HER.out
        rw [List.take_of_length_le (by rw [HN.out]; exact Nat.le_refl _)] at e1 e2
        rw [HRS.out, resF, if_pos e2, e1])
      clear HO HBW HER HMP
      go_wp2_with fail
      (with_reducible refine HC.out.mono ?_); rintro e w9 ⟨Y, cy, ry, h1, rfl, h3, h4, h5, h6⟩
      have HG : Hid (PtsAnsE (mathR kd (ptsOf ra) (ptsOf rb)) w (.returned (.tuple #[.slice Y ry.length cy, .int .i64 0])) w9) := Lib.hid (.ok HF.out h1 h3 (Nat.le_trans HBM.out.2 HBE.out.size) (HBT.out.trans (h4.mono HBT.out.size)) ⟨h5, h6⟩)
      clear h1 h3 h4 h5 h6 HC HF
      go_wp2_with fail
      go_ret2
      exact HG.out
    | succ g =>
      have hlt : k < ra.length := by have := HN.out; omega
      have HR := H.out wr HBW
      obtain ⟨ad, hA, e0, e1, _⟩ := pt_get HR hlt
      have hol := HR.each ra[k] (List.getElem_mem hlt)
      have hl := HSL.out ra[k] (List.getElem_mem hlt)
      have HNX := Lib.hid (HAN.out k hlt)
      subst hA
      have hi64 := HV.out ra[k] (List.getElem_mem hlt)
      have HLT := Lib.hid hlt
      generalize ra[k] = q at *
      obtain ⟨sv, l, val⟩ := q
      simp only at e0 e1 hol hl hi64
      obtain ⟨A2, c2, hsv, hss, _, _⟩ := hol.hasL
      subst hsv
      obtain ⟨sl, hsl⟩ : ∃ n, l.length = n := ⟨_, rfl⟩
      have HSE := Lib.hid hsl
      rw [hsl] at e0 hss hl hol
      have ha := (Below.refl wr.heap.size wr).alloc (Nat.le_refl _) (.cells #[.slice A2 sl c2, .int .i64 val] 43)
      have HX2 := Lib.hid (Blk.mk (heap_alloc_new wr (.cells #[.slice A2 sl c2, .int .i64 val] 43)) : Blk _ wr.heap.size 43 [.slice A2 sl c2, .int .i64 val])
      have HC := Lib.hid (keyText_any A2 sl c2 l val (wr.alloc (.cells #[.slice A2 sl c2, .int .i64 val] 43)) ((hss.below ha).more ha.size) (by omega))
      have HKEY := Lib.hid (fun (V : World) (hV : Below wr.heap.size wr V) => key_any A2 sl c2 l val V ((hss.below hV).more hV.size) (by omega))
      have hts := printL_size (bareL l)
      obtain ⟨tx, htx⟩ : ∃ t, (⟨(printL (bareL l)).toArray⟩ : ByteArray) = t := ⟨_, rfl⟩
      have HTX := Lib.hid (show tx.data.toList = keyT l by rw [← htx]; simp [keyT])
      rw [htx] at HC hts
      have htm : tx.size ≤ maxLen := by unfold maxLen; omega
      have HO2 := Lib.hid (HO.out.below ha)
      have HOL2 := Lib.hid (hol.below ha)
      have HMP2 := Lib.hid (HMP.out.below ha)
      have HBE2 := Lib.hid (HBE.out.trans (ha.mono HBE.out.size))
      have HAL := Lib.hid ha
      have hbl : (bareL l).length ≤ 1000 := by have := bare_len l; omega
      obtain ⟨sn, hsn⟩ : ∃ n, (bareL l).length = n := ⟨_, rfl⟩
      have HSN := Lib.hid hsn
      rw [hsn] at HKEY hbl
      clear hss hol ha HO HBE HR HBW HBT HMP hsl hts htx hsn
      go_upto_region 8 with fail
      obtain ⟨bx, hbx⟩ : ∃ b, wr.heap.size = b := ⟨_, rfl⟩
      rw [hbx] at HX2 HAL HKEY
      rw [hbx]
      have HBQ := Lib.hid hbx
      clear hbx e0 e1
      generalize wr.alloc (.cells #[.slice A2 sl c2, .int .i64 val] 43) = W2 at *
      have z0 := HX2.out.cell 0
      have z1 := HX2.out.cell 1
      simp only [List.getElem?_cons_zero, List.getElem?_cons_succ] at z0 z1
      go_wp2_with fail
      (with_reducible refine HC.out.mono ?_); rintro e w4 ⟨rfl, hb4⟩
      have HMP3 := Lib.hid (HMP2.out.below hb4)
      have HO3 := Lib.hid (HO2.out.below hb4)
      have HOL3 := Lib.hid (HOL2.out.below hb4)
      have HX3 := Lib.hid (HX2.out.below hb4 HX2.out.lt)
      have HBE3 := Lib.hid (HBE2.out.trans (hb4.mono HBE2.out.size))
      have HAL3 := Lib.hid (HAL.out.trans (hb4.mono (by have h1 := HAL.out.size; have h2 := HBQ.out; omega)))
      have hlk := HMP3.out.look htm
      rw [HTX.out] at hlk
      have HFP := Lib.hid (HFI.out (l, val))
      obtain ⟨o, ho⟩ : ∃ o, placeK ks NB (keyT l) = o := ⟨_, rfl⟩
      have HOP := Lib.hid ho
      rw [ho] at hlk
      clear hb4 HC HMP2 HO2 HOL2 HBE2 HAL HX2 z0 z1 htm ho
      have z0 := HX3.out.cell 0
      have z1 := HX3.out.cell 1
      simp only [List.getElem?_cons_zero, List.getElem?_cons_succ] at z0 z1
      cases o with
      | none =>
        have hff : FF (l, val) = none := by
          have h := HFP.out
          rw [show keyT (l, val).1 = keyT l from rfl, HOP.out] at h
          rw [← HFF.out]; unfold mathF; rw [h]; try rfl
        have HEN := Lib.hid (HNX.out.2 HER.out)
        have HNX2 := Lib.hid HNX.out.1
        simp only [hff] at HEN HNX2
        have HO4 := Lib.hid (HO3.out.next (HNX2.out.trans (List.append_nil _)))
        clear hff HNX HNX2 HER HO3 HKEY HFP HOP
        go_wp2_with fail
        go_roundg g
        case measure => omega
        case rel => exact ⟨k + 1, X, cx, rows, by omega, by first | rfl | go_num, rfl, HO4.out, HEN.out, HMP3.out, HBE3.out⟩
      | some i =>
        obtain ⟨q, rfl, hq, _⟩ := place_some ks NB (keyT l) i HOP.out
        have HQ := Lib.hid hq
        have hqb : q < rb.length := by rw [HNB.out]; exact hq
        have HBW4 := HB3.out.trans (HBE3.out.mono HBM.out.2)
        obtain ⟨bd, hBA, y0, y1, y2⟩ := pt_get (H2.out w4 HBW4) hqb
        subst hBA
        have hi64b := HVB.out rb[q] (List.getElem_mem hqb)
        have hvp := HVP.out q hqb
        generalize rb[q].val = vb at *
        clear y0 y2
        have HREC := Lib.hid (fun V => reckon_any kd val vb V hi64 hi64b)
        obtain ⟨⟨vl, er⟩, hrec⟩ : ∃ p, reckonF kd val vb = p := ⟨_, rfl⟩
        have hff : FF (l, val) = some (bareL l, (vl, er)) := by
          have h := HFP.out
          rw [show keyT (l, val).1 = keyT l from rfl, HOP.out] at h
          rw [← HFF.out]; unfold mathF; rw [h]; simp only [Option.map_some]; rw [hvp, hrec]
        have HEN := Lib.hid (HNX.out.2 HER.out)
        have HNX2 := Lib.hid HNX.out.1
        simp only [hff] at HEN HNX2
        simp only [hrec] at HREC
        clear hff hrec HNX HER HFP HOP hi64 hi64b hvp hqb HBW4
        go_upto_region 10 with fail
        go_quiet ((go_at_call 54; exact calls_quiet (HREC.out _)))
        have HO5 := Lib.hid (HO3.out.below (below_drewN2 (Below.refl _ _) nq))
        have HMP5 := Lib.hid (HMP3.out.drewN nq)
        have HBE5 := Lib.hid (below_drewN2 HBE3.out nq)
        have HAL5 := Lib.hid (below_drewN2 HAL3.out nq)
        have HX5 := Lib.hid (HX3.out.drewN nq)
        clear HO3 HMP3 HBE3 HAL3 HX3 HOL3 y1 z0 z1 hlk
        generalize w4.drewN nq = w5 at *
        have HBF := Lib.hid (HB3.out.trans (HBE5.out.mono HBM.out.2))
        have z0 := HX5.out.cell 0
        have z1 := HX5.out.cell 1
        simp only [List.getElem?_cons_zero, List.getElem?_cons_succ] at z0 z1
        by_cases he0 : er = 0
        case neg =>
          have HE0 := Lib.hid he0
          have t1 : (er == 0) = false := int_ne9 he0
          have t2 : (er != 0) = true := by simp [bne, t1]
          clear he0
          have HG : Hid (PtsAnsE (mathR kd (ptsOf ra) (ptsOf rb)) w (.returned (.tuple #[.slice none 0 0, .int .i64 er])) w5) := Lib.hid (.fault (by
            have h0 : errF FF (ptsOf (ra.take (k + 1))) = er := HEN.out
            have h1 := errF_hit FF ra k HLT.out (by rw [h0]; exact HE0.out)
            rw [HRS.out, resF, if_neg (by rw [h1, h0]; exact HE0.out), h1, h0]) HBF.out)
          clear HO5 HEN HNX2
          go_wp2_with fail
          go_ret2
          exact HG.out
        case pos =>
          subst he0
          have HK := Lib.hid (HKEY.out _ HAL5.out)
          clear HKEY HAL5 HBF
          go_wp2_with fail
          (with_reducible refine HK.out.mono ?_); rintro e w6 ⟨C2, d2, rfl, hown, hb6, _, _⟩
          have hb7 := (Below.refl w6.heap.size w6).alloc (Nat.le_refl _) (.cells #[.slice C2 sn d2, .int .i64 vl] 43)
          have HO6 := Lib.hid ((HO5.out.below hb6).below hb7)
          have HMP6 := Lib.hid ((HMP5.out.below hb6).below hb7)
          have HOL6 := Lib.hid (show OwnL (w6.alloc (.cells #[.slice C2 sn d2, .int .i64 vl] 43)) (.slice C2 sn d2) (bareL l) from OwnL.below ⟨C2, d2, by rw [HSN.out], by rw [HSN.out]; exact own_mono hown (Nat.zero_le _)⟩ hb7)
          have HBE6 := Lib.hid ((HBE5.out.trans (hb6.mono HBE5.out.size)).trans (hb7.mono (Nat.le_trans HBE5.out.size hb6.size)))
          have HX4 := Lib.hid ((Blk.mk (heap_alloc_new w6 (.cells #[.slice C2 sn d2, .int .i64 vl] 43)) : Blk _ w6.heap.size 43 [.slice C2 sn d2, .int .i64 vl]).sees (size := 2) (n := 1) rfl (List.prefix_refl _))
          clear hown hb6 hb7 HK HO5 HBE5 HMP5 HX5 z0 z1
          go_wp2_with (at_builtin; refine wpList_append_at rfl (.tmp 54) (.tmp 59) 38 rfl w3.heap.size 43 i0 (.agg #[.slice none 0 0, .int .i64 0]) 2 32 Tryz.underlying38 HI.out HZ0.out HZ1.out HZ2.out rfl (by decide) (.slice X rows.length cx) rows.length (pts rows) rfl HO6.out.at_.own _ (some ⟨w6.heap.size, 0, none⟩) 1 _ [.slice C2 sn d2, .int .i64 vl] rfl HX4.out (by intro u hu; simp at hu; rcases hu with rfl | rfl <;> rfl) (by unfold maxLen; have := HO6.out.len; omega) (by have := HO6.out.len; omega) HBE6.out.size ?_)
          intro v' w8 hown hgr hwh
          have HO8 := Lib.hid (HO6.out.push (l := bareL l) (z := vl) HOL6.out (by rw [HSN.out]; exact hbl) hown hgr HNX2.out)
          have HMP8 := Lib.hid (HMP6.out.kept hgr (fun e => by have h1 := (HO6.out.at_.own.lt bm e.symm).1; have := HBM.out.1; omega))
          have HBE8 := Lib.hid (HBE6.out.grown hgr HBE6.out.size (fun g e => (HO6.out.at_.own.lt g e).1))
          obtain ⟨A5, c5, rfl, _, _⟩ := own_slice hown
          have HL5 := Lib.hid (show (rows ++ [(⟨.slice C2 sn d2, bareL l, vl⟩ : PtR)]).length = rows.length + 1 by simp)
          clear hown hgr hwh HO6 HOL6 HBE6 HMP6 HX4
          go_wp2_with fail
          go_roundg g
          case measure => omega
          case rel => exact ⟨k + 1, A5, c5, _, by omega, by first | rfl | go_num, by rw [HL5.out], by rw [HL5.out]; exact HO8.out, HEN.out, HMP8.out, HBE8.out⟩
set_option maxHeartbeats 8000000 in
theorem filter_any (b1 b2 : Nat) (A B : Option Addr) (c cB : Nat) (ra rb : List PtR) (kd : Int) (w : World) (h : PtsAt b1 (.slice A ra.length c) ra w) (h2 : PtsAt b2 (.slice B rb.length cB) rb w) (hn : ra.length ≤ 1000) (hnB : rb.length ≤ 1000) (hsl : ∀ x ∈ ra, x.set.length ≤ 1000) (hslB : ∀ x ∈ rb, x.set.length ≤ 1000) (hv : ∀ x ∈ ra, I64 x.val) (hvB : ∀ x ∈ rb, I64 x.val) :
    Calls Tryz.prog 26 #[.int .i64 kd, .slice A ra.length c, .slice B rb.length cB] w (PtsAnsE (filterR kd (ptsOf ra) (ptsOf rb)) w) := by
  obtain ⟨i0, hi, hz0, hz1, hz2⟩ := info_parts Tryz.infoPt
  have HI := Lib.hid hi; have HZ0 := Lib.hid hz0; have HZ1 := Lib.hid hz1; have HZ2 := Lib.hid hz2
  clear hi hz0 hz1 hz2
  have HTW := Lib.hid (twice_any b1 A c ra w h (by omega) hsl)
  have HTB := Lib.hid (fun V (hV : Below w.heap.size w V) => twice_any b2 B cB rb V (h2.below hV) hnB hslB)
  have HPL := Lib.hid (fun V (hV : Below w.heap.size w V) => places_any b2 B cB rb V (h2.below hV) hnB hslB)
  have H := Lib.hid (fun (V : World) (hV : Below w.heap.size w V) => h.below hV)
  have H2 := Lib.hid (fun (V : World) (hV : Below w.heap.size w V) => h2.below hV)
  have HSL := Lib.hid hsl; have HV := Lib.hid hv; have HVB := Lib.hid hvB
  obtain ⟨FF, hFF⟩ : ∃ f, filterF kd (ptsOf rb) = f := ⟨_, rfl⟩
  have HFF := Lib.hid hFF
  have HAN := Lib.hid (fun k hk => And.intro (outF_next FF ra k hk) (errF_next FF ra k hk))
  have HFI := Lib.hid (show ∀ p, findP (ptsOf rb) p = placeK (keysOf rb) rb.length (keyT p.1) from fun p => by unfold findP; rw [← keysOf_pts]; simp [ptsOf])
  have HVP := Lib.hid (valP_at rb)
  clear h h2 hsl hslB hv hvB
  obtain ⟨N, hN⟩ : ∃ N, ra.length = N := ⟨_, rfl⟩
  have HN := Lib.hid hN
  rw [hN] at H hn HTW ⊢
  rw [← hN] at H
  obtain ⟨NB, hNB⟩ : ∃ N, rb.length = N := ⟨_, rfl⟩
  have HNB := Lib.hid hNB
  rw [hNB] at H2 hnB HTB HPL HFI ⊢
  rw [← hNB] at H2
  clear hN hNB
  obtain ⟨tw, htw⟩ : ∃ b, twiceF (keysOf ra) = b := ⟨_, rfl⟩
  obtain ⟨twB, htwB⟩ : ∃ b, twiceF (keysOf rb) = b := ⟨_, rfl⟩
  have HRS : Hid (filterR kd (ptsOf ra) (ptsOf rb) = if (tw || twB) = true then ([], 5) else resF FF (ptsOf ra)) := Lib.hid (by unfold filterR; rw [← keysOf_pts, ← keysOf_pts, htw, htwB, ← hFF])
  obtain ⟨ks, hks⟩ : ∃ k, keysOf rb = k := ⟨_, rfl⟩
  rw [htw] at HTW
  rw [htwB] at HTB
  rw [hks] at HPL HFI
  clear htw htwB hFF hks
  go_enter Tryz.func26, Tryz.ntmps26
  go_wp2_with fail
  (with_reducible refine HTW.out.mono ?_); rintro e w1 ⟨rfl, hb1⟩
  have HB1 := Lib.hid hb1
  clear hb1 HTW
  cases tw with
  | true =>
    have HF : Hid (PtsAnsE (filterR kd (ptsOf ra) (ptsOf rb)) w (.returned (.tuple #[.slice none 0 0, .int .i64 5])) w1) := Lib.hid (.fault (by rw [HRS.out]; rfl) HB1.out)
    go_wp2_with fail
    go_ret2
    exact HF.out
  | false =>
  go_wp2_with fail
  (with_reducible refine (HTB.out _ HB1.out).mono ?_); rintro e w2 ⟨rfl, hb2⟩
  have HB2 := Lib.hid (HB1.out.trans (hb2.mono HB1.out.size))
  clear hb2 HTB HB1
  cases twB with
  | true =>
    have HF : Hid (PtsAnsE (filterR kd (ptsOf ra) (ptsOf rb)) w (.returned (.tuple #[.slice none 0 0, .int .i64 5])) w2) := Lib.hid (.fault (by rw [HRS.out]; rfl) HB2.out)
    go_wp2_with fail
    go_ret2
    exact HF.out
  | false =>
  have HRS2 : Hid (filterR kd (ptsOf ra) (ptsOf rb) = resF FF (ptsOf ra)) := Lib.hid (by rw [HRS.out]; rfl)
  have HRS := HRS2
  clear HRS2
  go_wp2_with fail
  (with_reducible refine (HPL.out _ HB2.out).mono ?_); rintro e w3 ⟨rfl, hm, hb3⟩
  have HMP := Lib.hid hm
  have HB3 := Lib.hid (HB2.out.trans (hb3.mono HB2.out.size))
  obtain ⟨bm, hbm⟩ : ∃ b, w2.heap.size = b := ⟨_, rfl⟩
  have HBM := Lib.hid (show bm < w3.heap.size ∧ w.heap.size ≤ w3.heap.size by rw [← hbm]; exact ⟨hm.lt, Nat.le_trans HB2.out.size hb3.size⟩)
  rw [hbm] at HMP ⊢
  clear hm hb3 hbm HB2 HPL
  go_wp2_with fail
  go_loopg [9, 24] N (fun g x9 x26 wr => ∃ (k : Nat) (X : Option Addr) (cx : Nat) (rows : List PtR), k + g = N ∧ x26 = .int .i64 k ∧ x9 = .slice X rows.length cx ∧ OutAt w3.heap.size (.slice X rows.length cx) rows k (outF FF (ptsOf (ra.take k))) wr ∧ errF FF (ptsOf (ra.take k)) = 0 ∧ IMap wr bm NB (placeK ks NB) (placeC ks NB) ∧ Below w3.heap.size w3 wr)
  case atStart => exact ⟨0, none, 0, [], by omega, rfl, rfl, OutAt.nil _ _, rfl, HMP.out, Below.refl _ _⟩
  case round =>
    obtain ⟨k, X, cx, rows, hkg, rfl, rfl, ho, her, hmap, hbel⟩ := hrel
    have HMQ := Lib.hid hmap
    have HO := Lib.hid ho; have HBE := Lib.hid hbel; have HER := Lib.hid her
    have HBT := Lib.hid (HB3.out.trans (hbel.mono HBM.out.2))
    have HBW := HBT.out
    clear ho hbel her hmap HMP
    have HMP := HMQ
    clear HMQ
    cases gk with
    | zero =>
      obtain rfl : k = N := by omega
      have HC := Lib.hid (sort_any w3.heap.size X cx rows wr HO.out.at_ (by have := HO.out.len; omega) HO.out.sets)
      have HF : Hid (filterR kd (ptsOf ra) (ptsOf rb) = (sortP (ptsOf rows), 0)) := Lib.hid (by
        have e1 := HO.out.eq
        have e2 := HER.out
        rw [List.take_of_length_le (by rw [HN.out]; exact Nat.le_refl _)] at e1 e2
        rw [HRS.out, resF, if_pos e2, e1])
      clear HO HBW HER HMP
      go_wp2_with fail
      (with_reducible refine HC.out.mono ?_); rintro e w9 ⟨Y, cy, ry, h1, rfl, h3, h4, h5, h6⟩
      have HG : Hid (PtsAnsE (filterR kd (ptsOf ra) (ptsOf rb)) w (.returned (.tuple #[.slice Y ry.length cy, .int .i64 0])) w9) := Lib.hid (.ok HF.out h1 h3 (Nat.le_trans HBM.out.2 HBE.out.size) (HBT.out.trans (h4.mono HBT.out.size)) ⟨h5, h6⟩)
      clear h1 h3 h4 h5 h6 HC HF
      go_wp2_with fail
      go_ret2
      exact HG.out
    | succ g =>
      have hlt : k < ra.length := by have := HN.out; omega
      have HR := H.out wr HBW
      obtain ⟨ad, hA, e0, e1, _⟩ := pt_get HR hlt
      have hol := HR.each ra[k] (List.getElem_mem hlt)
      have hl := HSL.out ra[k] (List.getElem_mem hlt)
      have HNX := Lib.hid (HAN.out k hlt)
      subst hA
      have hi64 := HV.out ra[k] (List.getElem_mem hlt)
      have HLT := Lib.hid hlt
      generalize ra[k] = q at *
      obtain ⟨sv, l, val⟩ := q
      simp only at e0 e1 hol hl hi64
      obtain ⟨A2, c2, hsv, hss, _, _⟩ := hol.hasL
      subst hsv
      obtain ⟨sl, hsl⟩ : ∃ n, l.length = n := ⟨_, rfl⟩
      have HSE := Lib.hid hsl
      rw [hsl] at e0 hss hl hol
      have ha := (Below.refl wr.heap.size wr).alloc (Nat.le_refl _) (.cells #[.slice A2 sl c2, .int .i64 val] 43)
      have HX2 := Lib.hid (Blk.mk (heap_alloc_new wr (.cells #[.slice A2 sl c2, .int .i64 val] 43)) : Blk _ wr.heap.size 43 [.slice A2 sl c2, .int .i64 val])
      have HC := Lib.hid (keyText_any A2 sl c2 l val (wr.alloc (.cells #[.slice A2 sl c2, .int .i64 val] 43)) ((hss.below ha).more ha.size) (by omega))
      have HKEY := Lib.hid (fun (V : World) (hV : Below wr.heap.size wr V) => key_any A2 sl c2 l val V ((hss.below hV).more hV.size) (by omega))
      have hts := printL_size (bareL l)
      obtain ⟨tx, htx⟩ : ∃ t, (⟨(printL (bareL l)).toArray⟩ : ByteArray) = t := ⟨_, rfl⟩
      have HTX := Lib.hid (show tx.data.toList = keyT l by rw [← htx]; simp [keyT])
      rw [htx] at HC hts
      have htm : tx.size ≤ maxLen := by unfold maxLen; omega
      have HO2 := Lib.hid (HO.out.below ha)
      have HOL2 := Lib.hid (hol.below ha)
      have HMP2 := Lib.hid (HMP.out.below ha)
      have HBE2 := Lib.hid (HBE.out.trans (ha.mono HBE.out.size))
      have HAL := Lib.hid ha
      have hbl : (bareL l).length ≤ 1000 := by have := bare_len l; omega
      obtain ⟨sn, hsn⟩ : ∃ n, (bareL l).length = n := ⟨_, rfl⟩
      have HSN := Lib.hid hsn
      rw [hsn] at HKEY hbl
      clear hss hol ha HO HBE HR HBW HBT HMP hsl hts htx hsn
      go_upto_region 8 with fail
      obtain ⟨bx, hbx⟩ : ∃ b, wr.heap.size = b := ⟨_, rfl⟩
      rw [hbx] at HX2 HAL HKEY
      rw [hbx]
      have HBQ := Lib.hid hbx
      clear hbx e0 e1
      generalize wr.alloc (.cells #[.slice A2 sl c2, .int .i64 val] 43) = W2 at *
      have z0 := HX2.out.cell 0
      have z1 := HX2.out.cell 1
      simp only [List.getElem?_cons_zero, List.getElem?_cons_succ] at z0 z1
      go_wp2_with fail
      (with_reducible refine HC.out.mono ?_); rintro e w4 ⟨rfl, hb4⟩
      have HMP3 := Lib.hid (HMP2.out.below hb4)
      have HO3 := Lib.hid (HO2.out.below hb4)
      have HOL3 := Lib.hid (HOL2.out.below hb4)
      have HX3 := Lib.hid (HX2.out.below hb4 HX2.out.lt)
      have HBE3 := Lib.hid (HBE2.out.trans (hb4.mono HBE2.out.size))
      have HAL3 := Lib.hid (HAL.out.trans (hb4.mono (by have h1 := HAL.out.size; have h2 := HBQ.out; omega)))
      have hlk := HMP3.out.look htm
      rw [HTX.out] at hlk
      have HFP := Lib.hid (HFI.out (l, val))
      obtain ⟨o, ho⟩ : ∃ o, placeK ks NB (keyT l) = o := ⟨_, rfl⟩
      have HOP := Lib.hid ho
      rw [ho] at hlk
      clear hb4 HC HMP2 HO2 HOL2 HBE2 HAL HX2 z0 z1 htm ho
      have z0 := HX3.out.cell 0
      have z1 := HX3.out.cell 1
      simp only [List.getElem?_cons_zero, List.getElem?_cons_succ] at z0 z1
      cases o with
      | none =>
        have hff : FF (l, val) = none := by
          have h := HFP.out
          rw [show keyT (l, val).1 = keyT l from rfl, HOP.out] at h
          rw [← HFF.out]; unfold filterF; rw [h]; try rfl
        have HEN := Lib.hid (HNX.out.2 HER.out)
        have HNX2 := Lib.hid HNX.out.1
        simp only [hff] at HEN HNX2
        have HO4 := Lib.hid (HO3.out.next (HNX2.out.trans (List.append_nil _)))
        clear hff HNX HNX2 HER HO3 HKEY HFP HOP
        go_upto_region 9 with fail
        go_quiet (fail)
        go_wp2_with fail
        go_roundg g
        case measure => omega
        case rel => exact ⟨k + 1, X, cx, rows, by omega, by first | rfl | go_num, rfl, HO4.out.below (below_drewN2 (Below.refl _ _) _), HEN.out, HMP3.out.drewN _, below_drewN2 HBE3.out _⟩
      | some i =>
        obtain ⟨q, rfl, hq, _⟩ := place_some ks NB (keyT l) i HOP.out
        have HQ := Lib.hid hq
        have hqb : q < rb.length := by rw [HNB.out]; exact hq
        have HBW4 := HB3.out.trans (HBE3.out.mono HBM.out.2)
        obtain ⟨bd, hBA, y0, y1, y2⟩ := pt_get (H2.out w4 HBW4) hqb
        subst hBA
        have hi64b := HVB.out rb[q] (List.getElem_mem hqb)
        have hvp := HVP.out q hqb
        generalize rb[q].val = vb at *
        clear y0 y2
        have HRH := Lib.hid (fun V => holds_v kd val vb V)
        obtain ⟨hb, hhb⟩ : ∃ b, holdsC kd val vb = b := ⟨_, rfl⟩
        have hff : FF (l, val) = if hb = true then some (l, (val, 0)) else none := by
          have h := HFP.out
          rw [show keyT (l, val).1 = keyT l from rfl, HOP.out] at h
          rw [← HFF.out]; unfold filterF; rw [h]; simp only; rw [hvp, hhb]
        rw [hhb] at HRH
        have HEN := Lib.hid (HNX.out.2 HER.out)
        have HNX2 := Lib.hid HNX.out.1
        rw [hff] at HEN HNX2
        clear hff hhb HNX HER HFP HOP hi64 hi64b hvp hqb HBW4
        go_upto_region 9 with fail
        go_quiet ((go_at_call 57; exact calls_quiet (HRH.out _)))
        have HO5 := Lib.hid (HO3.out.below (below_drewN2 (Below.refl _ _) nq))
        have HMP5 := Lib.hid (HMP3.out.drewN nq)
        have HBE5 := Lib.hid (below_drewN2 HBE3.out nq)
        have HX5 := Lib.hid (HX3.out.drewN nq)
        have HOL5 := Lib.hid (HOL3.out.below (below_drewN2 (Below.refl _ _) nq))
        clear HO3 HMP3 HBE3 HAL3 HX3 HOL3 y1 z0 z1 hlk HKEY
        generalize w4.drewN nq = w5 at *
        have z0 := HX5.out.cell 0
        have z1 := HX5.out.cell 1
        simp only [List.getElem?_cons_zero, List.getElem?_cons_succ] at z0 z1
        cases hb with
        | false =>
          have HO6 := Lib.hid (HO5.out.next (HNX2.out.trans (List.append_nil _)))
          have HEN2 := Lib.hid (show errF FF (ptsOf (ra.take (k + 1))) = 0 from HEN.out)
          clear HO5 HNX2 HEN
          go_wp2_with fail
          go_roundg g
          case measure => omega
          case rel => exact ⟨k + 1, X, cx, rows, by omega, by first | rfl | go_num, rfl, HO6.out, HEN2.out, HMP5.out, HBE5.out⟩
        | true =>
          have HEN2 := Lib.hid (show errF FF (ptsOf (ra.take (k + 1))) = 0 from HEN.out)
          have hb7 := (Below.refl w5.heap.size w5).alloc (Nat.le_refl _) (.cells #[.slice A2 sl c2, .int .i64 val] 43)
          have HO6 := Lib.hid (HO5.out.below hb7)
          have HMP6 := Lib.hid (HMP5.out.below hb7)
          have HOL6 := Lib.hid (HOL5.out.below hb7)
          have HBE6 := Lib.hid (HBE5.out.trans (hb7.mono HBE5.out.size))
          have HX4 := Lib.hid ((Blk.mk (heap_alloc_new w5 (.cells #[.slice A2 sl c2, .int .i64 val] 43)) : Blk _ w5.heap.size 43 [.slice A2 sl c2, .int .i64 val]).sees (size := 2) (n := 1) rfl (List.prefix_refl _))
          clear hb7 HO5 HBE5 HMP5 HEN
          go_wp2_with (at_builtin; refine wpList_append_at rfl (.tmp 47) (.tmp 49) 38 rfl w3.heap.size 43 i0 (.agg #[.slice none 0 0, .int .i64 0]) 2 32 Tryz.underlying38 HI.out HZ0.out HZ1.out HZ2.out rfl (by decide) (.slice X rows.length cx) rows.length (pts rows) rfl HO6.out.at_.own _ (some ⟨w5.heap.size, 0, none⟩) 1 _ [.slice A2 sl c2, .int .i64 val] rfl HX4.out (by intro u hu; simp at hu; rcases hu with rfl | rfl <;> rfl) (by unfold maxLen; have := HO6.out.len; omega) (by have := HO6.out.len; omega) HBE6.out.size ?_)
          intro v' w8 hown hgr hwh
          have HO8 := Lib.hid (HO6.out.push (l := l) (z := val) HOL6.out (by rw [HSE.out]; exact hl) hown hgr HNX2.out)
          have HMP8 := Lib.hid (HMP6.out.kept hgr (fun e => by have h1 := (HO6.out.at_.own.lt bm e.symm).1; have := HBM.out.1; omega))
          have HBE8 := Lib.hid (HBE6.out.grown hgr HBE6.out.size (fun g e => (HO6.out.at_.own.lt g e).1))
          obtain ⟨A5, c5, rfl, _, _⟩ := own_slice hown
          have HL5 := Lib.hid (show (rows ++ [(⟨.slice A2 sl c2, l, val⟩ : PtR)]).length = rows.length + 1 by simp)
          clear hown hgr hwh HO6 HOL6 HBE6 HMP6 HX4 HX5 z0 z1
          go_wp2_with fail
          go_roundg g
          case measure => omega
          case rel => exact ⟨k + 1, A5, c5, _, by omega, by first | rfl | go_num, by rw [HL5.out], by rw [HL5.out]; exact HO8.out, HEN2.out, HMP8.out, HBE8.out⟩
end Go.Proofs.YtlmakdclebbbkaaGreat
