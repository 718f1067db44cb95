/- klaxonref7.Two. -/
import Derived.Test.YtbndmmfpoljeaaaRef7d
import Derived.Test.YtbndmmfpoljeaaaVecStart
namespace Go.Proofs.Ytbndmmfpoljeaaa
open Go.ChangeShapes Go.WideShapes Go.ChangeAt Go.RowKit
set_option linter.unusedVariables false
set_option linter.unusedSimpArgs false
set_option maxRecDepth 100000
/-- Two's boxes: its two results, what it answers. -/
structure TwAt (w0 : World) (b4 b5 b6 : Nat) (va vb : List Value) (W : World) : Prop where
  x4 : Blk W b4 41 va
  x5 : Blk W b5 41 vb
  x6 : Blk W b6 41 [.int .i64 0, .int .i64 0, .slice none 0 0]
  le : w0.heap.size ≤ b6
  bel : Below w0.heap.size w0 W
theorem TwAt.below {w0 W W' : World} {b4 b5 b6 : Nat} {va vb : List Value} (h : TwAt w0 b4 b5 b6 va vb W) (hb : Below W.heap.size W W') : TwAt w0 b4 b5 b6 va vb W' := ⟨h.x4.below hb h.x4.lt, h.x5.below hb h.x5.lt, h.x6.below hb h.x6.lt, h.le, h.bel.trans (hb.mono h.bel.size)⟩
def TwoAns (r : List Pt × Int) (w : World) (e : Ending) (w' : World) : Prop := ∃ (ty : Int) (A : Option Addr) (c : Nat) (rows : List PtR), ptsOf rows = r.1 ∧ e = .returned (.tuple #[.agg #[.int .i64 ty, .int .i64 0, .slice A rows.length c], .int .i64 r.2]) ∧ PtsAt w.heap.size (.slice A rows.length c) rows w' ∧ Below w.heap.size w w' ∧ rows.length ≤ c ∧ c ≤ 9223372036854775807
theorem TwAt.start (w : World) (x1 x2 x3 y1 y2 y3 : Value) : TwAt w w.heap.size (w.heap.size + 1) (w.heap.size + 1 + 1) [x1, x2, x3] [y1, y2, y3] (((w.alloc (.cells #[x1, x2, x3] 41)).alloc (.cells #[y1, y2, y3] 41)).alloc (.cells #[.int .i64 0, .int .i64 0, .slice none 0 0] 41)) := by
  have h1 : (w.alloc (.cells #[x1, x2, x3] 41)).heap.size = w.heap.size + 1 := by simp
  have h2 : ((w.alloc (.cells #[x1, x2, x3] 41)).alloc (.cells #[y1, y2, y3] 41)).heap.size = w.heap.size + 2 := by simp
  refine ⟨((Blk.mk (heap_alloc_new w _)).alloc _).alloc _, ?_, ?_, by omega, (((Below.refl _ _).alloc (Nat.le_refl _) _).alloc (by simp) _).alloc (by simp; omega) _⟩
  · have h := ((Blk.mk (heap_alloc_new (w.alloc (.cells #[x1, x2, x3] 41)) (.cells #[y1, y2, y3] 41)) : Blk _ _ 41 [y1, y2, y3]).alloc (.cells #[.int .i64 0, .int .i64 0, .slice none 0 0] 41))
    rwa [h1] at h
  · have h := (Blk.mk (heap_alloc_new ((w.alloc (.cells #[x1, x2, x3] 41)).alloc (.cells #[y1, y2, y3] 41)) (.cells #[.int .i64 0, .int .i64 0, .slice none 0 0] 41)) : Blk _ _ 41 [.int .i64 0, .int .i64 0, .slice none 0 0])
    rwa [h2] at h
theorem two_cells {W : World} {b : Nat} {t : TypeId} {v0 v1 v2 : Value} (h : Blk W b t [v0, v1, v2]) (x y : Value) : (W.cell? ⟨b, 0, none⟩ = some v0 ∧ (W.setCell ⟨b, 0, none⟩ x).cell? ⟨b, 1, none⟩ = some v1 ∧ ((W.setCell ⟨b, 0, none⟩ x).setCell ⟨b, 1, none⟩ y).cell? ⟨b, 2, none⟩ = some v2) ∧ W.frozen? ⟨b, 0, none⟩ = false ∧ (W.setCell ⟨b, 0, none⟩ x).frozen? ⟨b, 1, none⟩ = false ∧ ((W.setCell ⟨b, 0, none⟩ x).setCell ⟨b, 1, none⟩ y).frozen? ⟨b, 2, none⟩ = false :=
  ⟨⟨h.cell 0, (h.set 0 x).cell 1, ((h.set 0 x).set 1 y).cell 2⟩, h.frozen 0, (h.set 0 x).frozen 1, ((h.set 0 x).set 1 y).frozen 2⟩
theorem ptsAt_store {base b i n c : Nat} {A : Option Addr} {rows : List PtR} {W : World} {cs : List Value} (h : PtsAt base (.slice A n c) rows W) (hb : Blk W b 41 cs) (u : Value) : PtsAt base (.slice A n c) rows (W.setCell ⟨b, i, none⟩ u) := by
  have key : ∀ (e : TypeId) (q s m : Nat) (y : Value) (xs : List Value), e ≠ 41 → W.ownsRow q e s y m xs → (W.setCell ⟨b, i, none⟩ u).ownsRow q e s y m xs := fun e q s m y xs he h1 => own_same h1 fun k hk _ => Below.heap_setCell W _ u k (fun e2 => by
    subst e2
    exact blkv_ne h1 hb he hk)
  exact ⟨key _ _ _ _ _ _ (by decide) h.own, fun x hx => by
    obtain ⟨A2, c2, e, h2⟩ := h.each x hx
    exact ⟨A2, c2, e, key _ _ _ _ _ _ (by decide) h2⟩⟩
theorem two_end {w0 W : World} {base b : Nat} {v0 v1 v2 : Value} {A : Option Addr} {c : Nat} {rows : List PtR} {r : List Pt × Int} (hb : Blk W b 41 [v0, v1, v2]) (hle : w0.heap.size ≤ b) (hbel : Below w0.heap.size w0 W) (hp : PtsAt base (.slice A rows.length c) rows W) (hbase : w0.heap.size ≤ base) (hc : rows.length ≤ c ∧ c ≤ 9223372036854775807) (hr : ptsOf rows = r.1) (ty : Int) :
    Blk (((W.setCell ⟨b, 0, none⟩ (.int .i64 ty)).setCell ⟨b, 1, none⟩ (.int .i64 0)).setCell ⟨b, 2, none⟩ (.slice A rows.length c)) b 41 [.int .i64 ty, .int .i64 0, .slice A rows.length c] ∧
    TwoAns r w0 (.returned (.tuple #[.agg #[.int .i64 ty, .int .i64 0, .slice A rows.length c], .int .i64 r.2])) (((W.setCell ⟨b, 0, none⟩ (.int .i64 ty)).setCell ⟨b, 1, none⟩ (.int .i64 0)).setCell ⟨b, 2, none⟩ (.slice A rows.length c)) := by
  have h1 := hb.set 0 (.int .i64 ty)
  have h2 := h1.set 1 (.int .i64 0)
  have h3 := h2.set 2 (.slice A rows.length c)
  refine ⟨h3, ty, A, c, rows, hr, rfl, (ptsAt_store (ptsAt_store (ptsAt_store hp hb _) h1 _) h2 _).mono hbase, ((hbel.setCell hle _).setCell hle _).setCell hle _, hc.1, hc.2⟩
theorem keysOf_eq (rows : List PtR) : keysOf rows = keysP (ptsOf rows) := keysOf_pts rows
set_option maxHeartbeats 8000000 in
theorem two_nv (base : Nat) (B : Option Addr) (cb : Nat) (rb : List PtR) (k n : Int) (w0 : World) (h : PtsAt base (.slice B rb.length cb) rb w0) (hc : rb.length ≤ cb) (hB : rb.length ≤ 19) (hs : SetsOk rb) (hv : ∀ p ∈ rb, I64 p.val) (wn : I64 n) (h1 : 3 ≤ k) (h2 : k ≤ 7) :
    Calls Try.prog 16 #[.int .i64 k, .agg #[.int .i64 1, .int .i64 n, .slice none 0 0], .agg #[.int .i64 2, .int .i64 0, .slice B rb.length cb]] w0 (TwoAns (scaleR k n true (ptsOf rb)) w0) := by
  obtain ⟨i0, hi, hz0, hz1, hz2⟩ := info_parts Try.infoPt
  have HI := Lib.hid hi; have HZ0 := Lib.hid hz0; have HZ1 := Lib.hid hz1; have HZ2 := Lib.hid hz2
  clear hi hz0 hz1 hz2
  have HPB := Lib.hid (fun (V : World) (hV : Below w0.heap.size w0 V) => h.below hV)
  have HS := Lib.hid hs; have HV := Lib.hid hv; have WN := Lib.hid wn; have HK := Lib.hid (And.intro h1 h2)
  have HTW := Lib.hid (fun (V : World) (hV : Below w0.heap.size w0 V) => twice_r B rb.length cb rb V (PtsS.of (h.below hV)) rfl (by omega) hc hs)
  have HST := Lib.hid (TwAt.start w0 (.int .i64 1) (.int .i64 n) (.slice none 0 0) (.int .i64 2) (.int .i64 0) (.slice B rb.length cb))
  obtain ⟨F, hF⟩ : ∃ F, scaleF k n true = F := ⟨_, rfl⟩
  obtain ⟨tw, htw⟩ : ∃ b, twiceF (keysOf rb) = b := ⟨_, rfl⟩
  have HR : Hid (scaleR k n true (ptsOf rb) = if tw = true then ([], 5) else resF F (ptsOf rb)) := Lib.hid (by unfold scaleR; rw [← keysOf_pts, htw, hF])
  have HFI := Lib.hid (fun (p : Pt) => show F p = some (bareL p.1, reckonF k n p.2) by rw [← hF]; unfold scaleF; rw [if_pos rfl])
  rw [htw] at HTW
  have hk7 : k ≤ 7 := h2
  clear h hs hv wn hF htw h1 h2
  obtain ⟨N, hN⟩ : ∃ N, rb.length = N := ⟨_, rfl⟩
  have HN := Lib.hid hN
  rw [hN] at HPB HTW HST hc hB ⊢
  clear hN
  go_enter Try.func16, Try.ntmps16
  go_upto_region 1 with fail
  obtain ⟨b6, hb6⟩ : ∃ b, w0.heap.size + 1 + 1 = b := ⟨_, rfl⟩
  obtain ⟨b5, hb5⟩ : ∃ b, w0.heap.size + 1 = b := ⟨_, rfl⟩
  obtain ⟨b4, hb4⟩ : ∃ b, w0.heap.size = b := ⟨_, rfl⟩
  obtain ⟨W1, hW1⟩ : ∃ W, (((w0.alloc (.cells #[.int .i64 1, .int .i64 n, .slice none 0 0] 41)).alloc (.cells #[.int .i64 2, .int .i64 0, .slice B N cb] 41)).alloc (.cells #[.int .i64 0, .int .i64 0, .slice none 0 0] 41)) = W := ⟨_, rfl⟩
  have HT1 := Lib.hid (show TwAt w0 b4 b5 b6 [.int .i64 1, .int .i64 n, .slice none 0 0] [.int .i64 2, .int .i64 0, .slice B N cb] W1 by have h := HST.out; rw [hW1, hb6, hb5, hb4] at h; exact h)
  rw [hb6, hb5, hb4, hW1]
  clear HST hb6 hb5 hb4 hW1
  have a0 := HT1.out.x4.cell 0; have a1 := HT1.out.x4.cell 1; have a2 := HT1.out.x4.cell 2
  have d0 := HT1.out.x5.cell 0; have d1 := HT1.out.x5.cell 1; have d2 := HT1.out.x5.cell 2
  simp only [List.getElem?_cons_zero, List.getElem?_cons_succ] at a0 a1 a2 d0 d1 d2
  go_wp2_with fail
  (with_reducible refine (HTW.out _ HT1.out.bel).mono ?_); rintro e w1 ⟨rfl, hb⟩
  have HT2 := Lib.hid (HT1.out.below hb)
  clear hb HT1 HTW a0 a1 a2 d0 d1 d2
  cases tw with
  | true =>
    have HE := Lib.hid (two_end (rows := []) (A := none) (c := 0) (r := ([], 5)) HT2.out.x6 HT2.out.le HT2.out.bel (PtsAt.nil w1.heap.size w1) HT2.out.bel.size ⟨Nat.le_refl _, by omega⟩ rfl 0)
    have HR2 : Hid (scaleR k n true (ptsOf rb) = ([], 5)) := Lib.hid (by rw [HR.out]; rfl)
    obtain ⟨⟨g0, g1, g2⟩, y0, y1, y2⟩ := two_cells HT2.out.x6 (.int .i64 0) (.int .i64 0)
    go_wp2_with fail
    clear g0 g1 g2 y0 y1 y2
    generalize ((w1.setCell ⟨b6, 0, none⟩ (.int .i64 0)).setCell ⟨b6, 1, none⟩ (.int .i64 0)).setCell ⟨b6, 2, none⟩ (.slice none 0 0) = Wz at *
    have q0 := HE.out.1.cell 0; have q1 := HE.out.1.cell 1; have q2 := HE.out.1.cell 2
    simp only [List.getElem?_cons_zero, List.getElem?_cons_succ] at q0 q1 q2
    refine bodyPost_ret (v := .tuple #[.agg #[.int .i64 0, .int .i64 0, .slice none 0 0], .int .i64 5]) (by simp [results, Try.results16, go_sem, q0, q1, q2]) rfl ?_
    rw [HR2.out]
    exact HE.out.2
  | false =>
  have HRS : Hid (scaleR k n true (ptsOf rb) = resF F (ptsOf rb)) := Lib.hid (by rw [HR.out]; rfl)
  have HAN := Lib.hid (fun j hj => And.intro (outF_next F rb j hj) (errF_next F rb j hj))
  have d0 := HT2.out.x5.cell 0; have d1 := HT2.out.x5.cell 1; have d2 := HT2.out.x5.cell 2
  have a0 := HT2.out.x4.cell 0
  simp only [List.getElem?_cons_zero, List.getElem?_cons_succ] at d0 d1 d2 a0
  go_wp2_with fail
  clear d0 d1 d2 a0
  go_loopg [11, 86] N (fun g x11 x86 wr => ∃ (j : Nat) (X : Option Addr) (cx : Nat) (rows : List PtR), j + g = N ∧ x86 = .int .i64 j ∧ x11 = .slice X rows.length cx ∧ OutAt w1.heap.size (.slice X rows.length cx) rows j (outF F (ptsOf (rb.take j))) wr ∧ errF F (ptsOf (rb.take j)) = 0 ∧ Below w1.heap.size w1 wr ∧ SetsOk rows)
  case atStart => exact ⟨0, none, 0, [], by omega, rfl, rfl, OutAt.nil _ _, rfl, Below.refl _ _, fun p hp => absurd hp List.not_mem_nil⟩
  case round =>
    obtain ⟨j, X, cx, rows, hjg, rfl, rfl, ho, her, hbel, hsk⟩ := hrel
    have HO := Lib.hid ho; have HBE := Lib.hid hbel; have HER := Lib.hid her; have HSK := Lib.hid hsk; have HJG := Lib.hid hjg
    have HT3 := Lib.hid (HT2.out.below hbel)
    have HBW := HT3.out.bel
    clear ho hbel her hsk
    cases gk with
    | zero =>
      obtain rfl : j = N := by omega
      have HC := Lib.hid (sorted_r w1.heap.size X rows.length cx rows wr HO.out.at_ rfl (by have := HO.out.len; omega) HSK.out)
      have HF : Hid (scaleR k n true (ptsOf rb) = (sortP (ptsOf rows), 0)) := Lib.hid (by
        have e1 := HO.out.eq
        have e2 := HER.out
        rw [List.take_of_length_le (by rw [HN.out]; exact Nat.le_refl _)] at e1 e2
        rw [HRS.out, resF, if_pos e2, e1])
      clear HO HBW HER
      go_wp2_with fail
      (with_reducible refine HC.out.mono ?_); rintro e w9 ⟨Y, cy, ry, h1, rfl, h3, h4, h5, h6⟩
      have HT4 := Lib.hid (HT3.out.below h4)
      have HE := Lib.hid (two_end (rows := ry) (A := Y) (c := cy) (r := (sortP (ptsOf rows), 0)) HT4.out.x6 HT4.out.le HT4.out.bel h3 HT3.out.bel.size ⟨h5, h6⟩ h1 2)
      clear h1 h3 h4 h5 h6 HC HT3
      obtain ⟨⟨g0, g1, g2⟩, y0, y1, y2⟩ := two_cells HT4.out.x6 (.int .i64 2) (.int .i64 0)
      go_wp2_with fail
      clear g0 g1 g2 y0 y1 y2
      generalize ((w9.setCell ⟨b6, 0, none⟩ (.int .i64 2)).setCell ⟨b6, 1, none⟩ (.int .i64 0)).setCell ⟨b6, 2, none⟩ (.slice Y ry.length cy) = Wz at *
      have q0 := HE.out.1.cell 0; have q1 := HE.out.1.cell 1; have q2 := HE.out.1.cell 2
      simp only [List.getElem?_cons_zero, List.getElem?_cons_succ] at q0 q1 q2
      refine bodyPost_ret (v := .tuple #[.agg #[.int .i64 2, .int .i64 0, .slice Y ry.length cy], .int .i64 0]) (by simp [results, Try.results16, go_sem, q0, q1, q2]) rfl ?_
      rw [HF.out]
      exact HE.out.2
    | succ g =>
      have hlt : j < rb.length := by have := HN.out; omega
      have HRP := HPB.out wr HBW
      obtain ⟨ad, hA, e0, e1, hu9⟩ := HRP.get2 hlt
      clear hu9
      have hol := HRP.each rb[j] (List.getElem_mem hlt)
      obtain ⟨hl, hlx⟩ := HS.out rb[j] (List.getElem_mem hlt)
      have HNX := Lib.hid (HAN.out j hlt)
      subst hA
      have hi64 := HV.out rb[j] (List.getElem_mem hlt)
      have HLT := Lib.hid hlt
      generalize rb[j] = q at *
      obtain ⟨sv, l, val⟩ := q
      simp only at e0 e1 hol hl hlx hi64
      obtain ⟨A2, c2, hsv, hss, hu8, hu9⟩ := hol.hasL
      clear hu8 hu9
      subst hsv
      obtain ⟨sl, hsl⟩ : ∃ m, l.length = m := ⟨_, rfl⟩
      have HSE := Lib.hid hsl
      have HLX := Lib.hid hlx
      rw [hsl] at e0 hss hl hol
      have ha := (Below.refl wr.heap.size wr).alloc (Nat.le_refl _) (.cells #[.slice A2 sl c2, .int .i64 val] 28)
      have HX2 := Lib.hid (Blk.mk (heap_alloc_new wr (.cells #[.slice A2 sl c2, .int .i64 val] 28)) : Blk _ wr.heap.size 28 [.slice A2 sl c2, .int .i64 val])
      have HREC := Lib.hid (fun V => reckon_r k n val V WN.out hi64 HK.out.1 HK.out.2)
      obtain ⟨⟨vl, er⟩, hrec⟩ : ∃ p, reckonF k n val = p := ⟨_, rfl⟩
      have hff : F (l, val) = some (bareL l, (vl, er)) := by rw [HFI.out]; simp only [hrec]
      have HEN := Lib.hid (HNX.out.2 HER.out)
      have HNX2 := Lib.hid HNX.out.1
      simp only [hff] at HEN HNX2
      have HRC := Lib.hid hrec
      have HBA := Lib.hid (fun (V : World) (hV : Below wr.heap.size wr V) => bare_r A2 sl c2 V.heap.size l V ((hss.below hV).more hV.size) (Nat.le_refl _) (by omega))
      have HO2 := Lib.hid (HO.out.below ha)
      have HBE2 := Lib.hid (HBE.out.trans (ha.mono HBE.out.size))
      have HT4 := Lib.hid (HT3.out.below ha)
      have HAL := Lib.hid ha
      have hbl : (bareL l).length ≤ 1000 := by have := bare_len l; omega
      obtain ⟨sn, hsn⟩ : ∃ m, (bareL l).length = m := ⟨_, rfl⟩
      have HSN := Lib.hid hsn
      rw [hsn] at HBA hbl
      clear hss hol ha HO HBE HRP HBW hsl hff hrec HNX HER hsn hi64 hlx HT3 hlt
      go_upto_region 14 with fail
      obtain ⟨bx, hbx⟩ : ∃ b, wr.heap.size = b := ⟨_, rfl⟩
      rw [hbx] at HX2 HAL HBA
      rw [hbx]
      clear hbx e0 e1
      generalize wr.alloc (.cells #[.slice A2 sl c2, .int .i64 val] 28) = W2 at *
      have z0 := HX2.out.cell 0
      have z1 := HX2.out.cell 1
      have a1 := HT4.out.x4.cell 1
      simp only [List.getElem?_cons_zero, List.getElem?_cons_succ] at z0 z1 a1
      go_wp2_with fail
      (with_reducible refine (HREC.out _).mono ?_); rintro e w3 ⟨⟨rn, rfl, hrn⟩, rfl⟩
      rw [HRC.out] at hrn ⊢
      simp only at hrn ⊢
      clear a1 HREC HRC
      have HRN := Lib.hid hrn
      clear hrn
      by_cases he0 : er = 0
      case neg =>
        have HE0 := Lib.hid he0
        have t1 : (er == 0) = false := int_ne9 he0
        have t2 : (er != 0) = true := by simp [bne, t1]
        clear he0
        have HG : Hid (scaleR k n true (ptsOf rb) = ([], er)) := Lib.hid (by
          have h0 : errF F (ptsOf (rb.take (j + 1))) = er := HEN.out
          have h1 := errF_hit F rb j HLT.out (by rw [h0]; exact HE0.out)
          rw [HRS.out, resF, if_neg (by rw [h1, h0]; exact HE0.out), h1, h0])
        have HE := Lib.hid (two_end (rows := []) (A := none) (c := 0) (r := ([], er)) HT4.out.x6 HT4.out.le HT4.out.bel (PtsAt.nil W2.heap.size W2) HT4.out.bel.size ⟨Nat.le_refl _, by omega⟩ rfl 0)
        clear HO2 HEN HNX2 HX2 HBA
        obtain ⟨⟨g0, g1, g2⟩, y0, y1, y2⟩ := two_cells HT4.out.x6 (.int .i64 0) (.int .i64 0)
        go_wp2_with fail
        clear g0 g1 g2 y0 y1 y2
        generalize ((W2.setCell ⟨b6, 0, none⟩ (.int .i64 0)).setCell ⟨b6, 1, none⟩ (.int .i64 0)).setCell ⟨b6, 2, none⟩ (.slice none 0 0) = Wz at *
        have q0 := HE.out.1.cell 0; have q1 := HE.out.1.cell 1; have q2 := HE.out.1.cell 2
        simp only [List.getElem?_cons_zero, List.getElem?_cons_succ] at q0 q1 q2
        refine bodyPost_ret (v := .tuple #[.agg #[.int .i64 0, .int .i64 0, .slice none 0 0], .int .i64 er]) (by simp [results, Try.results16, go_sem, q0, q1, q2]) rfl ?_
        rw [HG.out]
        exact HE.out.2
      case pos =>
        subst he0
        obtain rfl : rn = vl := HRN.out rfl
        have HK4 := Lib.hid (HBA.out _ HAL.out)
        clear HBA HAL HRN
        go_wp2_with fail
        (with_reducible refine HK4.out.mono ?_); rintro e w4 ⟨C2, e2, rfl, hown, hb4, hu8, hu9⟩
        have hb5 := (Below.refl w4.heap.size w4).alloc (Nat.le_refl _) (.cells #[.slice C2 sn e2, .int .i64 rn] 28)
        have HO4 := Lib.hid ((HO2.out.below hb4).below hb5)
        have HOL4 := Lib.hid (show OwnL (w4.alloc (.cells #[.slice C2 sn e2, .int .i64 rn] 28)) (.slice C2 sn e2) (bareL l) from OwnL.below ⟨C2, e2, by rw [HSN.out], by rw [HSN.out]; exact own_mono hown (Nat.zero_le _)⟩ hb5)
        have HBE4 := Lib.hid ((HBE2.out.trans (hb4.mono HBE2.out.size)).trans (hb5.mono (Nat.le_trans HBE2.out.size hb4.size)))
        have HX4 := Lib.hid ((Blk.mk (heap_alloc_new w4 (.cells #[.slice C2 sn e2, .int .i64 rn] 28)) : Blk _ w4.heap.size 28 [.slice C2 sn e2, .int .i64 rn]).sees (size := 2) (n := 1) rfl (List.prefix_refl _))
        clear hown hb4 hb5 HK4 HO2 HBE2 HX2 z0 z1 HT4 hu8 hu9
        go_wp2_with (at_builtin; refine wpList_append_at rfl (.tmp 103) (.tmp 109) 22 rfl w1.heap.size 28 i0 (.agg #[.slice none 0 0, .int .i64 0]) 2 32 Try.underlying22 HI.out HZ0.out HZ1.out HZ2.out rfl (by decide) (.slice X rows.length cx) rows.length (pts rows) rfl HO4.out.at_.own _ (some ⟨w4.heap.size, 0, none⟩) 1 _ [.slice C2 sn e2, .int .i64 rn] rfl HX4.out (by intro u hu; simp at hu; rcases hu with rfl | rfl <;> rfl) (by unfold maxLen; have := HO4.out.len; omega) (by have := HO4.out.len; omega) HBE4.out.size ?_)
        intro v' w5 hown hgr hwh
        have HO5 := Lib.hid (HO4.out.push (l := bareL l) (z := rn) HOL4.out (by rw [HSN.out]; exact hbl) hown hgr HNX2.out)
        have HBE5 := Lib.hid (HBE4.out.grown hgr HBE4.out.size (fun g e => (HO4.out.at_.own.lt g e).1))
        obtain ⟨A5, c5, rfl, hu8, hu9⟩ := own_slice hown
        have HL5 := Lib.hid (show (rows ++ [(⟨.slice C2 sn e2, bareL l, rn⟩ : PtR)]).length = rows.length + 1 by simp)
        have HSK5 : Hid (SetsOk (rows ++ [(⟨.slice C2 sn e2, bareL l, rn⟩ : PtR)])) := Lib.hid (fun p hp => by
          rcases List.mem_append.1 hp with hp | hp
          · exact HSK.out p hp
          · rw [List.mem_singleton] at hp; subst hp
            exact ⟨by rw [HSN.out]; exact hbl, fun x hx => HLX.out x (List.mem_filter.1 hx).1⟩)
        clear hown hgr hwh HO4 HOL4 HBE4 HX4 hu8 hu9
        go_wp2_with fail
        go_roundg g
        case measure => omega
        case rel => exact ⟨j + 1, A5, c5, _, by have := HJG.out; omega, by first | rfl | go_num, by rw [HL5.out], by rw [HL5.out]; exact HO5.out, HEN.out, HBE5.out, HSK5.out⟩
set_option maxHeartbeats 8000000 in
theorem two_vn (base : Nat) (B : Option Addr) (cb : Nat) (rb : List PtR) (k n : Int) (w0 : World) (h : PtsAt base (.slice B rb.length cb) rb w0) (hc : rb.length ≤ cb) (hB : rb.length ≤ 19) (hs : SetsOk rb) (hv : ∀ p ∈ rb, I64 p.val) (wn : I64 n) (h1 : 3 ≤ k) (h2 : k ≤ 7) :
    Calls Try.prog 16 #[.int .i64 k, .agg #[.int .i64 2, .int .i64 0, .slice B rb.length cb], .agg #[.int .i64 1, .int .i64 n, .slice none 0 0]] w0 (TwoAns (scaleR k n false (ptsOf rb)) w0) := by
  obtain ⟨i0, hi, hz0, hz1, hz2⟩ := info_parts Try.infoPt
  have HI := Lib.hid hi; have HZ0 := Lib.hid hz0; have HZ1 := Lib.hid hz1; have HZ2 := Lib.hid hz2
  clear hi hz0 hz1 hz2
  have HPB := Lib.hid (fun (V : World) (hV : Below w0.heap.size w0 V) => h.below hV)
  have HS := Lib.hid hs; have HV := Lib.hid hv; have WN := Lib.hid wn; have HK := Lib.hid (And.intro h1 h2)
  have HTW := Lib.hid (fun (V : World) (hV : Below w0.heap.size w0 V) => twice_r B rb.length cb rb V (PtsS.of (h.below hV)) rfl (by omega) hc hs)
  have HST := Lib.hid (TwAt.start w0 (.int .i64 2) (.int .i64 0) (.slice B rb.length cb) (.int .i64 1) (.int .i64 n) (.slice none 0 0))
  obtain ⟨F, hF⟩ : ∃ F, scaleF k n false = F := ⟨_, rfl⟩
  obtain ⟨tw, htw⟩ : ∃ b, twiceF (keysOf rb) = b := ⟨_, rfl⟩
  have HR : Hid (scaleR k n false (ptsOf rb) = if tw = true then ([], 5) else resF F (ptsOf rb)) := Lib.hid (by unfold scaleR; rw [← keysOf_pts, htw, hF])
  have HFI := Lib.hid (fun (p : Pt) => show F p = some (bareL p.1, reckonF k p.2 n) by rw [← hF]; unfold scaleF; rw [if_neg (by simp)])
  rw [htw] at HTW
  have hk7 : k ≤ 7 := h2
  clear h hs hv wn hF htw h1 h2
  obtain ⟨N, hN⟩ : ∃ N, rb.length = N := ⟨_, rfl⟩
  have HN := Lib.hid hN
  rw [hN] at HPB HTW HST hc hB ⊢
  clear hN
  go_enter Try.func16, Try.ntmps16
  go_upto_region 1 with fail
  obtain ⟨b6, hb6⟩ : ∃ b, w0.heap.size + 1 + 1 = b := ⟨_, rfl⟩
  obtain ⟨b5, hb5⟩ : ∃ b, w0.heap.size + 1 = b := ⟨_, rfl⟩
  obtain ⟨b4, hb4⟩ : ∃ b, w0.heap.size = b := ⟨_, rfl⟩
  obtain ⟨W1, hW1⟩ : ∃ W, (((w0.alloc (.cells #[.int .i64 2, .int .i64 0, .slice B N cb] 41)).alloc (.cells #[.int .i64 1, .int .i64 n, .slice none 0 0] 41)).alloc (.cells #[.int .i64 0, .int .i64 0, .slice none 0 0] 41)) = W := ⟨_, rfl⟩
  have HT1 := Lib.hid (show TwAt w0 b4 b5 b6 [.int .i64 2, .int .i64 0, .slice B N cb] [.int .i64 1, .int .i64 n, .slice none 0 0] W1 by have h := HST.out; rw [hW1, hb6, hb5, hb4] at h; exact h)
  rw [hb6, hb5, hb4, hW1]
  clear HST hb6 hb5 hb4 hW1
  have a0 := HT1.out.x4.cell 0; have a1 := HT1.out.x4.cell 1; have a2 := HT1.out.x4.cell 2
  have d0 := HT1.out.x5.cell 0; have d1 := HT1.out.x5.cell 1; have d2 := HT1.out.x5.cell 2
  simp only [List.getElem?_cons_zero, List.getElem?_cons_succ] at a0 a1 a2 d0 d1 d2
  go_wp2_with fail
  (with_reducible refine (HTW.out _ HT1.out.bel).mono ?_); rintro e w1 ⟨rfl, hb⟩
  have HT2 := Lib.hid (HT1.out.below hb)
  clear hb HT1 HTW a0 a1 a2 d0 d1 d2
  cases tw with
  | true =>
    have HE := Lib.hid (two_end (rows := []) (A := none) (c := 0) (r := ([], 5)) HT2.out.x6 HT2.out.le HT2.out.bel (PtsAt.nil w1.heap.size w1) HT2.out.bel.size ⟨Nat.le_refl _, by omega⟩ rfl 0)
    have HR2 : Hid (scaleR k n false (ptsOf rb) = ([], 5)) := Lib.hid (by rw [HR.out]; rfl)
    obtain ⟨⟨g0, g1, g2⟩, y0, y1, y2⟩ := two_cells HT2.out.x6 (.int .i64 0) (.int .i64 0)
    go_wp2_with fail
    clear g0 g1 g2 y0 y1 y2
    generalize ((w1.setCell ⟨b6, 0, none⟩ (.int .i64 0)).setCell ⟨b6, 1, none⟩ (.int .i64 0)).setCell ⟨b6, 2, none⟩ (.slice none 0 0) = Wz at *
    have q0 := HE.out.1.cell 0; have q1 := HE.out.1.cell 1; have q2 := HE.out.1.cell 2
    simp only [List.getElem?_cons_zero, List.getElem?_cons_succ] at q0 q1 q2
    refine bodyPost_ret (v := .tuple #[.agg #[.int .i64 0, .int .i64 0, .slice none 0 0], .int .i64 5]) (by simp [results, Try.results16, go_sem, q0, q1, q2]) rfl ?_
    rw [HR2.out]
    exact HE.out.2
  | false =>
  have HRS : Hid (scaleR k n false (ptsOf rb) = resF F (ptsOf rb)) := Lib.hid (by rw [HR.out]; rfl)
  have HAN := Lib.hid (fun j hj => And.intro (outF_next F rb j hj) (errF_next F rb j hj))
  have d0 := HT2.out.x5.cell 0; have d1 := HT2.out.x5.cell 1; have d2 := HT2.out.x5.cell 2
  have a0 := HT2.out.x4.cell 0; have a1 := HT2.out.x4.cell 1; have a2 := HT2.out.x4.cell 2
  simp only [List.getElem?_cons_zero, List.getElem?_cons_succ] at d0 d1 d2 a0 a1 a2
  go_wp2_with fail
  clear d0 d1 d2 a0 a1 a2
  go_loopg [11, 118] N (fun g x11 x118 wr => ∃ (j : Nat) (X : Option Addr) (cx : Nat) (rows : List PtR), j + g = N ∧ x118 = .int .i64 j ∧ x11 = .slice X rows.length cx ∧ OutAt w1.heap.size (.slice X rows.length cx) rows j (outF F (ptsOf (rb.take j))) wr ∧ errF F (ptsOf (rb.take j)) = 0 ∧ Below w1.heap.size w1 wr ∧ SetsOk rows)
  case atStart => exact ⟨0, none, 0, [], by omega, rfl, rfl, OutAt.nil _ _, rfl, Below.refl _ _, fun p hp => absurd hp List.not_mem_nil⟩
  case round =>
    obtain ⟨j, X, cx, rows, hjg, rfl, rfl, ho, her, hbel, hsk⟩ := hrel
    have HO := Lib.hid ho; have HBE := Lib.hid hbel; have HER := Lib.hid her; have HSK := Lib.hid hsk; have HJG := Lib.hid hjg
    have HT3 := Lib.hid (HT2.out.below hbel)
    have HBW := HT3.out.bel
    clear ho hbel her hsk
    cases gk with
    | zero =>
      obtain rfl : j = N := by omega
      have HC := Lib.hid (sorted_r w1.heap.size X rows.length cx rows wr HO.out.at_ rfl (by have := HO.out.len; omega) HSK.out)
      have HF : Hid (scaleR k n false (ptsOf rb) = (sortP (ptsOf rows), 0)) := Lib.hid (by
        have e1 := HO.out.eq
        have e2 := HER.out
        rw [List.take_of_length_le (by rw [HN.out]; exact Nat.le_refl _)] at e1 e2
        rw [HRS.out, resF, if_pos e2, e1])
      clear HO HBW HER
      go_wp2_with fail
      (with_reducible refine HC.out.mono ?_); rintro e w9 ⟨Y, cy, ry, h1, rfl, h3, h4, h5, h6⟩
      have HT4 := Lib.hid (HT3.out.below h4)
      have HE := Lib.hid (two_end (rows := ry) (A := Y) (c := cy) (r := (sortP (ptsOf rows), 0)) HT4.out.x6 HT4.out.le HT4.out.bel h3 HT3.out.bel.size ⟨h5, h6⟩ h1 2)
      clear h1 h3 h4 h5 h6 HC HT3
      obtain ⟨⟨g0, g1, g2⟩, y0, y1, y2⟩ := two_cells HT4.out.x6 (.int .i64 2) (.int .i64 0)
      go_wp2_with fail
      clear g0 g1 g2 y0 y1 y2
      generalize ((w9.setCell ⟨b6, 0, none⟩ (.int .i64 2)).setCell ⟨b6, 1, none⟩ (.int .i64 0)).setCell ⟨b6, 2, none⟩ (.slice Y ry.length cy) = Wz at *
      have q0 := HE.out.1.cell 0; have q1 := HE.out.1.cell 1; have q2 := HE.out.1.cell 2
      simp only [List.getElem?_cons_zero, List.getElem?_cons_succ] at q0 q1 q2
      refine bodyPost_ret (v := .tuple #[.agg #[.int .i64 2, .int .i64 0, .slice Y ry.length cy], .int .i64 0]) (by simp [results, Try.results16, go_sem, q0, q1, q2]) rfl ?_
      rw [HF.out]
      exact HE.out.2
    | succ g =>
      have hlt : j < rb.length := by have := HN.out; omega
      have HRP := HPB.out wr HBW
      obtain ⟨ad, hA, e0, e1, hu9⟩ := HRP.get2 hlt
      clear hu9
      have hol := HRP.each rb[j] (List.getElem_mem hlt)
      obtain ⟨hl, hlx⟩ := HS.out rb[j] (List.getElem_mem hlt)
      have HNX := Lib.hid (HAN.out j hlt)
      subst hA
      have hi64 := HV.out rb[j] (List.getElem_mem hlt)
      have HLT := Lib.hid hlt
      generalize rb[j] = q at *
      obtain ⟨sv, l, val⟩ := q
      simp only at e0 e1 hol hl hlx hi64
      obtain ⟨A2, c2, hsv, hss, hu8, hu9⟩ := hol.hasL
      clear hu8 hu9
      subst hsv
      obtain ⟨sl, hsl⟩ : ∃ m, l.length = m := ⟨_, rfl⟩
      have HSE := Lib.hid hsl
      have HLX := Lib.hid hlx
      rw [hsl] at e0 hss hl hol
      have ha := (Below.refl wr.heap.size wr).alloc (Nat.le_refl _) (.cells #[.slice A2 sl c2, .int .i64 val] 28)
      have HX2 := Lib.hid (Blk.mk (heap_alloc_new wr (.cells #[.slice A2 sl c2, .int .i64 val] 28)) : Blk _ wr.heap.size 28 [.slice A2 sl c2, .int .i64 val])
      have HREC := Lib.hid (fun V => reckon_r k val n V hi64 WN.out HK.out.1 HK.out.2)
      obtain ⟨⟨vl, er⟩, hrec⟩ : ∃ p, reckonF k val n = p := ⟨_, rfl⟩
      have hff : F (l, val) = some (bareL l, (vl, er)) := by rw [HFI.out]; simp only [hrec]
      have HEN := Lib.hid (HNX.out.2 HER.out)
      have HNX2 := Lib.hid HNX.out.1
      simp only [hff] at HEN HNX2
      have HRC := Lib.hid hrec
      have HBA := Lib.hid (fun (V : World) (hV : Below wr.heap.size wr V) => bare_r A2 sl c2 V.heap.size l V ((hss.below hV).more hV.size) (Nat.le_refl _) (by omega))
      have HO2 := Lib.hid (HO.out.below ha)
      have HBE2 := Lib.hid (HBE.out.trans (ha.mono HBE.out.size))
      have HT4 := Lib.hid (HT3.out.below ha)
      have HAL := Lib.hid ha
      have hbl : (bareL l).length ≤ 1000 := by have := bare_len l; omega
      obtain ⟨sn, hsn⟩ : ∃ m, (bareL l).length = m := ⟨_, rfl⟩
      have HSN := Lib.hid hsn
      rw [hsn] at HBA hbl
      clear hss hol ha HO HBE HRP HBW hsl hff hrec HNX HER hsn hi64 hlx HT3 hlt
      go_upto_region 23 with fail
      obtain ⟨bx, hbx⟩ : ∃ b, wr.heap.size = b := ⟨_, rfl⟩
      rw [hbx] at HX2 HAL HBA
      rw [hbx]
      clear hbx e0 e1
      generalize wr.alloc (.cells #[.slice A2 sl c2, .int .i64 val] 28) = W2 at *
      have z0 := HX2.out.cell 0
      have z1 := HX2.out.cell 1
      have a1 := HT4.out.x5.cell 1; have a0 := HT4.out.x5.cell 0
      simp only [List.getElem?_cons_zero, List.getElem?_cons_succ] at z0 z1 a1 a0
      go_wp2_with fail
      (with_reducible refine (HREC.out _).mono ?_); rintro e w3 ⟨⟨rn, rfl, hrn⟩, rfl⟩
      rw [HRC.out] at hrn ⊢
      simp only at hrn ⊢
      clear a1 a0 HREC HRC
      have HRN := Lib.hid hrn
      clear hrn
      by_cases he0 : er = 0
      case neg =>
        have HE0 := Lib.hid he0
        have t1 : (er == 0) = false := int_ne9 he0
        have t2 : (er != 0) = true := by simp [bne, t1]
        clear he0
        have HG : Hid (scaleR k n false (ptsOf rb) = ([], er)) := Lib.hid (by
          have h0 : errF F (ptsOf (rb.take (j + 1))) = er := HEN.out
          have h1 := errF_hit F rb j HLT.out (by rw [h0]; exact HE0.out)
          rw [HRS.out, resF, if_neg (by rw [h1, h0]; exact HE0.out), h1, h0])
        have HE := Lib.hid (two_end (rows := []) (A := none) (c := 0) (r := ([], er)) HT4.out.x6 HT4.out.le HT4.out.bel (PtsAt.nil W2.heap.size W2) HT4.out.bel.size ⟨Nat.le_refl _, by omega⟩ rfl 0)
        clear HO2 HEN HNX2 HX2 HBA
        obtain ⟨⟨g0, g1, g2⟩, y0, y1, y2⟩ := two_cells HT4.out.x6 (.int .i64 0) (.int .i64 0)
        go_wp2_with fail
        clear g0 g1 g2 y0 y1 y2
        generalize ((W2.setCell ⟨b6, 0, none⟩ (.int .i64 0)).setCell ⟨b6, 1, none⟩ (.int .i64 0)).setCell ⟨b6, 2, none⟩ (.slice none 0 0) = Wz at *
        have q0 := HE.out.1.cell 0; have q1 := HE.out.1.cell 1; have q2 := HE.out.1.cell 2
        simp only [List.getElem?_cons_zero, List.getElem?_cons_succ] at q0 q1 q2
        refine bodyPost_ret (v := .tuple #[.agg #[.int .i64 0, .int .i64 0, .slice none 0 0], .int .i64 er]) (by simp [results, Try.results16, go_sem, q0, q1, q2]) rfl ?_
        rw [HG.out]
        exact HE.out.2
      case pos =>
        subst he0
        obtain rfl : rn = vl := HRN.out rfl
        have HK4 := Lib.hid (HBA.out _ HAL.out)
        clear HBA HAL HRN
        go_wp2_with fail
        (with_reducible refine HK4.out.mono ?_); rintro e w4 ⟨C2, e2, rfl, hown, hb4, hu8, hu9⟩
        have hb5 := (Below.refl w4.heap.size w4).alloc (Nat.le_refl _) (.cells #[.slice C2 sn e2, .int .i64 rn] 28)
        have HO4 := Lib.hid ((HO2.out.below hb4).below hb5)
        have HOL4 := Lib.hid (show OwnL (w4.alloc (.cells #[.slice C2 sn e2, .int .i64 rn] 28)) (.slice C2 sn e2) (bareL l) from OwnL.below ⟨C2, e2, by rw [HSN.out], by rw [HSN.out]; exact own_mono hown (Nat.zero_le _)⟩ hb5)
        have HBE4 := Lib.hid ((HBE2.out.trans (hb4.mono HBE2.out.size)).trans (hb5.mono (Nat.le_trans HBE2.out.size hb4.size)))
        have HX4 := Lib.hid ((Blk.mk (heap_alloc_new w4 (.cells #[.slice C2 sn e2, .int .i64 rn] 28)) : Blk _ w4.heap.size 28 [.slice C2 sn e2, .int .i64 rn]).sees (size := 2) (n := 1) rfl (List.prefix_refl _))
        clear hown hb4 hb5 HK4 HO2 HBE2 HX2 z0 z1 HT4 hu8 hu9
        go_wp2_with (at_builtin; refine wpList_append_at rfl (.tmp 159) (.tmp 165) 22 rfl w1.heap.size 28 i0 (.agg #[.slice none 0 0, .int .i64 0]) 2 32 Try.underlying22 HI.out HZ0.out HZ1.out HZ2.out rfl (by decide) (.slice X rows.length cx) rows.length (pts rows) rfl HO4.out.at_.own _ (some ⟨w4.heap.size, 0, none⟩) 1 _ [.slice C2 sn e2, .int .i64 rn] rfl HX4.out (by intro u hu; simp at hu; rcases hu with rfl | rfl <;> rfl) (by unfold maxLen; have := HO4.out.len; omega) (by have := HO4.out.len; omega) HBE4.out.size ?_)
        intro v' w5 hown hgr hwh
        have HO5 := Lib.hid (HO4.out.push (l := bareL l) (z := rn) HOL4.out (by rw [HSN.out]; exact hbl) hown hgr HNX2.out)
        have HBE5 := Lib.hid (HBE4.out.grown hgr HBE4.out.size (fun g e => (HO4.out.at_.own.lt g e).1))
        obtain ⟨A5, c5, rfl, hu8, hu9⟩ := own_slice hown
        have HL5 := Lib.hid (show (rows ++ [(⟨.slice C2 sn e2, bareL l, rn⟩ : PtR)]).length = rows.length + 1 by simp)
        have HSK5 : Hid (SetsOk (rows ++ [(⟨.slice C2 sn e2, bareL l, rn⟩ : PtR)])) := Lib.hid (fun p hp => by
          rcases List.mem_append.1 hp with hp | hp
          · exact HSK.out p hp
          · rw [List.mem_singleton] at hp; subst hp
            exact ⟨by rw [HSN.out]; exact hbl, fun x hx => HLX.out x (List.mem_filter.1 hx).1⟩)
        clear hown hgr hwh HO4 HOL4 HBE4 HX4 hu8 hu9
        go_wp2_with fail
        go_roundg g
        case measure => omega
        case rel => exact ⟨j + 1, A5, c5, _, by have := HJG.out; omega, by first | rfl | go_num, by rw [HL5.out], by rw [HL5.out]; exact HO5.out, HEN.out, HBE5.out, HSK5.out⟩
end Go.Proofs.Ytbndmmfpoljeaaa
