/- Texts, merged in one. -/
import Derived.Test.YtlmakdclebbbkaaGreatBase22
namespace Go.Proofs.YtlmakdclebbbkaaGreat
open Go.ChangeShapes Go.WideShapes Go.ChangeAt Go.RowKit
set_option linter.unusedVariables false
set_option linter.unusedSimpArgs false
set_option maxRecDepth 100000
def keysP (ps : List Pt) : List (List UInt8) := ps.map fun p => keyT p.1
theorem keysOf_pts (rows : List PtR) : keysOf rows = keysP (ptsOf rows) := by simp [keysOf, keysP, ptsOf]
def scaleF (kd n : Int) (first : Bool) (p : Pt) : Option (List Lbl × (Int × Int)) := some (bareL p.1, if first = true then reckonF kd n p.2 else reckonF kd p.2 n)
def scaleR (kd n : Int) (first : Bool) (ps : List Pt) : List Pt × Int := if twiceF (keysP ps) = true then ([], 5) else resF (scaleF kd n first) ps
theorem below_drewN2 {B : Nat} {a w : World} (h : Below B a w) (n : Nat) : Below B a (w.drewN n) := by
  induction n with
  | zero => exact h
  | succ n ih => exact ih.drew
set_option maxHeartbeats 4000000 in
theorem scale_f (b1 : Nat) (A : Option Addr) (c : Nat) (ra : List PtR) (kd nn : Int) (w : World) (h : PtsAt b1 (.slice A ra.length c) ra w) (hn : ra.length ≤ 1000) (hsl : ∀ x ∈ ra, x.set.length ≤ 1000) (hv : ∀ x ∈ ra, I64 x.val) (wn : I64 nn) :
    Calls Tryz.prog 151 #[.int .i64 kd, .slice A ra.length c, .int .i64 nn, .bool false] w (PtsAnsE (scaleR kd nn false (ptsOf ra)) w) := by
  obtain ⟨i0, hi, hz0, hz1, hz2⟩ := info_parts Tryz.infoPt
  have HI := Lib.hid hi; have HZ0 := Lib.hid hz0; have HZ1 := Lib.hid hz1; have HZ2 := Lib.hid hz2
  clear hi hz0 hz1 hz2
  have HTW := Lib.hid (twice_any b1 A c ra w h (by omega) hsl)
  have H := Lib.hid (fun (V : World) (hV : Below w.heap.size w V) => h.below hV)
  have HSL := Lib.hid hsl; have HV := Lib.hid hv; have HWN := Lib.hid wn
  obtain ⟨FF, hFF⟩ : ∃ f, scaleF kd nn false = f := ⟨_, rfl⟩
  have HFF := Lib.hid hFF
  have HAN := Lib.hid (fun k hk => And.intro (outF_next FF ra k hk) (errF_next FF ra k hk))
  have HMP := Lib.hid trivial
  clear h hsl hv wn
  obtain ⟨N, hN⟩ : ∃ N, ra.length = N := ⟨_, rfl⟩
  have HN := Lib.hid hN
  rw [hN] at H hn HTW ⊢
  rw [← hN] at H
  clear hN
  obtain ⟨tw, htw⟩ : ∃ b, twiceF (keysOf ra) = b := ⟨_, rfl⟩
  have HT := Lib.hid htw
  rw [htw] at HTW
  clear htw hFF
  go_enter Tryz.func151, Tryz.ntmps151
  go_wp2_with fail
  (with_reducible refine HTW.out.mono ?_); rintro e w1 ⟨rfl, hb1⟩
  have HB1 := Lib.hid hb1
  clear hb1 HTW
  cases tw with
  | true =>
    have HF : Hid (PtsAnsE (scaleR kd nn false (ptsOf ra)) w (.returned (.tuple #[.slice none 0 0, .int .i64 5])) w1) := Lib.hid (.fault (by unfold scaleR; rw [← keysOf_pts, HT.out]; rfl) HB1.out)
    go_wp2_with fail
    go_ret2
    exact HF.out
  | false =>
  have HRS : Hid (scaleR kd nn false (ptsOf ra) = resF FF (ptsOf ra)) := Lib.hid (by unfold scaleR; rw [← keysOf_pts, HT.out, ← HFF.out]; rfl)
  go_wp2_with fail
  go_loopg [10, 21] N (fun g x10 x21 wr => ∃ (k : Nat) (X : Option Addr) (cx : Nat) (rows : List PtR), k + g = N ∧ x21 = .int .i64 k ∧ x10 = .slice X rows.length cx ∧ OutAt w.heap.size (.slice X rows.length cx) rows k (outF FF (ptsOf (ra.take k))) wr ∧ errF FF (ptsOf (ra.take k)) = 0 ∧ Below w.heap.size w wr)
  case atStart => exact ⟨0, none, 0, [], by omega, rfl, rfl, OutAt.nil _ _, rfl, HB1.out⟩
  case round =>
    obtain ⟨k, X, cx, rows, hkg, rfl, rfl, ho, her, hbel⟩ := hrel
    have HO := Lib.hid ho; have HBE := Lib.hid hbel; have HER := Lib.hid her
    have HBW := hbel
    clear ho hbel her HB1
    cases gk with
    | zero =>
      obtain rfl : k = N := by omega
      have HC := Lib.hid (sort_any w.heap.size X cx rows wr HO.out.at_ (by have := HO.out.len; omega) HO.out.sets)
      have HF : Hid (scaleR kd nn false (ptsOf ra) = (sortP (ptsOf rows), 0)) := Lib.hid (by
        have e1 := HO.out.eq
        have e2 := HER.out
        rw [List.take_of_length_le (by rw [HN.out]; exact Nat.le_refl _)] at e1 e2
        rw [HRS.out, resF, if_pos e2, e1])
      clear HO HBW HER HMP
      go_wp2_with fail
      (with_reducible refine HC.out.mono ?_); rintro e w9 ⟨Y, cy, ry, h1, rfl, h3, h4, h5, h6⟩
      have HG : Hid (PtsAnsE (scaleR kd nn false (ptsOf ra)) w (.returned (.tuple #[.slice Y ry.length cy, .int .i64 0])) w9) := Lib.hid (.ok HF.out h1 h3 HBE.out.size (HBE.out.trans (h4.mono HBE.out.size)) ⟨h5, h6⟩)
      clear h1 h3 h4 h5 h6 HC HF
      go_wp2_with fail
      go_ret2
      exact HG.out
    | succ g =>
      have hlt : k < ra.length := by have := HN.out; omega
      have HR := H.out wr HBW
      obtain ⟨ad, hA, e0, e1, _⟩ := pt_get HR hlt
      have hol := HR.each ra[k] (List.getElem_mem hlt)
      have hl := HSL.out ra[k] (List.getElem_mem hlt)
      have HNX := Lib.hid (HAN.out k hlt)
      subst hA
      have hi64 := HV.out ra[k] (List.getElem_mem hlt)
      have HLT := Lib.hid hlt
      generalize ra[k] = q at *
      obtain ⟨sv, l, val⟩ := q
      simp only at e0 e1 hol hl hi64
      obtain ⟨A2, c2, hsv, hss, _, _⟩ := hol.hasL
      subst hsv
      obtain ⟨sl, hsl⟩ : ∃ n, l.length = n := ⟨_, rfl⟩
      have HSE := Lib.hid hsl
      rw [hsl] at e0 hss hl hol
      have ha := (Below.refl wr.heap.size wr).alloc (Nat.le_refl _) (.cells #[.slice A2 sl c2, .int .i64 val] 43)
      have HX2 := Lib.hid (Blk.mk (heap_alloc_new wr (.cells #[.slice A2 sl c2, .int .i64 val] 43)) : Blk _ wr.heap.size 43 [.slice A2 sl c2, .int .i64 val])
      have HREC := Lib.hid (fun V => reckon_any kd val nn V hi64 HWN.out)
      obtain ⟨⟨vl, er⟩, hrec⟩ : ∃ p, reckonF kd val nn = p := ⟨_, rfl⟩
      have hff : FF (l, val) = some (bareL l, (vl, er)) := by rw [← HFF.out]; unfold scaleF; simp only [if_true, if_false, Bool.false_eq_true]; rw [hrec]
      have HEN := Lib.hid (HNX.out.2 HER.out)
      have HNX2 := Lib.hid HNX.out.1
      simp only [hff] at HEN HNX2
      simp only [hrec] at HREC
      have HKEY := Lib.hid (fun (V : World) (hV : Below wr.heap.size wr V) => key_any A2 sl c2 l val V ((hss.below hV).more hV.size) (by omega))
      have HO2 := Lib.hid (HO.out.below ha)
      have HBE2 := Lib.hid (HBE.out.trans (ha.mono HBE.out.size))
      have HAL := Lib.hid ha
      have hbl : (bareL l).length ≤ 1000 := by have := bare_len l; omega
      obtain ⟨sn, hsn⟩ : ∃ n, (bareL l).length = n := ⟨_, rfl⟩
      have HSN := Lib.hid hsn
      rw [hsn] at HKEY hbl
      clear hss hol ha HO HBE HR HBW hsl hff hrec HNX HER hsn hi64
      go_upto_region 7 with fail
      obtain ⟨bx, hbx⟩ : ∃ b, wr.heap.size = b := ⟨_, rfl⟩
      rw [hbx] at HX2 HAL HKEY
      rw [hbx]
      clear hbx e0 e1
      generalize wr.alloc (.cells #[.slice A2 sl c2, .int .i64 val] 43) = W2 at *
      have z0 := HX2.out.cell 0
      have z1 := HX2.out.cell 1
      simp only [List.getElem?_cons_zero, List.getElem?_cons_succ] at z0 z1
      go_wp2_with fail
      (with_reducible refine (HREC.out _).mono ?_); rintro e w3 ⟨rfl, rfl⟩
      have HO3 := HO2; have HBE3 := HBE2; have HAL3 := HAL; have HX3 := HX2
      clear HO2 HBE2 HAL HX2
      have w3e : W2 = W2 := rfl
      by_cases he0 : er = 0
      case neg =>
        have HE0 := Lib.hid he0
        have t1 : (er == 0) = false := int_ne9 he0
        have t2 : (er != 0) = true := by simp [bne, t1]
        clear he0
        have HG : Hid (PtsAnsE (scaleR kd nn false (ptsOf ra)) w (.returned (.tuple #[.slice none 0 0, .int .i64 er])) W2) := Lib.hid (.fault (by
          have h0 : errF FF (ptsOf (ra.take (k + 1))) = er := HEN.out
          have h1 := errF_hit FF ra k HLT.out (by rw [h0]; exact HE0.out)
          rw [HRS.out, resF, if_neg (by rw [h1, h0]; exact HE0.out), h1, h0]) HBE3.out)
        clear HO3 HEN HNX2
        go_wp2_with fail
        go_ret2
        exact HG.out
      case pos =>
        subst he0
        have HK := Lib.hid (HKEY.out _ HAL3.out)
        clear HKEY HAL3
        go_wp2_with fail
        (with_reducible refine HK.out.mono ?_); rintro e w4 ⟨C2, d2, rfl, hown, hb4, _, _⟩
        have hb5 := (Below.refl w4.heap.size w4).alloc (Nat.le_refl _) (.cells #[.slice C2 sn d2, .int .i64 vl] 43)
        have HO4 := Lib.hid ((HO3.out.below hb4).below hb5)
        have HOL4 := Lib.hid (show OwnL (w4.alloc (.cells #[.slice C2 sn d2, .int .i64 vl] 43)) (.slice C2 sn d2) (bareL l) from OwnL.below ⟨C2, d2, by rw [HSN.out], by rw [HSN.out]; exact own_mono hown (Nat.zero_le _)⟩ hb5)
        have HBE4 := Lib.hid ((HBE3.out.trans (hb4.mono HBE3.out.size)).trans (hb5.mono (Nat.le_trans HBE3.out.size hb4.size)))
        have HX4 := Lib.hid ((Blk.mk (heap_alloc_new w4 (.cells #[.slice C2 sn d2, .int .i64 vl] 43)) : Blk _ w4.heap.size 43 [.slice C2 sn d2, .int .i64 vl]).sees (size := 2) (n := 1) rfl (List.prefix_refl _))
        clear hown hb4 hb5 HK HO3 HBE3 HX3 z0 z1
        go_wp2_with (at_builtin; refine wpList_append_at rfl (.tmp 42) (.tmp 47) 38 rfl w.heap.size 43 i0 (.agg #[.slice none 0 0, .int .i64 0]) 2 32 Tryz.underlying38 HI.out HZ0.out HZ1.out HZ2.out rfl (by decide) (.slice X rows.length cx) rows.length (pts rows) rfl HO4.out.at_.own _ (some ⟨w4.heap.size, 0, none⟩) 1 _ [.slice C2 sn d2, .int .i64 vl] rfl HX4.out (by intro u hu; simp at hu; rcases hu with rfl | rfl <;> rfl) (by unfold maxLen; have := HO4.out.len; omega) (by have := HO4.out.len; omega) HBE4.out.size ?_)
        intro v' w5 hown hgr hwh
        have HO5 := Lib.hid (HO4.out.push (l := bareL l) (z := vl) HOL4.out (by rw [HSN.out]; exact hbl) hown hgr HNX2.out)
        have HBE5 := Lib.hid (HBE4.out.grown hgr HBE4.out.size (fun g e => (HO4.out.at_.own.lt g e).1))
        obtain ⟨A5, c5, rfl, _, _⟩ := own_slice hown
        have HL5 := Lib.hid (show (rows ++ [(⟨.slice C2 sn d2, bareL l, vl⟩ : PtR)]).length = rows.length + 1 by simp)
        clear hown hgr hwh HO4 HOL4 HBE4 HX4
        go_wp2_with fail
        go_roundg g
        case measure => omega
        case rel => exact ⟨k + 1, A5, c5, _, by omega, by first | rfl | go_num, by rw [HL5.out], by rw [HL5.out]; exact HO5.out, HEN.out, HBE5.out⟩
set_option maxHeartbeats 4000000 in
theorem scale_t (b1 : Nat) (A : Option Addr) (c : Nat) (ra : List PtR) (kd nn : Int) (w : World) (h : PtsAt b1 (.slice A ra.length c) ra w) (hn : ra.length ≤ 1000) (hsl : ∀ x ∈ ra, x.set.length ≤ 1000) (hv : ∀ x ∈ ra, I64 x.val) (wn : I64 nn) :
    Calls Tryz.prog 151 #[.int .i64 kd, .slice A ra.length c, .int .i64 nn, .bool true] w (PtsAnsE (scaleR kd nn true (ptsOf ra)) w) := by
  obtain ⟨i0, hi, hz0, hz1, hz2⟩ := info_parts Tryz.infoPt
  have HI := Lib.hid hi; have HZ0 := Lib.hid hz0; have HZ1 := Lib.hid hz1; have HZ2 := Lib.hid hz2
  clear hi hz0 hz1 hz2
  have HTW := Lib.hid (twice_any b1 A c ra w h (by omega) hsl)
  have H := Lib.hid (fun (V : World) (hV : Below w.heap.size w V) => h.below hV)
  have HSL := Lib.hid hsl; have HV := Lib.hid hv; have HWN := Lib.hid wn
  obtain ⟨FF, hFF⟩ : ∃ f, scaleF kd nn true = f := ⟨_, rfl⟩
  have HFF := Lib.hid hFF
  have HAN := Lib.hid (fun k hk => And.intro (outF_next FF ra k hk) (errF_next FF ra k hk))
  have HMP := Lib.hid trivial
  clear h hsl hv wn
  obtain ⟨N, hN⟩ : ∃ N, ra.length = N := ⟨_, rfl⟩
  have HN := Lib.hid hN
  rw [hN] at H hn HTW ⊢
  rw [← hN] at H
  clear hN
  obtain ⟨tw, htw⟩ : ∃ b, twiceF (keysOf ra) = b := ⟨_, rfl⟩
  have HT := Lib.hid htw
  rw [htw] at HTW
  clear htw hFF
  go_enter Tryz.func151, Tryz.ntmps151
  go_wp2_with fail
  (with_reducible refine HTW.out.mono ?_); rintro e w1 ⟨rfl, hb1⟩
  have HB1 := Lib.hid hb1
  clear hb1 HTW
  cases tw with
  | true =>
    have HF : Hid (PtsAnsE (scaleR kd nn true (ptsOf ra)) w (.returned (.tuple #[.slice none 0 0, .int .i64 5])) w1) := Lib.hid (.fault (by unfold scaleR; rw [← keysOf_pts, HT.out]; rfl) HB1.out)
    go_wp2_with fail
    go_ret2
    exact HF.out
  | false =>
  have HRS : Hid (scaleR kd nn true (ptsOf ra) = resF FF (ptsOf ra)) := Lib.hid (by unfold scaleR; rw [← keysOf_pts, HT.out, ← HFF.out]; rfl)
  go_wp2_with fail
  go_loopg [10, 21] N (fun g x10 x21 wr => ∃ (k : Nat) (X : Option Addr) (cx : Nat) (rows : List PtR), k + g = N ∧ x21 = .int .i64 k ∧ x10 = .slice X rows.length cx ∧ OutAt w.heap.size (.slice X rows.length cx) rows k (outF FF (ptsOf (ra.take k))) wr ∧ errF FF (ptsOf (ra.take k)) = 0 ∧ Below w.heap.size w wr)
  case atStart => exact ⟨0, none, 0, [], by omega, rfl, rfl, OutAt.nil _ _, rfl, HB1.out⟩
  case round =>
    obtain ⟨k, X, cx, rows, hkg, rfl, rfl, ho, her, hbel⟩ := hrel
    have HO := Lib.hid ho; have HBE := Lib.hid hbel; have HER := Lib.hid her
    have HBW := hbel
    clear ho hbel her HB1
    cases gk with
    | zero =>
      obtain rfl : k = N := by omega
      have HC := Lib.hid (sort_any w.heap.size X cx rows wr HO.out.at_ (by have := HO.out.len; omega) HO.out.sets)
      have HF : Hid (scaleR kd nn true (ptsOf ra) = (sortP (ptsOf rows), 0)) := Lib.hid (by
        have e1 := HO.out.eq
        have e2 := HER.out
        rw [List.take_of_length_le (by rw [HN.out]; exact Nat.le_refl _)] at e1 e2
        rw [HRS.out, resF, if_pos e2, e1])
      clear HO HBW HER HMP
      go_wp2_with fail
      (with_reducible refine HC.out.mono ?_); rintro e w9 ⟨Y, cy, ry, h1, rfl, h3, h4, h5, h6⟩
      have HG : Hid (PtsAnsE (scaleR kd nn true (ptsOf ra)) w (.returned (.tuple #[.slice Y ry.length cy, .int .i64 0])) w9) := Lib.hid (.ok HF.out h1 h3 HBE.out.size (HBE.out.trans (h4.mono HBE.out.size)) ⟨h5, h6⟩)
      clear h1 h3 h4 h5 h6 HC HF
      go_wp2_with fail
      go_ret2
      exact HG.out
    | succ g =>
      have hlt : k < ra.length := by have := HN.out; omega
      have HR := H.out wr HBW
      obtain ⟨ad, hA, e0, e1, _⟩ := pt_get HR hlt
      have hol := HR.each ra[k] (List.getElem_mem hlt)
      have hl := HSL.out ra[k] (List.getElem_mem hlt)
      have HNX := Lib.hid (HAN.out k hlt)
      subst hA
      have hi64 := HV.out ra[k] (List.getElem_mem hlt)
      have HLT := Lib.hid hlt
      generalize ra[k] = q at *
      obtain ⟨sv, l, val⟩ := q
      simp only at e0 e1 hol hl hi64
      obtain ⟨A2, c2, hsv, hss, _, _⟩ := hol.hasL
      subst hsv
      obtain ⟨sl, hsl⟩ : ∃ n, l.length = n := ⟨_, rfl⟩
      have HSE := Lib.hid hsl
      rw [hsl] at e0 hss hl hol
      have ha := (Below.refl wr.heap.size wr).alloc (Nat.le_refl _) (.cells #[.slice A2 sl c2, .int .i64 val] 43)
      have HX2 := Lib.hid (Blk.mk (heap_alloc_new wr (.cells #[.slice A2 sl c2, .int .i64 val] 43)) : Blk _ wr.heap.size 43 [.slice A2 sl c2, .int .i64 val])
      have HREC := Lib.hid (fun V => reckon_any kd nn val V HWN.out hi64)
      obtain ⟨⟨vl, er⟩, hrec⟩ : ∃ p, reckonF kd nn val = p := ⟨_, rfl⟩
      have hff : FF (l, val) = some (bareL l, (vl, er)) := by rw [← HFF.out]; unfold scaleF; simp only [if_true, if_false, Bool.false_eq_true]; rw [hrec]
      have HEN := Lib.hid (HNX.out.2 HER.out)
      have HNX2 := Lib.hid HNX.out.1
      simp only [hff] at HEN HNX2
      simp only [hrec] at HREC
      have HKEY := Lib.hid (fun (V : World) (hV : Below wr.heap.size wr V) => key_any A2 sl c2 l val V ((hss.below hV).more hV.size) (by omega))
      have HO2 := Lib.hid (HO.out.below ha)
      have HBE2 := Lib.hid (HBE.out.trans (ha.mono HBE.out.size))
      have HAL := Lib.hid ha
      have hbl : (bareL l).length ≤ 1000 := by have := bare_len l; omega
      obtain ⟨sn, hsn⟩ : ∃ n, (bareL l).length = n := ⟨_, rfl⟩
      have HSN := Lib.hid hsn
      rw [hsn] at HKEY hbl
      clear hss hol ha HO HBE HR HBW hsl hff hrec HNX HER hsn hi64
      go_upto_region 7 with fail
      obtain ⟨bx, hbx⟩ : ∃ b, wr.heap.size = b := ⟨_, rfl⟩
      rw [hbx] at HX2 HAL HKEY
      rw [hbx]
      clear hbx e0 e1
      generalize wr.alloc (.cells #[.slice A2 sl c2, .int .i64 val] 43) = W2 at *
      have z0 := HX2.out.cell 0
      have z1 := HX2.out.cell 1
      simp only [List.getElem?_cons_zero, List.getElem?_cons_succ] at z0 z1
      go_upto_region 9 with fail
      go_quiet (fail)
      go_wp2_with fail
      (with_reducible refine (HREC.out _).mono ?_); rintro e w3 ⟨rfl, hw3⟩
      have HO3 := Lib.hid (show OutAt w.heap.size (.slice X rows.length cx) rows k (outF FF (ptsOf (ra.take k))) w3 by rw [← hw3]; exact HO2.out.below (below_drewN2 (Below.refl _ _) _))
      have HBE3 := Lib.hid (show Below w.heap.size w w3 by rw [← hw3]; exact below_drewN2 HBE2.out _)
      have HAL3 := Lib.hid (show Below bx wr w3 by rw [← hw3]; exact below_drewN2 HAL.out _)
      have HX3 := Lib.hid (show Blk w3 bx 43 [.slice A2 sl c2, .int .i64 val] by rw [← hw3]; exact HX2.out.drewN _)
      clear hw3 HO2 HBE2 HAL HX2 z0 z1
      have z0 := HX3.out.cell 0
      have z1 := HX3.out.cell 1
      simp only [List.getElem?_cons_zero, List.getElem?_cons_succ] at z0 z1
      by_cases he0 : er = 0
      case neg =>
        have HE0 := Lib.hid he0
        have t1 : (er == 0) = false := int_ne9 he0
        have t2 : (er != 0) = true := by simp [bne, t1]
        clear he0
        have HG : Hid (PtsAnsE (scaleR kd nn true (ptsOf ra)) w (.returned (.tuple #[.slice none 0 0, .int .i64 er])) w3) := Lib.hid (.fault (by
          have h0 : errF FF (ptsOf (ra.take (k + 1))) = er := HEN.out
          have h1 := errF_hit FF ra k HLT.out (by rw [h0]; exact HE0.out)
          rw [HRS.out, resF, if_neg (by rw [h1, h0]; exact HE0.out), h1, h0]) HBE3.out)
        clear HO3 HEN HNX2
        go_wp2_with fail
        go_ret2
        exact HG.out
      case pos =>
        subst he0
        have HK := Lib.hid (HKEY.out _ HAL3.out)
        clear HKEY HAL3
        go_wp2_with fail
        (with_reducible refine HK.out.mono ?_); rintro e w4 ⟨C2, d2, rfl, hown, hb4, _, _⟩
        have hb5 := (Below.refl w4.heap.size w4).alloc (Nat.le_refl _) (.cells #[.slice C2 sn d2, .int .i64 vl] 43)
        have HO4 := Lib.hid ((HO3.out.below hb4).below hb5)
        have HOL4 := Lib.hid (show OwnL (w4.alloc (.cells #[.slice C2 sn d2, .int .i64 vl] 43)) (.slice C2 sn d2) (bareL l) from OwnL.below ⟨C2, d2, by rw [HSN.out], by rw [HSN.out]; exact own_mono hown (Nat.zero_le _)⟩ hb5)
        have HBE4 := Lib.hid ((HBE3.out.trans (hb4.mono HBE3.out.size)).trans (hb5.mono (Nat.le_trans HBE3.out.size hb4.size)))
        have HX4 := Lib.hid ((Blk.mk (heap_alloc_new w4 (.cells #[.slice C2 sn d2, .int .i64 vl] 43)) : Blk _ w4.heap.size 43 [.slice C2 sn d2, .int .i64 vl]).sees (size := 2) (n := 1) rfl (List.prefix_refl _))
        clear hown hb4 hb5 HK HO3 HBE3 HX3 z0 z1
        go_wp2_with (at_builtin; refine wpList_append_at rfl (.tmp 42) (.tmp 47) 38 rfl w.heap.size 43 i0 (.agg #[.slice none 0 0, .int .i64 0]) 2 32 Tryz.underlying38 HI.out HZ0.out HZ1.out HZ2.out rfl (by decide) (.slice X rows.length cx) rows.length (pts rows) rfl HO4.out.at_.own _ (some ⟨w4.heap.size, 0, none⟩) 1 _ [.slice C2 sn d2, .int .i64 vl] rfl HX4.out (by intro u hu; simp at hu; rcases hu with rfl | rfl <;> rfl) (by unfold maxLen; have := HO4.out.len; omega) (by have := HO4.out.len; omega) HBE4.out.size ?_)
        intro v' w5 hown hgr hwh
        have HO5 := Lib.hid (HO4.out.push (l := bareL l) (z := vl) HOL4.out (by rw [HSN.out]; exact hbl) hown hgr HNX2.out)
        have HBE5 := Lib.hid (HBE4.out.grown hgr HBE4.out.size (fun g e => (HO4.out.at_.own.lt g e).1))
        obtain ⟨A5, c5, rfl, _, _⟩ := own_slice hown
        have HL5 := Lib.hid (show (rows ++ [(⟨.slice C2 sn d2, bareL l, vl⟩ : PtR)]).length = rows.length + 1 by simp)
        clear hown hgr hwh HO4 HOL4 HBE4 HX4
        go_wp2_with fail
        go_roundg g
        case measure => omega
        case rel => exact ⟨k + 1, A5, c5, _, by omega, by first | rfl | go_num, by rw [HL5.out], by rw [HL5.out]; exact HO5.out, HEN.out, HBE5.out⟩
end Go.Proofs.YtlmakdclebbbkaaGreat
