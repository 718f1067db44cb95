/- Texts, merged in one. -/
import Derived.Test.YtbndmmfpoljeaaaBase2
import Derived.Test.YtbndmmfpoljeaaaBase
import Derived.Test.YtbndmmfpoljeaaaRows
import Derived.Maps.OwnOps
import Derived.Maps.OwnSet
import Derived.Maps.Views
import Derived.StringKeys
import Derived.WalkKit
import Derived.Deep.CutBlock
import Derived.Deep.DeepCutAuto
namespace Go.Proofs.Ytbndmmfpoljeaaa
open Go.ChangeShapes Go.WideShapes Go.ChangeAt Go.RowKit
set_option linter.unusedVariables false
set_option linter.unusedSimpArgs false
set_option maxRecDepth 100000
/-- The keys of points. -/
def keysP (ps : List Pt) : List (List UInt8) := ps.map fun p => keyT p.1
theorem keysOf_pts (rows : List PtR) : keysOf rows = keysP (ptsOf rows) := by simp [keysOf, keysP, ptsOf]
def scaleF (kd n : Int) (first : Bool) (p : Pt) : Option (List Lbl × (Int × Int)) := some (bareL p.1, if first = true then reckonF kd n p.2 else reckonF kd p.2 n)
def scaleR (kd n : Int) (first : Bool) (ps : List Pt) : List Pt × Int := if twiceF (keysP ps) = true then ([], 5) else resF (scaleF kd n first) ps
theorem below_drewN2 {B : Nat} {a w : World} (h : Below B a w) (n : Nat) : Below B a (w.drewN n) := by
  induction n with
  | zero => exact h
  | succ n ih => exact ih.drew
set_option maxHeartbeats 4000000 in
theorem scale_f (b1 : Nat) (A : Option Addr) (c : Nat) (ra : List PtR) (kd nn : Int) (w : World) (h : PtsAt b1 (.slice A ra.length c) ra w) (hn : ra.length ≤ 19) (hsl : ∀ x ∈ ra, x.set.length ≤ 1000) (hv : ∀ x ∈ ra, I64 x.val) (wn : I64 nn) :
    Calls Try.prog 18 #[.int .i64 kd, .slice A ra.length c, .int .i64 nn, .bool false] w (PtsAnsE (scaleR kd nn false (ptsOf ra)) w) := by
  obtain ⟨i0, hi, hz0, hz1, hz2⟩ := info_parts Try.infoPt
  have HI := Lib.hid hi; have HZ0 := Lib.hid hz0; have HZ1 := Lib.hid hz1; have HZ2 := Lib.hid hz2
  clear hi hz0 hz1 hz2
  have HTW := Lib.hid (twice_any b1 A c ra w h (by omega) hsl)
  have H := Lib.hid (fun (V : World) (hV : Below w.heap.size w V) => h.below hV)
  have HSL := Lib.hid hsl; have HV := Lib.hid hv; have HWN := Lib.hid wn
  obtain ⟨FF, hFF⟩ : ∃ f, scaleF kd nn false = f := ⟨_, rfl⟩
  have HFF := Lib.hid hFF
  have HAN := Lib.hid (fun k hk => And.intro (outF_next FF ra k hk) (errF_next FF ra k hk))
  have HMP := Lib.hid trivial
  clear h hsl hv wn
  obtain ⟨N, hN⟩ : ∃ N, ra.length = N := ⟨_, rfl⟩
  have HN := Lib.hid hN
  rw [hN] at H hn HTW ⊢
  rw [← hN] at H
  clear hN
  obtain ⟨tw, htw⟩ : ∃ b, twiceF (keysOf ra) = b := ⟨_, rfl⟩
  have HT := Lib.hid htw
  rw [htw] at HTW
  clear htw hFF
  go_enter Try.func18, Try.ntmps18
  go_wp2_with fail
  (with_reducible refine HTW.out.mono ?_); rintro e w1 ⟨rfl, hb1⟩
  have HB1 := Lib.hid hb1
  clear hb1 HTW
  cases tw with
  | true =>
    have HF : Hid (PtsAnsE (scaleR kd nn false (ptsOf ra)) w (.returned (.tuple #[.slice none 0 0, .int .i64 5])) w1) := Lib.hid (.fault (by unfold scaleR; rw [← keysOf_pts, HT.out]; rfl) HB1.out)
    go_wp2_with fail
    go_ret2
    exact HF.out
  | false =>
  have HRS : Hid (scaleR kd nn false (ptsOf ra) = resF FF (ptsOf ra)) := Lib.hid (by unfold scaleR; rw [← keysOf_pts, HT.out, ← HFF.out]; rfl)
  go_wp2_with fail
  go_loopg [10, 21] N (fun g x10 x21 wr => ∃ (k : Nat) (X : Option Addr) (cx : Nat) (rows : List PtR), k + g = N ∧ x21 = .int .i64 k ∧ x10 = .slice X rows.length cx ∧ OutAt w.heap.size (.slice X rows.length cx) rows k (outF FF (ptsOf (ra.take k))) wr ∧ errF FF (ptsOf (ra.take k)) = 0 ∧ Below w.heap.size w wr)
  case atStart => exact ⟨0, none, 0, [], by omega, rfl, rfl, OutAt.nil _ _, rfl, HB1.out⟩
  case round =>
    obtain ⟨k, X, cx, rows, hkg, rfl, rfl, ho, her, hbel⟩ := hrel
    have HO := Lib.hid ho; have HBE := Lib.hid hbel; have HER := Lib.hid her
    have HBW := hbel
    clear ho hbel her HB1
    cases gk with
    | zero =>
      obtain rfl : k = N := by omega
      have HC := Lib.hid (sort_any w.heap.size X cx rows wr HO.out.at_ (by have := HO.out.len; omega) HO.out.sets)
      have HF : Hid (scaleR kd nn false (ptsOf ra) = (sortP (ptsOf rows), 0)) := Lib.hid (by
        have e1 := HO.out.eq
        have e2 := HER.out
        rw [List.take_of_length_le (by rw [HN.out]; exact Nat.le_refl _)] at e1 e2
        rw [HRS.out, resF, if_pos e2, e1])
      clear HO HBW HER HMP
      go_wp2_with fail
      (with_reducible refine HC.out.mono ?_); rintro e w9 ⟨Y, cy, ry, h1, rfl, h3, h4, h5, h6⟩
      have HG : Hid (PtsAnsE (scaleR kd nn false (ptsOf ra)) w (.returned (.tuple #[.slice Y ry.length cy, .int .i64 0])) w9) := Lib.hid (.ok HF.out h1 h3 HBE.out.size (HBE.out.trans (h4.mono HBE.out.size)) ⟨h5, h6⟩)
      clear h1 h3 h4 h5 h6 HC HF
      go_wp2_with fail
      go_ret2
      exact HG.out
    | succ g =>
      have hlt : k < ra.length := by have := HN.out; omega
      have HR := H.out wr HBW
      obtain ⟨ad, hA, e0, e1, _⟩ := pt_get HR hlt
      have hol := HR.each ra[k] (List.getElem_mem hlt)
      have hl := HSL.out ra[k] (List.getElem_mem hlt)
      have HNX := Lib.hid (HAN.out k hlt)
      subst hA
      have hi64 := HV.out ra[k] (List.getElem_mem hlt)
      have HLT := Lib.hid hlt
      generalize ra[k] = q at *
      obtain ⟨sv, l, val⟩ := q
      simp only at e0 e1 hol hl hi64
      obtain ⟨A2, c2, hsv, hss, _, _⟩ := hol.hasL
      subst hsv
      obtain ⟨sl, hsl⟩ : ∃ n, l.length = n := ⟨_, rfl⟩
      have HSE := Lib.hid hsl
      rw [hsl] at e0 hss hl hol
      have ha := (Below.refl wr.heap.size wr).alloc (Nat.le_refl _) (.cells #[.slice A2 sl c2, .int .i64 val] 28)
      have HX2 := Lib.hid (Blk.mk (heap_alloc_new wr (.cells #[.slice A2 sl c2, .int .i64 val] 28)) : Blk _ wr.heap.size 28 [.slice A2 sl c2, .int .i64 val])
      have HREC := Lib.hid (fun V => reckon_any kd val nn V hi64 HWN.out)
      obtain ⟨⟨vl, er⟩, hrec⟩ : ∃ p, reckonF kd val nn = p := ⟨_, rfl⟩
      have hff : FF (l, val) = some (bareL l, (vl, er)) := by rw [← HFF.out]; unfold scaleF; simp only [if_true, if_false, Bool.false_eq_true]; rw [hrec]
      have HEN := Lib.hid (HNX.out.2 HER.out)
      have HNX2 := Lib.hid HNX.out.1
      simp only [hff] at HEN HNX2
      simp only [hrec] at HREC
      have HKEY := Lib.hid (fun (V : World) (hV : Below wr.heap.size wr V) => key_any A2 sl c2 l val V ((hss.below hV).more hV.size) (by omega))
      have HO2 := Lib.hid (HO.out.below ha)
      have HBE2 := Lib.hid (HBE.out.trans (ha.mono HBE.out.size))
      have HAL := Lib.hid ha
      have hbl : (bareL l).length ≤ 1000 := by have := bare_len l; omega
      obtain ⟨sn, hsn⟩ : ∃ n, (bareL l).length = n := ⟨_, rfl⟩
      have HSN := Lib.hid hsn
      rw [hsn] at HKEY hbl
      clear hss hol ha HO HBE HR HBW hsl hff hrec HNX HER hsn hi64
      go_upto_region 7 with fail
      obtain ⟨bx, hbx⟩ : ∃ b, wr.heap.size = b := ⟨_, rfl⟩
      rw [hbx] at HX2 HAL HKEY
      rw [hbx]
      clear hbx e0 e1
      generalize wr.alloc (.cells #[.slice A2 sl c2, .int .i64 val] 28) = W2 at *
      have z0 := HX2.out.cell 0
      have z1 := HX2.out.cell 1
      simp only [List.getElem?_cons_zero, List.getElem?_cons_succ] at z0 z1
      go_wp2_with fail
      (with_reducible refine (HREC.out _).mono ?_); rintro e w3 ⟨rfl, rfl⟩
      have HO3 := HO2; have HBE3 := HBE2; have HAL3 := HAL; have HX3 := HX2
      clear HO2 HBE2 HAL HX2
      have w3e : W2 = W2 := rfl
      by_cases he0 : er = 0
      case neg =>
        have HE0 := Lib.hid he0
        have t1 : (er == 0) = false := int_ne9 he0
        have t2 : (er != 0) = true := by simp [bne, t1]
        clear he0
        have HG : Hid (PtsAnsE (scaleR kd nn false (ptsOf ra)) w (.returned (.tuple #[.slice none 0 0, .int .i64 er])) W2) := Lib.hid (.fault (by
          have h0 : errF FF (ptsOf (ra.take (k + 1))) = er := HEN.out
          have h1 := errF_hit FF ra k HLT.out (by rw [h0]; exact HE0.out)
          rw [HRS.out, resF, if_neg (by rw [h1, h0]; exact HE0.out), h1, h0]) HBE3.out)
        clear HO3 HEN HNX2
        go_wp2_with fail
        go_ret2
        exact HG.out
      case pos =>
        subst he0
        have HK := Lib.hid (HKEY.out _ HAL3.out)
        clear HKEY HAL3
        go_wp2_with fail
        (with_reducible refine HK.out.mono ?_); rintro e w4 ⟨C2, d2, rfl, hown, hb4, _, _⟩
        have hb5 := (Below.refl w4.heap.size w4).alloc (Nat.le_refl _) (.cells #[.slice C2 sn d2, .int .i64 vl] 28)
        have HO4 := Lib.hid ((HO3.out.below hb4).below hb5)
        have HOL4 := Lib.hid (show OwnL (w4.alloc (.cells #[.slice C2 sn d2, .int .i64 vl] 28)) (.slice C2 sn d2) (bareL l) from OwnL.below ⟨C2, d2, by rw [HSN.out], by rw [HSN.out]; exact own_mono hown (Nat.zero_le _)⟩ hb5)
        have HBE4 := Lib.hid ((HBE3.out.trans (hb4.mono HBE3.out.size)).trans (hb5.mono (Nat.le_trans HBE3.out.size hb4.size)))
        have HX4 := Lib.hid ((Blk.mk (heap_alloc_new w4 (.cells #[.slice C2 sn d2, .int .i64 vl] 28)) : Blk _ w4.heap.size 28 [.slice C2 sn d2, .int .i64 vl]).sees (size := 2) (n := 1) rfl (List.prefix_refl _))
        clear hown hb4 hb5 HK HO3 HBE3 HX3 z0 z1
        go_wp2_with (at_builtin; refine wpList_append_at rfl (.tmp 42) (.tmp 47) 22 rfl w.heap.size 28 i0 (.agg #[.slice none 0 0, .int .i64 0]) 2 32 Try.underlying22 HI.out HZ0.out HZ1.out HZ2.out rfl (by decide) (.slice X rows.length cx) rows.length (pts rows) rfl HO4.out.at_.own _ (some ⟨w4.heap.size, 0, none⟩) 1 _ [.slice C2 sn d2, .int .i64 vl] rfl HX4.out (by intro u hu; simp at hu; rcases hu with rfl | rfl <;> rfl) (by unfold maxLen; have := HO4.out.len; omega) (by have := HO4.out.len; omega) HBE4.out.size ?_)
        intro v' w5 hown hgr hwh
        have HO5 := Lib.hid (HO4.out.push (l := bareL l) (z := vl) HOL4.out (by rw [HSN.out]; exact hbl) hown hgr HNX2.out)
        have HBE5 := Lib.hid (HBE4.out.grown hgr HBE4.out.size (fun g e => (HO4.out.at_.own.lt g e).1))
        obtain ⟨A5, c5, rfl, _, _⟩ := own_slice hown
        have HL5 := Lib.hid (show (rows ++ [(⟨.slice C2 sn d2, bareL l, vl⟩ : PtR)]).length = rows.length + 1 by simp)
        clear hown hgr hwh HO4 HOL4 HBE4 HX4
        go_wp2_with fail
        go_roundg g
        case measure => omega
        case rel => exact ⟨k + 1, A5, c5, _, by omega, by first | rfl | go_num, by rw [HL5.out], by rw [HL5.out]; exact HO5.out, HEN.out, HBE5.out⟩
set_option maxHeartbeats 4000000 in
theorem scale_t (b1 : Nat) (A : Option Addr) (c : Nat) (ra : List PtR) (kd nn : Int) (w : World) (h : PtsAt b1 (.slice A ra.length c) ra w) (hn : ra.length ≤ 19) (hsl : ∀ x ∈ ra, x.set.length ≤ 1000) (hv : ∀ x ∈ ra, I64 x.val) (wn : I64 nn) :
    Calls Try.prog 18 #[.int .i64 kd, .slice A ra.length c, .int .i64 nn, .bool true] w (PtsAnsE (scaleR kd nn true (ptsOf ra)) w) := by
  obtain ⟨i0, hi, hz0, hz1, hz2⟩ := info_parts Try.infoPt
  have HI := Lib.hid hi; have HZ0 := Lib.hid hz0; have HZ1 := Lib.hid hz1; have HZ2 := Lib.hid hz2
  clear hi hz0 hz1 hz2
  have HTW := Lib.hid (twice_any b1 A c ra w h (by omega) hsl)
  have H := Lib.hid (fun (V : World) (hV : Below w.heap.size w V) => h.below hV)
  have HSL := Lib.hid hsl; have HV := Lib.hid hv; have HWN := Lib.hid wn
  obtain ⟨FF, hFF⟩ : ∃ f, scaleF kd nn true = f := ⟨_, rfl⟩
  have HFF := Lib.hid hFF
  have HAN := Lib.hid (fun k hk => And.intro (outF_next FF ra k hk) (errF_next FF ra k hk))
  have HMP := Lib.hid trivial
  clear h hsl hv wn
  obtain ⟨N, hN⟩ : ∃ N, ra.length = N := ⟨_, rfl⟩
  have HN := Lib.hid hN
  rw [hN] at H hn HTW ⊢
  rw [← hN] at H
  clear hN
  obtain ⟨tw, htw⟩ : ∃ b, twiceF (keysOf ra) = b := ⟨_, rfl⟩
  have HT := Lib.hid htw
  rw [htw] at HTW
  clear htw hFF
  go_enter Try.func18, Try.ntmps18
  go_wp2_with fail
  (with_reducible refine HTW.out.mono ?_); rintro e w1 ⟨rfl, hb1⟩
  have HB1 := Lib.hid hb1
  clear hb1 HTW
  cases tw with
  | true =>
    have HF : Hid (PtsAnsE (scaleR kd nn true (ptsOf ra)) w (.returned (.tuple #[.slice none 0 0, .int .i64 5])) w1) := Lib.hid (.fault (by unfold scaleR; rw [← keysOf_pts, HT.out]; rfl) HB1.out)
    go_wp2_with fail
    go_ret2
    exact HF.out
  | false =>
  have HRS : Hid (scaleR kd nn true (ptsOf ra) = resF FF (ptsOf ra)) := Lib.hid (by unfold scaleR; rw [← keysOf_pts, HT.out, ← HFF.out]; rfl)
  go_wp2_with fail
  go_loopg [10, 21] N (fun g x10 x21 wr => ∃ (k : Nat) (X : Option Addr) (cx : Nat) (rows : List PtR), k + g = N ∧ x21 = .int .i64 k ∧ x10 = .slice X rows.length cx ∧ OutAt w.heap.size (.slice X rows.length cx) rows k (outF FF (ptsOf (ra.take k))) wr ∧ errF FF (ptsOf (ra.take k)) = 0 ∧ Below w.heap.size w wr)
  case atStart => exact ⟨0, none, 0, [], by omega, rfl, rfl, OutAt.nil _ _, rfl, HB1.out⟩
  case round =>
    obtain ⟨k, X, cx, rows, hkg, rfl, rfl, ho, her, hbel⟩ := hrel
    have HO := Lib.hid ho; have HBE := Lib.hid hbel; have HER := Lib.hid her
    have HBW := hbel
    clear ho hbel her HB1
    cases gk with
    | zero =>
      obtain rfl : k = N := by omega
      have HC := Lib.hid (sort_any w.heap.size X cx rows wr HO.out.at_ (by have := HO.out.len; omega) HO.out.sets)
      have HF : Hid (scaleR kd nn true (ptsOf ra) = (sortP (ptsOf rows), 0)) := Lib.hid (by
        have e1 := HO.out.eq
        have e2 := HER.out
        rw [List.take_of_length_le (by rw [HN.out]; exact Nat.le_refl _)] at e1 e2
        rw [HRS.out, resF, if_pos e2, e1])
      clear HO HBW HER HMP
      go_wp2_with fail
      (with_reducible refine HC.out.mono ?_); rintro e w9 ⟨Y, cy, ry, h1, rfl, h3, h4, h5, h6⟩
      have HG : Hid (PtsAnsE (scaleR kd nn true (ptsOf ra)) w (.returned (.tuple #[.slice Y ry.length cy, .int .i64 0])) w9) := Lib.hid (.ok HF.out h1 h3 HBE.out.size (HBE.out.trans (h4.mono HBE.out.size)) ⟨h5, h6⟩)
      clear h1 h3 h4 h5 h6 HC HF
      go_wp2_with fail
      go_ret2
      exact HG.out
    | succ g =>
      have hlt : k < ra.length := by have := HN.out; omega
      have HR := H.out wr HBW
      obtain ⟨ad, hA, e0, e1, _⟩ := pt_get HR hlt
      have hol := HR.each ra[k] (List.getElem_mem hlt)
      have hl := HSL.out ra[k] (List.getElem_mem hlt)
      have HNX := Lib.hid (HAN.out k hlt)
      subst hA
      have hi64 := HV.out ra[k] (List.getElem_mem hlt)
      have HLT := Lib.hid hlt
      generalize ra[k] = q at *
      obtain ⟨sv, l, val⟩ := q
      simp only at e0 e1 hol hl hi64
      obtain ⟨A2, c2, hsv, hss, _, _⟩ := hol.hasL
      subst hsv
      obtain ⟨sl, hsl⟩ : ∃ n, l.length = n := ⟨_, rfl⟩
      have HSE := Lib.hid hsl
      rw [hsl] at e0 hss hl hol
      have ha := (Below.refl wr.heap.size wr).alloc (Nat.le_refl _) (.cells #[.slice A2 sl c2, .int .i64 val] 28)
      have HX2 := Lib.hid (Blk.mk (heap_alloc_new wr (.cells #[.slice A2 sl c2, .int .i64 val] 28)) : Blk _ wr.heap.size 28 [.slice A2 sl c2, .int .i64 val])
      have HREC := Lib.hid (fun V => reckon_any kd nn val V HWN.out hi64)
      obtain ⟨⟨vl, er⟩, hrec⟩ : ∃ p, reckonF kd nn val = p := ⟨_, rfl⟩
      have hff : FF (l, val) = some (bareL l, (vl, er)) := by rw [← HFF.out]; unfold scaleF; simp only [if_true, if_false, Bool.false_eq_true]; rw [hrec]
      have HEN := Lib.hid (HNX.out.2 HER.out)
      have HNX2 := Lib.hid HNX.out.1
      simp only [hff] at HEN HNX2
      simp only [hrec] at HREC
      have HKEY := Lib.hid (fun (V : World) (hV : Below wr.heap.size wr V) => key_any A2 sl c2 l val V ((hss.below hV).more hV.size) (by omega))
      have HO2 := Lib.hid (HO.out.below ha)
      have HBE2 := Lib.hid (HBE.out.trans (ha.mono HBE.out.size))
      have HAL := Lib.hid ha
      have hbl : (bareL l).length ≤ 1000 := by have := bare_len l; omega
      obtain ⟨sn, hsn⟩ : ∃ n, (bareL l).length = n := ⟨_, rfl⟩
      have HSN := Lib.hid hsn
      rw [hsn] at HKEY hbl
      clear hss hol ha HO HBE HR HBW hsl hff hrec HNX HER hsn hi64
      go_upto_region 7 with fail
      obtain ⟨bx, hbx⟩ : ∃ b, wr.heap.size = b := ⟨_, rfl⟩
      rw [hbx] at HX2 HAL HKEY
      rw [hbx]
      clear hbx e0 e1
      generalize wr.alloc (.cells #[.slice A2 sl c2, .int .i64 val] 28) = W2 at *
      have z0 := HX2.out.cell 0
      have z1 := HX2.out.cell 1
      simp only [List.getElem?_cons_zero, List.getElem?_cons_succ] at z0 z1
      go_upto_region 9 with fail
      go_quiet (fail)
      go_wp2_with fail
      (with_reducible refine (HREC.out _).mono ?_); rintro e w3 ⟨rfl, hw3⟩
      have HO3 := Lib.hid (show OutAt w.heap.size (.slice X rows.length cx) rows k (outF FF (ptsOf (ra.take k))) w3 by rw [← hw3]; exact HO2.out.below (below_drewN2 (Below.refl _ _) _))
      have HBE3 := Lib.hid (show Below w.heap.size w w3 by rw [← hw3]; exact below_drewN2 HBE2.out _)
      have HAL3 := Lib.hid (show Below bx wr w3 by rw [← hw3]; exact below_drewN2 HAL.out _)
      have HX3 := Lib.hid (show Blk w3 bx 28 [.slice A2 sl c2, .int .i64 val] by rw [← hw3]; exact HX2.out.drewN _)
      clear hw3 HO2 HBE2 HAL HX2 z0 z1
      have z0 := HX3.out.cell 0
      have z1 := HX3.out.cell 1
      simp only [List.getElem?_cons_zero, List.getElem?_cons_succ] at z0 z1
      by_cases he0 : er = 0
      case neg =>
        have HE0 := Lib.hid he0
        have t1 : (er == 0) = false := int_ne9 he0
        have t2 : (er != 0) = true := by simp [bne, t1]
        clear he0
        have HG : Hid (PtsAnsE (scaleR kd nn true (ptsOf ra)) w (.returned (.tuple #[.slice none 0 0, .int .i64 er])) w3) := Lib.hid (.fault (by
          have h0 : errF FF (ptsOf (ra.take (k + 1))) = er := HEN.out
          have h1 := errF_hit FF ra k HLT.out (by rw [h0]; exact HE0.out)
          rw [HRS.out, resF, if_neg (by rw [h1, h0]; exact HE0.out), h1, h0]) HBE3.out)
        clear HO3 HEN HNX2
        go_wp2_with fail
        go_ret2
        exact HG.out
      case pos =>
        subst he0
        have HK := Lib.hid (HKEY.out _ HAL3.out)
        clear HKEY HAL3
        go_wp2_with fail
        (with_reducible refine HK.out.mono ?_); rintro e w4 ⟨C2, d2, rfl, hown, hb4, _, _⟩
        have hb5 := (Below.refl w4.heap.size w4).alloc (Nat.le_refl _) (.cells #[.slice C2 sn d2, .int .i64 vl] 28)
        have HO4 := Lib.hid ((HO3.out.below hb4).below hb5)
        have HOL4 := Lib.hid (show OwnL (w4.alloc (.cells #[.slice C2 sn d2, .int .i64 vl] 28)) (.slice C2 sn d2) (bareL l) from OwnL.below ⟨C2, d2, by rw [HSN.out], by rw [HSN.out]; exact own_mono hown (Nat.zero_le _)⟩ hb5)
        have HBE4 := Lib.hid ((HBE3.out.trans (hb4.mono HBE3.out.size)).trans (hb5.mono (Nat.le_trans HBE3.out.size hb4.size)))
        have HX4 := Lib.hid ((Blk.mk (heap_alloc_new w4 (.cells #[.slice C2 sn d2, .int .i64 vl] 28)) : Blk _ w4.heap.size 28 [.slice C2 sn d2, .int .i64 vl]).sees (size := 2) (n := 1) rfl (List.prefix_refl _))
        clear hown hb4 hb5 HK HO3 HBE3 HX3 z0 z1
        go_wp2_with (at_builtin; refine wpList_append_at rfl (.tmp 42) (.tmp 47) 22 rfl w.heap.size 28 i0 (.agg #[.slice none 0 0, .int .i64 0]) 2 32 Try.underlying22 HI.out HZ0.out HZ1.out HZ2.out rfl (by decide) (.slice X rows.length cx) rows.length (pts rows) rfl HO4.out.at_.own _ (some ⟨w4.heap.size, 0, none⟩) 1 _ [.slice C2 sn d2, .int .i64 vl] rfl HX4.out (by intro u hu; simp at hu; rcases hu with rfl | rfl <;> rfl) (by unfold maxLen; have := HO4.out.len; omega) (by have := HO4.out.len; omega) HBE4.out.size ?_)
        intro v' w5 hown hgr hwh
        have HO5 := Lib.hid (HO4.out.push (l := bareL l) (z := vl) HOL4.out (by rw [HSN.out]; exact hbl) hown hgr HNX2.out)
        have HBE5 := Lib.hid (HBE4.out.grown hgr HBE4.out.size (fun g e => (HO4.out.at_.own.lt g e).1))
        obtain ⟨A5, c5, rfl, _, _⟩ := own_slice hown
        have HL5 := Lib.hid (show (rows ++ [(⟨.slice C2 sn d2, bareL l, vl⟩ : PtR)]).length = rows.length + 1 by simp)
        clear hown hgr hwh HO4 HOL4 HBE4 HX4
        go_wp2_with fail
        go_roundg g
        case measure => omega
        case rel => exact ⟨k + 1, A5, c5, _, by omega, by first | rfl | go_num, by rw [HL5.out], by rw [HL5.out]; exact HO5.out, HEN.out, HBE5.out⟩
end Go.Proofs.Ytbndmmfpoljeaaa

namespace Go.Proofs.Ytbndmmfpoljeaaa
open Go.ChangeShapes Go.WideShapes Go.ChangeAt Go.RowKit
set_option linter.unusedVariables false
set_option linter.unusedSimpArgs false
set_option maxRecDepth 100000
def aboveF (k n : Int) (ps : List Pt) : List Pt := ps.filter fun p => holdsF k p.2 n
theorem aboveF_next (kd n : Int) (l : List PtR) (k : Nat) (h : k < l.length) : aboveF kd n (ptsOf (l.take (k + 1))) = aboveF kd n (ptsOf (l.take k)) ++ (if holdsF kd l[k].val n = true then [(l[k].set, l[k].val)] else []) := by
  unfold aboveF ptsOf
  rw [List.take_succ_eq_append_getElem h, List.map_append, List.filter_append]
  congr 1
  by_cases hq : holdsF kd l[k].val n = true
  · rw [if_pos hq]; simp [hq]
  · rw [if_neg hq]; simp [hq]
set_option maxHeartbeats 4000000 in
theorem above_any (b1 : Nat) (A : Option Addr) (c : Nat) (ra : List PtR) (kd nn : Int) (w : World) (h : PtsAt b1 (.slice A ra.length c) ra w) (hn : ra.length ≤ 19) (hsl : ∀ x ∈ ra, x.set.length ≤ 1000) :
    Calls Try.prog 20 #[.int .i64 kd, .slice A ra.length c, .int .i64 nn] w (PtsAns (sortP (aboveF kd nn (ptsOf ra))) w) := by
  obtain ⟨i0, hi, hz0, hz1, hz2⟩ := info_parts Try.infoPt
  have HI := Lib.hid hi; have HZ0 := Lib.hid hz0; have HZ1 := Lib.hid hz1; have HZ2 := Lib.hid hz2
  clear hi hz0 hz1 hz2
  have H := Lib.hid (fun (V : World) (hV : Below w.heap.size w V) => h.below hV)
  have HSL := Lib.hid hsl
  have HAN := Lib.hid (aboveF_next kd nn ra)
  have HR0 := Lib.hid (Below.refl w.heap.size w)
  clear h hsl
  obtain ⟨N, hN⟩ : ∃ N, ra.length = N := ⟨_, rfl⟩
  have HN := Lib.hid hN
  rw [hN] at H hn ⊢
  rw [← hN] at H
  clear hN
  go_enter Try.func20, Try.ntmps20
  go_wp2_with fail
  go_loopg [7, 9, 12] N (fun g x7 x9 x12 wr => ∃ (k : Nat) (X : Option Addr) (cx : Nat) (rows : List PtR), k + g = N ∧ x12 = .int .i64 k ∧ x7 = .slice X rows.length cx ∧ OutAt w.heap.size (.slice X rows.length cx) rows k (aboveF kd nn (ptsOf (ra.take k))) wr ∧ Below w.heap.size w wr)
  case atStart => exact ⟨0, none, 0, [], by omega, rfl, rfl, OutAt.nil _ _, HR0.out⟩
  case round =>
    obtain ⟨k, X, cx, rows, hkg, rfl, rfl, ho, hbel⟩ := hrel
    have HO := Lib.hid ho; have HBE := Lib.hid hbel
    have HBW := hbel
    clear ho hbel HR0
    cases gk with
    | zero =>
      obtain rfl : k = N := by omega
      have HC := Lib.hid (sort_any w.heap.size X cx rows wr HO.out.at_ (by have := HO.out.len; omega) HO.out.sets)
      have HF : Hid (ptsOf rows = aboveF kd nn (ptsOf ra)) := Lib.hid (by rw [HO.out.eq, List.take_of_length_le (by rw [HN.out]; exact Nat.le_refl _)])
      clear HO HBW
      go_wp2_with fail
      (with_reducible refine HC.out.mono ?_); rintro e w2 ⟨Y, cy, ry, h1, rfl, h3, h4, h5, h6⟩
      have HG : Hid (PtsAns (sortP (aboveF kd nn (ptsOf ra))) w (.returned (.slice Y ry.length cy)) w2) := Lib.hid ⟨Y, cy, ry, by rw [h1, HF.out], rfl, h3.mono HBE.out.size, HBE.out.trans (h4.mono HBE.out.size), h5, h6⟩
      clear h1 h3 h4 h5 h6 HC HF
      go_wp2_with fail
      go_ret
      exact HG.out
    | succ g =>
      have hlt : k < ra.length := by have := HN.out; omega
      have HR := H.out wr HBW
      obtain ⟨ad, hA, e0, e1, _⟩ := pt_get HR hlt
      have hol := HR.each ra[k] (List.getElem_mem hlt)
      have hl := HSL.out ra[k] (List.getElem_mem hlt)
      have HNX := Lib.hid (HAN.out k hlt)
      subst hA
      generalize ra[k] = q at *
      obtain ⟨sv, l, val⟩ := q
      simp only at e0 e1 hol hl
      obtain ⟨A2, c2, hsv, hss, _, _⟩ := hol.hasL
      subst hsv
      obtain ⟨sl, hsl⟩ : ∃ n, l.length = n := ⟨_, rfl⟩
      have HSE := Lib.hid hsl
      rw [hsl] at e0 hss hl hol
      have ha := (Below.refl wr.heap.size wr).alloc (Nat.le_refl _) (.cells #[.slice A2 sl c2, .int .i64 val] 28)
      have HX2 := Lib.hid (Blk.mk (heap_alloc_new wr (.cells #[.slice A2 sl c2, .int .i64 val] 28)) : Blk _ wr.heap.size 28 [.slice A2 sl c2, .int .i64 val])
      have HC := Lib.hid (fun V => holds_v kd val nn V)
      have HO2 := Lib.hid (HO.out.below ha)
      have HOL2 := Lib.hid (hol.below ha)
      have HBE2 := Lib.hid (HBE.out.trans (ha.mono HBE.out.size))
      have z0 := HX2.out.cell 0
      have z1 := HX2.out.cell 1
      simp only [List.getElem?_cons_zero, List.getElem?_cons_succ] at z0 z1
      obtain ⟨hb, hhb⟩ : ∃ b, holdsF kd val nn = b := ⟨_, rfl⟩
      rw [hhb] at HC HNX
      clear hss hol ha HO HBE HR HBW hsl hhb z0 z1
      go_upto_region 5 with fail
      obtain ⟨bx, hbx⟩ : ∃ b, wr.heap.size = b := ⟨_, rfl⟩
      rw [hbx] at HX2
      rw [hbx]
      clear hbx e0 e1
      generalize wr.alloc (.cells #[.slice A2 sl c2, .int .i64 val] 28) = W2 at *
      have z0 := HX2.out.cell 0
      have z1 := HX2.out.cell 1
      simp only [List.getElem?_cons_zero, List.getElem?_cons_succ] at z0 z1
      go_wp2_with fail
      (with_reducible refine (HC.out _).mono ?_); rintro e w3 ⟨rfl, rfl⟩
      cases hb with
      | false =>
        have HO3 := Lib.hid (HO2.out.next (HNX.out.trans (by rw [if_neg (by simp), List.append_nil])))
        clear HO2 HNX
        go_wp2_with fail
        go_roundg g
        case measure => omega
        case rel => exact ⟨k + 1, X, cx, rows, by omega, by first | rfl | go_num, rfl, HO3.out, HBE2.out⟩
      | true =>
        have hb4 := (Below.refl W2.heap.size W2).alloc (Nat.le_refl _) (.cells #[.slice A2 sl c2, .int .i64 val] 28)
        have HO4 := Lib.hid (HO2.out.below hb4)
        have HOL4 := Lib.hid (HOL2.out.below hb4)
        have HBE4 := Lib.hid (HBE2.out.trans (hb4.mono HBE2.out.size))
        have HX4 := Lib.hid ((Blk.mk (heap_alloc_new W2 (.cells #[.slice A2 sl c2, .int .i64 val] 28)) : Blk _ W2.heap.size 28 [.slice A2 sl c2, .int .i64 val]).sees (size := 2) (n := 1) rfl (List.prefix_refl _))
        have HPS := Lib.hid (HNX.out.trans (by rw [if_pos rfl]))
        clear hb4 HO2 HOL2 HBE2 HNX
        go_wp2_with (at_builtin; refine wpList_append_at rfl (.tmp 21) (.tmp 23) 22 rfl w.heap.size 28 i0 (.agg #[.slice none 0 0, .int .i64 0]) 2 32 Try.underlying22 HI.out HZ0.out HZ1.out HZ2.out rfl (by decide) (.slice X rows.length cx) rows.length (pts rows) rfl HO4.out.at_.own _ (some ⟨W2.heap.size, 0, none⟩) 1 _ [.slice A2 sl c2, .int .i64 val] rfl HX4.out (by intro u hu; simp at hu; rcases hu with rfl | rfl <;> rfl) (by unfold maxLen; have := HO4.out.len; omega) (by have := HO4.out.len; omega) HBE4.out.size ?_)
        intro v' w5 hown hgr hwh
        have HO5 := Lib.hid (HO4.out.push (l := l) (z := val) HOL4.out (by rw [HSE.out]; exact hl) hown hgr HPS.out)
        have HBE5 := Lib.hid (HBE4.out.grown hgr HBE4.out.size (fun g e => (HO4.out.at_.own.lt g e).1))
        obtain ⟨A5, c5, rfl, _, _⟩ := own_slice hown
        have HL5 := Lib.hid (show (rows ++ [(⟨.slice A2 sl c2, l, val⟩ : PtR)]).length = rows.length + 1 by simp)
        clear hown hgr hwh HO4 HOL4 HBE4 HX4 z0 z1
        go_wp2_with fail
        go_roundg g
        case measure => omega
        case rel => exact ⟨k + 1, A5, c5, _, by omega, by first | rfl | go_num, by rw [HL5.out], by rw [HL5.out]; exact HO5.out, HBE5.out⟩
end Go.Proofs.Ytbndmmfpoljeaaa

namespace Go.Proofs.Ytbndmmfpoljeaaa
open Go.ChangeShapes Go.WideShapes Go.ChangeAt Go.RowKit
set_option linter.unusedVariables false
set_option linter.unusedSimpArgs false
set_option maxRecDepth 100000
theorem place_some (ks : List (List UInt8)) : ∀ k t i, placeN ks k t = some i → ∃ q : Nat, i = (q : Int) ∧ q < k ∧ ks.getD q [] = t
  | 0, t, i, h => by cases h
  | k + 1, t, i, h => by
    unfold placeN at h
    by_cases h1 : (placeN ks k (ks.getD k [])).isSome = true
    · rw [if_pos h1] at h
      obtain ⟨q, e, hq, hg⟩ := place_some ks k t i h
      exact ⟨q, e, by omega, hg⟩
    · rw [if_neg h1] at h
      by_cases h2 : t = ks.getD k []
      · rw [if_pos h2] at h
        injection h with h
        exact ⟨k, h.symm, by omega, h2.symm⟩
      · rw [if_neg h2] at h
        obtain ⟨q, e, hq, hg⟩ := place_some ks k t i h
        exact ⟨q, e, by omega, hg⟩
def valP (qs : List Pt) (i : Int) : Int := ((qs[i.toNat]?).map Prod.snd).getD 0
theorem valP_at (rb : List PtR) (q : Nat) (h : q < rb.length) : valP (ptsOf rb) (q : Int) = rb[q].val := by
  unfold valP ptsOf
  rw [show ((q : Int)).toNat = q by omega, List.getElem?_map, List.getElem?_eq_getElem h]; rfl
def findP (qs : List Pt) (p : Pt) : Option Int := placeN (keysP qs) qs.length (keyT p.1)
def mathF (kd : Int) (qs : List Pt) (p : Pt) : Option (List Lbl × (Int × Int)) := (findP qs p).map fun i => (bareL p.1, reckonF kd p.2 (valP qs i))
def mathR (kd : Int) (ps qs : List Pt) : List Pt × Int := if (twiceF (keysP ps) || twiceF (keysP qs)) = true then ([], 5) else resF (mathF kd qs) ps
def filterF (kd : Int) (qs : List Pt) (p : Pt) : Option (List Lbl × (Int × Int)) := match findP qs p with
  | none => none
  | some i => if holdsF kd p.2 (valP qs i) = true then some (p.1, (p.2, 0)) else none
def filterR (kd : Int) (ps qs : List Pt) : List Pt × Int := if (twiceF (keysP ps) || twiceF (keysP qs)) = true then ([], 5) else resF (filterF kd qs) ps
set_option maxHeartbeats 8000000 in
theorem math_any (b1 b2 : Nat) (A B : Option Addr) (c cB : Nat) (ra rb : List PtR) (kd : Int) (w : World) (h : PtsAt b1 (.slice A ra.length c) ra w) (h2 : PtsAt b2 (.slice B rb.length cB) rb w) (hn : ra.length ≤ 19) (hnB : rb.length ≤ 1000) (hsl : ∀ x ∈ ra, x.set.length ≤ 1000) (hslB : ∀ x ∈ rb, x.set.length ≤ 1000) (hv : ∀ x ∈ ra, I64 x.val) (hvB : ∀ x ∈ rb, I64 x.val) :
    Calls Try.prog 9 #[.int .i64 kd, .slice A ra.length c, .slice B rb.length cB] w (PtsAnsE (mathR kd (ptsOf ra) (ptsOf rb)) w) := by
  obtain ⟨i0, hi, hz0, hz1, hz2⟩ := info_parts Try.infoPt
  have HI := Lib.hid hi; have HZ0 := Lib.hid hz0; have HZ1 := Lib.hid hz1; have HZ2 := Lib.hid hz2
  clear hi hz0 hz1 hz2
  have HTW := Lib.hid (twice_any b1 A c ra w h (by omega) hsl)
  have HTB := Lib.hid (fun V (hV : Below w.heap.size w V) => twice_any b2 B cB rb V (h2.below hV) hnB hslB)
  have HPL := Lib.hid (fun V (hV : Below w.heap.size w V) => places_any b2 B cB rb V (h2.below hV) hnB hslB)
  have H := Lib.hid (fun (V : World) (hV : Below w.heap.size w V) => h.below hV)
  have H2 := Lib.hid (fun (V : World) (hV : Below w.heap.size w V) => h2.below hV)
  have HSL := Lib.hid hsl; have HV := Lib.hid hv; have HVB := Lib.hid hvB
  obtain ⟨FF, hFF⟩ : ∃ f, mathF kd (ptsOf rb) = f := ⟨_, rfl⟩
  have HFF := Lib.hid hFF
  have HAN := Lib.hid (fun k hk => And.intro (outF_next FF ra k hk) (errF_next FF ra k hk))
  have HFI := Lib.hid (show ∀ p, findP (ptsOf rb) p = placeN (keysOf rb) rb.length (keyT p.1) from fun p => by unfold findP; rw [← keysOf_pts]; simp [ptsOf])
  have HVP := Lib.hid (valP_at rb)
  clear h h2 hsl hslB hv hvB
  obtain ⟨N, hN⟩ : ∃ N, ra.length = N := ⟨_, rfl⟩
  have HN := Lib.hid hN
  rw [hN] at H hn HTW ⊢
  rw [← hN] at H
  obtain ⟨NB, hNB⟩ : ∃ N, rb.length = N := ⟨_, rfl⟩
  have HNB := Lib.hid hNB
  rw [hNB] at H2 hnB HTB HPL HFI ⊢
  rw [← hNB] at H2
  clear hN hNB
  obtain ⟨tw, htw⟩ : ∃ b, twiceF (keysOf ra) = b := ⟨_, rfl⟩
  obtain ⟨twB, htwB⟩ : ∃ b, twiceF (keysOf rb) = b := ⟨_, rfl⟩
  have HRS : Hid (mathR kd (ptsOf ra) (ptsOf rb) = if (tw || twB) = true then ([], 5) else resF FF (ptsOf ra)) := Lib.hid (by unfold mathR; rw [← keysOf_pts, ← keysOf_pts, htw, htwB, ← hFF])
  obtain ⟨ks, hks⟩ : ∃ k, keysOf rb = k := ⟨_, rfl⟩
  rw [htw] at HTW
  rw [htwB] at HTB
  rw [hks] at HPL HFI
  clear htw htwB hFF hks
  go_enter Try.func9, Try.ntmps9
  go_wp2_with fail
  (with_reducible refine HTW.out.mono ?_); rintro e w1 ⟨rfl, hb1⟩
  have HB1 := Lib.hid hb1
  clear hb1 HTW
  cases tw with
  | true =>
    have HF : Hid (PtsAnsE (mathR kd (ptsOf ra) (ptsOf rb)) w (.returned (.tuple #[.slice none 0 0, .int .i64 5])) w1) := Lib.hid (.fault (by rw [HRS.out]; rfl) HB1.out)
    go_wp2_with fail
    go_ret2
    exact HF.out
  | false =>
  go_wp2_with fail
  (with_reducible refine (HTB.out _ HB1.out).mono ?_); rintro e w2 ⟨rfl, hb2⟩
  have HB2 := Lib.hid (HB1.out.trans (hb2.mono HB1.out.size))
  clear hb2 HTB HB1
  cases twB with
  | true =>
    have HF : Hid (PtsAnsE (mathR kd (ptsOf ra) (ptsOf rb)) w (.returned (.tuple #[.slice none 0 0, .int .i64 5])) w2) := Lib.hid (.fault (by rw [HRS.out]; rfl) HB2.out)
    go_wp2_with fail
    go_ret2
    exact HF.out
  | false =>
  have HRS2 : Hid (mathR kd (ptsOf ra) (ptsOf rb) = resF FF (ptsOf ra)) := Lib.hid (by rw [HRS.out]; rfl)
  have HRS := HRS2
  clear HRS2
  go_wp2_with fail
  (with_reducible refine (HPL.out _ HB2.out).mono ?_); rintro e w3 ⟨rfl, hm, hb3⟩
  have HMP := Lib.hid hm
  have HB3 := Lib.hid (HB2.out.trans (hb3.mono HB2.out.size))
  obtain ⟨bm, hbm⟩ : ∃ b, w2.heap.size = b := ⟨_, rfl⟩
  have HBM := Lib.hid (show bm < w3.heap.size ∧ w.heap.size ≤ w3.heap.size by rw [← hbm]; exact ⟨hm.lt, Nat.le_trans HB2.out.size hb3.size⟩)
  rw [hbm] at HMP ⊢
  clear hm hb3 hbm HB2 HPL
  go_wp2_with fail
  go_loopg [9, 26] N (fun g x9 x26 wr => ∃ (k : Nat) (X : Option Addr) (cx : Nat) (rows : List PtR), k + g = N ∧ x26 = .int .i64 k ∧ x9 = .slice X rows.length cx ∧ OutAt w3.heap.size (.slice X rows.length cx) rows k (outF FF (ptsOf (ra.take k))) wr ∧ errF FF (ptsOf (ra.take k)) = 0 ∧ IMap wr bm NB (placeN ks NB) (placeC ks NB) ∧ Below w3.heap.size w3 wr)
  case atStart => exact ⟨0, none, 0, [], by omega, rfl, rfl, OutAt.nil _ _, rfl, HMP.out, Below.refl _ _⟩
  case round =>
    obtain ⟨k, X, cx, rows, hkg, rfl, rfl, ho, her, hmap, hbel⟩ := hrel
    have HMQ := Lib.hid hmap
    have HO := Lib.hid ho; have HBE := Lib.hid hbel; have HER := Lib.hid her
    have HBT := Lib.hid (HB3.out.trans (hbel.mono HBM.out.2))
    have HBW := HBT.out
    clear ho hbel her hmap HMP
    have HMP := HMQ
    clear HMQ
    cases gk with
    | zero =>
      obtain rfl : k = N := by omega
      have HC := Lib.hid (sort_any w3.heap.size X cx rows wr HO.out.at_ (by have := HO.out.len; omega) HO.out.sets)
      have HF : Hid (mathR kd (ptsOf ra) (ptsOf rb) = (sortP (ptsOf rows), 0)) := Lib.hid (by
        have e1 := HO.out.eq
        have e2 := HER.out
        rw [List.take_of_length_le (by rw [HN.out]; exact Nat.le_refl _)] at e1 e2
        rw [HRS.out, resF, if_pos e2, e1])
      clear HO HBW HER HMP
      go_wp2_with fail
      (with_reducible refine HC.out.mono ?_); rintro e w9 ⟨Y, cy, ry, h1, rfl, h3, h4, h5, h6⟩
      have HG : Hid (PtsAnsE (mathR kd (ptsOf ra) (ptsOf rb)) w (.returned (.tuple #[.slice Y ry.length cy, .int .i64 0])) w9) := Lib.hid (.ok HF.out h1 h3 (Nat.le_trans HBM.out.2 HBE.out.size) (HBT.out.trans (h4.mono HBT.out.size)) ⟨h5, h6⟩)
      clear h1 h3 h4 h5 h6 HC HF
      go_wp2_with fail
      go_ret2
      exact HG.out
    | succ g =>
      have hlt : k < ra.length := by have := HN.out; omega
      have HR := H.out wr HBW
      obtain ⟨ad, hA, e0, e1, _⟩ := pt_get HR hlt
      have hol := HR.each ra[k] (List.getElem_mem hlt)
      have hl := HSL.out ra[k] (List.getElem_mem hlt)
      have HNX := Lib.hid (HAN.out k hlt)
      subst hA
      have hi64 := HV.out ra[k] (List.getElem_mem hlt)
      have HLT := Lib.hid hlt
      generalize ra[k] = q at *
      obtain ⟨sv, l, val⟩ := q
      simp only at e0 e1 hol hl hi64
      obtain ⟨A2, c2, hsv, hss, _, _⟩ := hol.hasL
      subst hsv
      obtain ⟨sl, hsl⟩ : ∃ n, l.length = n := ⟨_, rfl⟩
      have HSE := Lib.hid hsl
      rw [hsl] at e0 hss hl hol
      have ha := (Below.refl wr.heap.size wr).alloc (Nat.le_refl _) (.cells #[.slice A2 sl c2, .int .i64 val] 28)
      have HX2 := Lib.hid (Blk.mk (heap_alloc_new wr (.cells #[.slice A2 sl c2, .int .i64 val] 28)) : Blk _ wr.heap.size 28 [.slice A2 sl c2, .int .i64 val])
      have HC := Lib.hid (keyText_any A2 sl c2 l val (wr.alloc (.cells #[.slice A2 sl c2, .int .i64 val] 28)) ((hss.below ha).more ha.size) (by omega))
      have HKEY := Lib.hid (fun (V : World) (hV : Below wr.heap.size wr V) => key_any A2 sl c2 l val V ((hss.below hV).more hV.size) (by omega))
      have hts := printL_size (bareL l)
      obtain ⟨tx, htx⟩ : ∃ t, (⟨(printL (bareL l)).toArray⟩ : ByteArray) = t := ⟨_, rfl⟩
      have HTX := Lib.hid (show tx.data.toList = keyT l by rw [← htx]; simp [keyT])
      rw [htx] at HC hts
      have htm : tx.size ≤ maxLen := by unfold maxLen; omega
      have HO2 := Lib.hid (HO.out.below ha)
      have HOL2 := Lib.hid (hol.below ha)
      have HMP2 := Lib.hid (HMP.out.below ha)
      have HBE2 := Lib.hid (HBE.out.trans (ha.mono HBE.out.size))
      have HAL := Lib.hid ha
      have hbl : (bareL l).length ≤ 1000 := by have := bare_len l; omega
      obtain ⟨sn, hsn⟩ : ∃ n, (bareL l).length = n := ⟨_, rfl⟩
      have HSN := Lib.hid hsn
      rw [hsn] at HKEY hbl
      clear hss hol ha HO HBE HR HBW HBT HMP hsl hts htx hsn
      go_upto_region 8 with fail
      obtain ⟨bx, hbx⟩ : ∃ b, wr.heap.size = b := ⟨_, rfl⟩
      rw [hbx] at HX2 HAL HKEY
      rw [hbx]
      have HBQ := Lib.hid hbx
      clear hbx e0 e1
      generalize wr.alloc (.cells #[.slice A2 sl c2, .int .i64 val] 28) = W2 at *
      have z0 := HX2.out.cell 0
      have z1 := HX2.out.cell 1
      simp only [List.getElem?_cons_zero, List.getElem?_cons_succ] at z0 z1
      go_wp2_with fail
      (with_reducible refine HC.out.mono ?_); rintro e w4 ⟨rfl, hb4⟩
      have HMP3 := Lib.hid (HMP2.out.below hb4)
      have HO3 := Lib.hid (HO2.out.below hb4)
      have HOL3 := Lib.hid (HOL2.out.below hb4)
      have HX3 := Lib.hid (HX2.out.below hb4 HX2.out.lt)
      have HBE3 := Lib.hid (HBE2.out.trans (hb4.mono HBE2.out.size))
      have HAL3 := Lib.hid (HAL.out.trans (hb4.mono (by have h1 := HAL.out.size; have h2 := HBQ.out; omega)))
      have hlk := HMP3.out.look htm
      rw [HTX.out] at hlk
      have HFP := Lib.hid (HFI.out (l, val))
      obtain ⟨o, ho⟩ : ∃ o, placeN ks NB (keyT l) = o := ⟨_, rfl⟩
      have HOP := Lib.hid ho
      rw [ho] at hlk
      clear hb4 HC HMP2 HO2 HOL2 HBE2 HAL HX2 z0 z1 htm ho
      have z0 := HX3.out.cell 0
      have z1 := HX3.out.cell 1
      simp only [List.getElem?_cons_zero, List.getElem?_cons_succ] at z0 z1
      cases o with
      | none =>
        have hff : FF (l, val) = none := by
          have h := HFP.out
          rw [show keyT (l, val).1 = keyT l from rfl, HOP.out] at h
          rw [← HFF.out]; unfold mathF; rw [h]; try rfl
        have HEN := Lib.hid (HNX.out.2 HER.out)
        have HNX2 := Lib.hid HNX.out.1
        simp only [hff] at HEN HNX2
        have HO4 := Lib.hid (HO3.out.next (HNX2.out.trans (List.append_nil _)))
        clear hff HNX HNX2 HER HO3 HKEY HFP HOP
        go_wp2_with fail
        go_roundg g
        case measure => omega
        case rel => exact ⟨k + 1, X, cx, rows, by omega, by first | rfl | go_num, rfl, HO4.out, HEN.out, HMP3.out, HBE3.out⟩
      | some i =>
        obtain ⟨q, rfl, hq, _⟩ := place_some ks NB (keyT l) i HOP.out
        have HQ := Lib.hid hq
        have hqb : q < rb.length := by rw [HNB.out]; exact hq
        have HBW4 := HB3.out.trans (HBE3.out.mono HBM.out.2)
        obtain ⟨bd, hBA, y0, y1, y2⟩ := pt_get (H2.out w4 HBW4) hqb
        subst hBA
        have hi64b := HVB.out rb[q] (List.getElem_mem hqb)
        have hvp := HVP.out q hqb
        generalize rb[q].val = vb at *
        clear y0 y2
        have HREC := Lib.hid (fun V => reckon_any kd val vb V hi64 hi64b)
        obtain ⟨⟨vl, er⟩, hrec⟩ : ∃ p, reckonF kd val vb = p := ⟨_, rfl⟩
        have hff : FF (l, val) = some (bareL l, (vl, er)) := by
          have h := HFP.out
          rw [show keyT (l, val).1 = keyT l from rfl, HOP.out] at h
          rw [← HFF.out]; unfold mathF; rw [h]; simp only [Option.map_some]; rw [hvp, hrec]
        have HEN := Lib.hid (HNX.out.2 HER.out)
        have HNX2 := Lib.hid HNX.out.1
        simp only [hff] at HEN HNX2
        simp only [hrec] at HREC
        clear hff hrec HNX HER HFP HOP hi64 hi64b hvp hqb HBW4
        go_upto_region 10 with fail
        go_quiet ((go_at_call 32; exact calls_quiet (HREC.out _)))
        have HO5 := Lib.hid (HO3.out.below (below_drewN2 (Below.refl _ _) nq))
        have HMP5 := Lib.hid (HMP3.out.drewN nq)
        have HBE5 := Lib.hid (below_drewN2 HBE3.out nq)
        have HAL5 := Lib.hid (below_drewN2 HAL3.out nq)
        have HX5 := Lib.hid (HX3.out.drewN nq)
        clear HO3 HMP3 HBE3 HAL3 HX3 HOL3 y1 z0 z1 hlk
        generalize w4.drewN nq = w5 at *
        have HBF := Lib.hid (HB3.out.trans (HBE5.out.mono HBM.out.2))
        have z0 := HX5.out.cell 0
        have z1 := HX5.out.cell 1
        simp only [List.getElem?_cons_zero, List.getElem?_cons_succ] at z0 z1
        by_cases he0 : er = 0
        case neg =>
          have HE0 := Lib.hid he0
          have t1 : (er == 0) = false := int_ne9 he0
          have t2 : (er != 0) = true := by simp [bne, t1]
          clear he0
          have HG : Hid (PtsAnsE (mathR kd (ptsOf ra) (ptsOf rb)) w (.returned (.tuple #[.slice none 0 0, .int .i64 er])) w5) := Lib.hid (.fault (by
            have h0 : errF FF (ptsOf (ra.take (k + 1))) = er := HEN.out
            have h1 := errF_hit FF ra k HLT.out (by rw [h0]; exact HE0.out)
            rw [HRS.out, resF, if_neg (by rw [h1, h0]; exact HE0.out), h1, h0]) HBF.out)
          clear HO5 HEN HNX2
          go_wp2_with fail
          go_ret2
          exact HG.out
        case pos =>
          subst he0
          have HK := Lib.hid (HKEY.out _ HAL5.out)
          clear HKEY HAL5 HBF
          go_wp2_with fail
          (with_reducible refine HK.out.mono ?_); rintro e w6 ⟨C2, d2, rfl, hown, hb6, _, _⟩
          have hb7 := (Below.refl w6.heap.size w6).alloc (Nat.le_refl _) (.cells #[.slice C2 sn d2, .int .i64 vl] 28)
          have HO6 := Lib.hid ((HO5.out.below hb6).below hb7)
          have HMP6 := Lib.hid ((HMP5.out.below hb6).below hb7)
          have HOL6 := Lib.hid (show OwnL (w6.alloc (.cells #[.slice C2 sn d2, .int .i64 vl] 28)) (.slice C2 sn d2) (bareL l) from OwnL.below ⟨C2, d2, by rw [HSN.out], by rw [HSN.out]; exact own_mono hown (Nat.zero_le _)⟩ hb7)
          have HBE6 := Lib.hid ((HBE5.out.trans (hb6.mono HBE5.out.size)).trans (hb7.mono (Nat.le_trans HBE5.out.size hb6.size)))
          have HX4 := Lib.hid ((Blk.mk (heap_alloc_new w6 (.cells #[.slice C2 sn d2, .int .i64 vl] 28)) : Blk _ w6.heap.size 28 [.slice C2 sn d2, .int .i64 vl]).sees (size := 2) (n := 1) rfl (List.prefix_refl _))
          clear hown hb6 hb7 HK HO5 HBE5 HMP5 HX5 z0 z1
          go_wp2_with (at_builtin; refine wpList_append_at rfl (.tmp 54) (.tmp 59) 22 rfl w3.heap.size 28 i0 (.agg #[.slice none 0 0, .int .i64 0]) 2 32 Try.underlying22 HI.out HZ0.out HZ1.out HZ2.out rfl (by decide) (.slice X rows.length cx) rows.length (pts rows) rfl HO6.out.at_.own _ (some ⟨w6.heap.size, 0, none⟩) 1 _ [.slice C2 sn d2, .int .i64 vl] rfl HX4.out (by intro u hu; simp at hu; rcases hu with rfl | rfl <;> rfl) (by unfold maxLen; have := HO6.out.len; omega) (by have := HO6.out.len; omega) HBE6.out.size ?_)
          intro v' w8 hown hgr hwh
          have HO8 := Lib.hid (HO6.out.push (l := bareL l) (z := vl) HOL6.out (by rw [HSN.out]; exact hbl) hown hgr HNX2.out)
          have HMP8 := Lib.hid (HMP6.out.kept hgr (fun e => by have h1 := (HO6.out.at_.own.lt bm e.symm).1; have := HBM.out.1; omega))
          have HBE8 := Lib.hid (HBE6.out.grown hgr HBE6.out.size (fun g e => (HO6.out.at_.own.lt g e).1))
          obtain ⟨A5, c5, rfl, _, _⟩ := own_slice hown
          have HL5 := Lib.hid (show (rows ++ [(⟨.slice C2 sn d2, bareL l, vl⟩ : PtR)]).length = rows.length + 1 by simp)
          clear hown hgr hwh HO6 HOL6 HBE6 HMP6 HX4
          go_wp2_with fail
          go_roundg g
          case measure => omega
          case rel => exact ⟨k + 1, A5, c5, _, by omega, by first | rfl | go_num, by rw [HL5.out], by rw [HL5.out]; exact HO8.out, HEN.out, HMP8.out, HBE8.out⟩
set_option maxHeartbeats 8000000 in
theorem filter_any (b1 b2 : Nat) (A B : Option Addr) (c cB : Nat) (ra rb : List PtR) (kd : Int) (w : World) (h : PtsAt b1 (.slice A ra.length c) ra w) (h2 : PtsAt b2 (.slice B rb.length cB) rb w) (hn : ra.length ≤ 19) (hnB : rb.length ≤ 1000) (hsl : ∀ x ∈ ra, x.set.length ≤ 1000) (hslB : ∀ x ∈ rb, x.set.length ≤ 1000) (hv : ∀ x ∈ ra, I64 x.val) (hvB : ∀ x ∈ rb, I64 x.val) :
    Calls Try.prog 19 #[.int .i64 kd, .slice A ra.length c, .slice B rb.length cB] w (PtsAnsE (filterR kd (ptsOf ra) (ptsOf rb)) w) := by
  obtain ⟨i0, hi, hz0, hz1, hz2⟩ := info_parts Try.infoPt
  have HI := Lib.hid hi; have HZ0 := Lib.hid hz0; have HZ1 := Lib.hid hz1; have HZ2 := Lib.hid hz2
  clear hi hz0 hz1 hz2
  have HTW := Lib.hid (twice_any b1 A c ra w h (by omega) hsl)
  have HTB := Lib.hid (fun V (hV : Below w.heap.size w V) => twice_any b2 B cB rb V (h2.below hV) hnB hslB)
  have HPL := Lib.hid (fun V (hV : Below w.heap.size w V) => places_any b2 B cB rb V (h2.below hV) hnB hslB)
  have H := Lib.hid (fun (V : World) (hV : Below w.heap.size w V) => h.below hV)
  have H2 := Lib.hid (fun (V : World) (hV : Below w.heap.size w V) => h2.below hV)
  have HSL := Lib.hid hsl; have HV := Lib.hid hv; have HVB := Lib.hid hvB
  obtain ⟨FF, hFF⟩ : ∃ f, filterF kd (ptsOf rb) = f := ⟨_, rfl⟩
  have HFF := Lib.hid hFF
  have HAN := Lib.hid (fun k hk => And.intro (outF_next FF ra k hk) (errF_next FF ra k hk))
  have HFI := Lib.hid (show ∀ p, findP (ptsOf rb) p = placeN (keysOf rb) rb.length (keyT p.1) from fun p => by unfold findP; rw [← keysOf_pts]; simp [ptsOf])
  have HVP := Lib.hid (valP_at rb)
  clear h h2 hsl hslB hv hvB
  obtain ⟨N, hN⟩ : ∃ N, ra.length = N := ⟨_, rfl⟩
  have HN := Lib.hid hN
  rw [hN] at H hn HTW ⊢
  rw [← hN] at H
  obtain ⟨NB, hNB⟩ : ∃ N, rb.length = N := ⟨_, rfl⟩
  have HNB := Lib.hid hNB
  rw [hNB] at H2 hnB HTB HPL HFI ⊢
  rw [← hNB] at H2
  clear hN hNB
  obtain ⟨tw, htw⟩ : ∃ b, twiceF (keysOf ra) = b := ⟨_, rfl⟩
  obtain ⟨twB, htwB⟩ : ∃ b, twiceF (keysOf rb) = b := ⟨_, rfl⟩
  have HRS : Hid (filterR kd (ptsOf ra) (ptsOf rb) = if (tw || twB) = true then ([], 5) else resF FF (ptsOf ra)) := Lib.hid (by unfold filterR; rw [← keysOf_pts, ← keysOf_pts, htw, htwB, ← hFF])
  obtain ⟨ks, hks⟩ : ∃ k, keysOf rb = k := ⟨_, rfl⟩
  rw [htw] at HTW
  rw [htwB] at HTB
  rw [hks] at HPL HFI
  clear htw htwB hFF hks
  go_enter Try.func19, Try.ntmps19
  go_wp2_with fail
  (with_reducible refine HTW.out.mono ?_); rintro e w1 ⟨rfl, hb1⟩
  have HB1 := Lib.hid hb1
  clear hb1 HTW
  cases tw with
  | true =>
    have HF : Hid (PtsAnsE (filterR kd (ptsOf ra) (ptsOf rb)) w (.returned (.tuple #[.slice none 0 0, .int .i64 5])) w1) := Lib.hid (.fault (by rw [HRS.out]; rfl) HB1.out)
    go_wp2_with fail
    go_ret2
    exact HF.out
  | false =>
  go_wp2_with fail
  (with_reducible refine (HTB.out _ HB1.out).mono ?_); rintro e w2 ⟨rfl, hb2⟩
  have HB2 := Lib.hid (HB1.out.trans (hb2.mono HB1.out.size))
  clear hb2 HTB HB1
  cases twB with
  | true =>
    have HF : Hid (PtsAnsE (filterR kd (ptsOf ra) (ptsOf rb)) w (.returned (.tuple #[.slice none 0 0, .int .i64 5])) w2) := Lib.hid (.fault (by rw [HRS.out]; rfl) HB2.out)
    go_wp2_with fail
    go_ret2
    exact HF.out
  | false =>
  have HRS2 : Hid (filterR kd (ptsOf ra) (ptsOf rb) = resF FF (ptsOf ra)) := Lib.hid (by rw [HRS.out]; rfl)
  have HRS := HRS2
  clear HRS2
  go_wp2_with fail
  (with_reducible refine (HPL.out _ HB2.out).mono ?_); rintro e w3 ⟨rfl, hm, hb3⟩
  have HMP := Lib.hid hm
  have HB3 := Lib.hid (HB2.out.trans (hb3.mono HB2.out.size))
  obtain ⟨bm, hbm⟩ : ∃ b, w2.heap.size = b := ⟨_, rfl⟩
  have HBM := Lib.hid (show bm < w3.heap.size ∧ w.heap.size ≤ w3.heap.size by rw [← hbm]; exact ⟨hm.lt, Nat.le_trans HB2.out.size hb3.size⟩)
  rw [hbm] at HMP ⊢
  clear hm hb3 hbm HB2 HPL
  go_wp2_with fail
  go_loopg [9, 24] N (fun g x9 x26 wr => ∃ (k : Nat) (X : Option Addr) (cx : Nat) (rows : List PtR), k + g = N ∧ x26 = .int .i64 k ∧ x9 = .slice X rows.length cx ∧ OutAt w3.heap.size (.slice X rows.length cx) rows k (outF FF (ptsOf (ra.take k))) wr ∧ errF FF (ptsOf (ra.take k)) = 0 ∧ IMap wr bm NB (placeN ks NB) (placeC ks NB) ∧ Below w3.heap.size w3 wr)
  case atStart => exact ⟨0, none, 0, [], by omega, rfl, rfl, OutAt.nil _ _, rfl, HMP.out, Below.refl _ _⟩
  case round =>
    obtain ⟨k, X, cx, rows, hkg, rfl, rfl, ho, her, hmap, hbel⟩ := hrel
    have HMQ := Lib.hid hmap
    have HO := Lib.hid ho; have HBE := Lib.hid hbel; have HER := Lib.hid her
    have HBT := Lib.hid (HB3.out.trans (hbel.mono HBM.out.2))
    have HBW := HBT.out
    clear ho hbel her hmap HMP
    have HMP := HMQ
    clear HMQ
    cases gk with
    | zero =>
      obtain rfl : k = N := by omega
      have HC := Lib.hid (sort_any w3.heap.size X cx rows wr HO.out.at_ (by have := HO.out.len; omega) HO.out.sets)
      have HF : Hid (filterR kd (ptsOf ra) (ptsOf rb) = (sortP (ptsOf rows), 0)) := Lib.hid (by
        have e1 := HO.out.eq
        have e2 := HER.out
        rw [List.take_of_length_le (by rw [HN.out]; exact Nat.le_refl _)] at e1 e2
        rw [HRS.out, resF, if_pos e2, e1])
      clear HO HBW HER HMP
      go_wp2_with fail
      (with_reducible refine HC.out.mono ?_); rintro e w9 ⟨Y, cy, ry, h1, rfl, h3, h4, h5, h6⟩
      have HG : Hid (PtsAnsE (filterR kd (ptsOf ra) (ptsOf rb)) w (.returned (.tuple #[.slice Y ry.length cy, .int .i64 0])) w9) := Lib.hid (.ok HF.out h1 h3 (Nat.le_trans HBM.out.2 HBE.out.size) (HBT.out.trans (h4.mono HBT.out.size)) ⟨h5, h6⟩)
      clear h1 h3 h4 h5 h6 HC HF
      go_wp2_with fail
      go_ret2
      exact HG.out
    | succ g =>
      have hlt : k < ra.length := by have := HN.out; omega
      have HR := H.out wr HBW
      obtain ⟨ad, hA, e0, e1, _⟩ := pt_get HR hlt
      have hol := HR.each ra[k] (List.getElem_mem hlt)
      have hl := HSL.out ra[k] (List.getElem_mem hlt)
      have HNX := Lib.hid (HAN.out k hlt)
      subst hA
      have hi64 := HV.out ra[k] (List.getElem_mem hlt)
      have HLT := Lib.hid hlt
      generalize ra[k] = q at *
      obtain ⟨sv, l, val⟩ := q
      simp only at e0 e1 hol hl hi64
      obtain ⟨A2, c2, hsv, hss, _, _⟩ := hol.hasL
      subst hsv
      obtain ⟨sl, hsl⟩ : ∃ n, l.length = n := ⟨_, rfl⟩
      have HSE := Lib.hid hsl
      rw [hsl] at e0 hss hl hol
      have ha := (Below.refl wr.heap.size wr).alloc (Nat.le_refl _) (.cells #[.slice A2 sl c2, .int .i64 val] 28)
      have HX2 := Lib.hid (Blk.mk (heap_alloc_new wr (.cells #[.slice A2 sl c2, .int .i64 val] 28)) : Blk _ wr.heap.size 28 [.slice A2 sl c2, .int .i64 val])
      have HC := Lib.hid (keyText_any A2 sl c2 l val (wr.alloc (.cells #[.slice A2 sl c2, .int .i64 val] 28)) ((hss.below ha).more ha.size) (by omega))
      have HKEY := Lib.hid (fun (V : World) (hV : Below wr.heap.size wr V) => key_any A2 sl c2 l val V ((hss.below hV).more hV.size) (by omega))
      have hts := printL_size (bareL l)
      obtain ⟨tx, htx⟩ : ∃ t, (⟨(printL (bareL l)).toArray⟩ : ByteArray) = t := ⟨_, rfl⟩
      have HTX := Lib.hid (show tx.data.toList = keyT l by rw [← htx]; simp [keyT])
      rw [htx] at HC hts
      have htm : tx.size ≤ maxLen := by unfold maxLen; omega
      have HO2 := Lib.hid (HO.out.below ha)
      have HOL2 := Lib.hid (hol.below ha)
      have HMP2 := Lib.hid (HMP.out.below ha)
      have HBE2 := Lib.hid (HBE.out.trans (ha.mono HBE.out.size))
      have HAL := Lib.hid ha
      have hbl : (bareL l).length ≤ 1000 := by have := bare_len l; omega
      obtain ⟨sn, hsn⟩ : ∃ n, (bareL l).length = n := ⟨_, rfl⟩
      have HSN := Lib.hid hsn
      rw [hsn] at HKEY hbl
      clear hss hol ha HO HBE HR HBW HBT HMP hsl hts htx hsn
      go_upto_region 8 with fail
      obtain ⟨bx, hbx⟩ : ∃ b, wr.heap.size = b := ⟨_, rfl⟩
      rw [hbx] at HX2 HAL HKEY
      rw [hbx]
      have HBQ := Lib.hid hbx
      clear hbx e0 e1
      generalize wr.alloc (.cells #[.slice A2 sl c2, .int .i64 val] 28) = W2 at *
      have z0 := HX2.out.cell 0
      have z1 := HX2.out.cell 1
      simp only [List.getElem?_cons_zero, List.getElem?_cons_succ] at z0 z1
      go_wp2_with fail
      (with_reducible refine HC.out.mono ?_); rintro e w4 ⟨rfl, hb4⟩
      have HMP3 := Lib.hid (HMP2.out.below hb4)
      have HO3 := Lib.hid (HO2.out.below hb4)
      have HOL3 := Lib.hid (HOL2.out.below hb4)
      have HX3 := Lib.hid (HX2.out.below hb4 HX2.out.lt)
      have HBE3 := Lib.hid (HBE2.out.trans (hb4.mono HBE2.out.size))
      have HAL3 := Lib.hid (HAL.out.trans (hb4.mono (by have h1 := HAL.out.size; have h2 := HBQ.out; omega)))
      have hlk := HMP3.out.look htm
      rw [HTX.out] at hlk
      have HFP := Lib.hid (HFI.out (l, val))
      obtain ⟨o, ho⟩ : ∃ o, placeN ks NB (keyT l) = o := ⟨_, rfl⟩
      have HOP := Lib.hid ho
      rw [ho] at hlk
      clear hb4 HC HMP2 HO2 HOL2 HBE2 HAL HX2 z0 z1 htm ho
      have z0 := HX3.out.cell 0
      have z1 := HX3.out.cell 1
      simp only [List.getElem?_cons_zero, List.getElem?_cons_succ] at z0 z1
      cases o with
      | none =>
        have hff : FF (l, val) = none := by
          have h := HFP.out
          rw [show keyT (l, val).1 = keyT l from rfl, HOP.out] at h
          rw [← HFF.out]; unfold filterF; rw [h]; try rfl
        have HEN := Lib.hid (HNX.out.2 HER.out)
        have HNX2 := Lib.hid HNX.out.1
        simp only [hff] at HEN HNX2
        have HO4 := Lib.hid (HO3.out.next (HNX2.out.trans (List.append_nil _)))
        clear hff HNX HNX2 HER HO3 HKEY HFP HOP
        go_upto_region 9 with fail
        go_quiet (fail)
        go_wp2_with fail
        go_roundg g
        case measure => omega
        case rel => exact ⟨k + 1, X, cx, rows, by omega, by first | rfl | go_num, rfl, HO4.out.below (below_drewN2 (Below.refl _ _) _), HEN.out, HMP3.out.drewN _, below_drewN2 HBE3.out _⟩
      | some i =>
        obtain ⟨q, rfl, hq, _⟩ := place_some ks NB (keyT l) i HOP.out
        have HQ := Lib.hid hq
        have hqb : q < rb.length := by rw [HNB.out]; exact hq
        have HBW4 := HB3.out.trans (HBE3.out.mono HBM.out.2)
        obtain ⟨bd, hBA, y0, y1, y2⟩ := pt_get (H2.out w4 HBW4) hqb
        subst hBA
        have hi64b := HVB.out rb[q] (List.getElem_mem hqb)
        have hvp := HVP.out q hqb
        generalize rb[q].val = vb at *
        clear y0 y2
        have HRH := Lib.hid (fun V => holds_v kd val vb V)
        obtain ⟨hb, hhb⟩ : ∃ b, holdsF kd val vb = b := ⟨_, rfl⟩
        have hff : FF (l, val) = if hb = true then some (l, (val, 0)) else none := by
          have h := HFP.out
          rw [show keyT (l, val).1 = keyT l from rfl, HOP.out] at h
          rw [← HFF.out]; unfold filterF; rw [h]; simp only; rw [hvp, hhb]
        rw [hhb] at HRH
        have HEN := Lib.hid (HNX.out.2 HER.out)
        have HNX2 := Lib.hid HNX.out.1
        rw [hff] at HEN HNX2
        clear hff hhb HNX HER HFP HOP hi64 hi64b hvp hqb HBW4
        go_upto_region 9 with fail
        go_quiet ((go_at_call 49; exact calls_quiet (HRH.out _)))
        have HO5 := Lib.hid (HO3.out.below (below_drewN2 (Below.refl _ _) nq))
        have HMP5 := Lib.hid (HMP3.out.drewN nq)
        have HBE5 := Lib.hid (below_drewN2 HBE3.out nq)
        have HX5 := Lib.hid (HX3.out.drewN nq)
        have HOL5 := Lib.hid (HOL3.out.below (below_drewN2 (Below.refl _ _) nq))
        clear HO3 HMP3 HBE3 HAL3 HX3 HOL3 y1 z0 z1 hlk HKEY
        generalize w4.drewN nq = w5 at *
        have z0 := HX5.out.cell 0
        have z1 := HX5.out.cell 1
        simp only [List.getElem?_cons_zero, List.getElem?_cons_succ] at z0 z1
        cases hb with
        | false =>
          have HO6 := Lib.hid (HO5.out.next (HNX2.out.trans (List.append_nil _)))
          have HEN2 := Lib.hid (show errF FF (ptsOf (ra.take (k + 1))) = 0 from HEN.out)
          clear HO5 HNX2 HEN
          go_wp2_with fail
          go_roundg g
          case measure => omega
          case rel => exact ⟨k + 1, X, cx, rows, by omega, by first | rfl | go_num, rfl, HO6.out, HEN2.out, HMP5.out, HBE5.out⟩
        | true =>
          have HEN2 := Lib.hid (show errF FF (ptsOf (ra.take (k + 1))) = 0 from HEN.out)
          have hb7 := (Below.refl w5.heap.size w5).alloc (Nat.le_refl _) (.cells #[.slice A2 sl c2, .int .i64 val] 28)
          have HO6 := Lib.hid (HO5.out.below hb7)
          have HMP6 := Lib.hid (HMP5.out.below hb7)
          have HOL6 := Lib.hid (HOL5.out.below hb7)
          have HBE6 := Lib.hid (HBE5.out.trans (hb7.mono HBE5.out.size))
          have HX4 := Lib.hid ((Blk.mk (heap_alloc_new w5 (.cells #[.slice A2 sl c2, .int .i64 val] 28)) : Blk _ w5.heap.size 28 [.slice A2 sl c2, .int .i64 val]).sees (size := 2) (n := 1) rfl (List.prefix_refl _))
          clear hb7 HO5 HBE5 HMP5 HEN
          go_wp2_with (at_builtin; refine wpList_append_at rfl (.tmp 47) (.tmp 49) 22 rfl w3.heap.size 28 i0 (.agg #[.slice none 0 0, .int .i64 0]) 2 32 Try.underlying22 HI.out HZ0.out HZ1.out HZ2.out rfl (by decide) (.slice X rows.length cx) rows.length (pts rows) rfl HO6.out.at_.own _ (some ⟨w5.heap.size, 0, none⟩) 1 _ [.slice A2 sl c2, .int .i64 val] rfl HX4.out (by intro u hu; simp at hu; rcases hu with rfl | rfl <;> rfl) (by unfold maxLen; have := HO6.out.len; omega) (by have := HO6.out.len; omega) HBE6.out.size ?_)
          intro v' w8 hown hgr hwh
          have HO8 := Lib.hid (HO6.out.push (l := l) (z := val) HOL6.out (by rw [HSE.out]; exact hl) hown hgr HNX2.out)
          have HMP8 := Lib.hid (HMP6.out.kept hgr (fun e => by have h1 := (HO6.out.at_.own.lt bm e.symm).1; have := HBM.out.1; omega))
          have HBE8 := Lib.hid (HBE6.out.grown hgr HBE6.out.size (fun g e => (HO6.out.at_.own.lt g e).1))
          obtain ⟨A5, c5, rfl, _, _⟩ := own_slice hown
          have HL5 := Lib.hid (show (rows ++ [(⟨.slice A2 sl c2, l, val⟩ : PtR)]).length = rows.length + 1 by simp)
          clear hown hgr hwh HO6 HOL6 HBE6 HMP6 HX4 HX5 z0 z1
          go_wp2_with fail
          go_roundg g
          case measure => omega
          case rel => exact ⟨k + 1, A5, c5, _, by omega, by first | rfl | go_num, by rw [HL5.out], by rw [HL5.out]; exact HO8.out, HEN2.out, HMP8.out, HBE8.out⟩
end Go.Proofs.Ytbndmmfpoljeaaa

namespace Go.Proofs.Ytbndmmfpoljeaaa
open Go.ChangeShapes Go.WideShapes Go.ChangeAt Go.RowKit
set_option linter.unusedVariables false
set_option linter.unusedSimpArgs false
set_option maxRecDepth 100000
theorem sets_iff (rows : List PtR) (n : Nat) : (∀ x ∈ rows, x.set.length ≤ n) ↔ ∀ p ∈ ptsOf rows, p.1.length ≤ n := by
  unfold ptsOf
  constructor
  · intro h p hp
    rw [List.mem_map] at hp; obtain ⟨x, hx, rfl⟩ := hp; exact h x hx
  · intro h x hx
    exact h (x.set, x.val) (List.mem_map.2 ⟨x, hx, rfl⟩)
theorem vals_iff (rows : List PtR) : (∀ x ∈ rows, I64 x.val) ↔ ∀ p ∈ ptsOf rows, I64 p.2 := by
  unfold ptsOf
  constructor
  · intro h p hp
    rw [List.mem_map] at hp; obtain ⟨x, hx, rfl⟩ := hp; exact h x hx
  · intro h x hx
    exact h (x.set, x.val) (List.mem_map.2 ⟨x, hx, rfl⟩)
theorem ptsOf_app (a b : List PtR) : ptsOf (a ++ b) = ptsOf a ++ ptsOf b := by simp [ptsOf]
theorem among_mem {ks : List (List UInt8)} {b : Bool} {ps : List Pt} {p : Pt} (h : p ∈ amongF ks b ps) : p ∈ ps := (List.mem_filter.1 h).1
theorem among_len (ks : List (List UInt8)) (b : Bool) (ps : List Pt) : (amongF ks b ps).length ≤ ps.length := List.length_filter_le _ _
def logicF (kd : Int) (ps qs : List Pt) : List Pt := if kd = 14 then amongF (keysP qs) true ps else if kd = 16 then amongF (keysP qs) false ps else ps ++ amongF (keysP ps) false qs
def logicR (kd : Int) (ps qs : List Pt) : List Pt × Int := if (twiceF (keysP ps) || twiceF (keysP qs)) = true then ([], 5) else if kd = 14 ∨ kd = 15 ∨ kd = 16 then (sortP (logicF kd ps qs), 0) else ([], 7)
theorem pts_oneC {w : World} {l : List PtR} (h : ∀ x ∈ l, OwnL w x.sv x.set) : ∀ u ∈ pts l, u.oneCell' = true := by
  intro u hu
  simp only [pts, List.mem_flatMap, PtR.cells] at hu
  obtain ⟨x, hx, hu⟩ := hu
  obtain ⟨A, c, e, _⟩ := h x hx
  rw [e] at hu
  simp only [List.mem_cons, List.not_mem_nil, or_false] at hu
  rcases hu with rfl | rfl <;> rfl
/-- Two rows of points, one behind the other. -/
theorem concat2_any (b1 b2 : Nat) (A B : Option Addr) (c cB g : Nat) (ra rb : List PtR) (w : World) (h : PtsAt b1 (.slice A ra.length c) ra w) (h2 : PtsAt b2 (.slice B rb.length cB) rb w) (hn : ra.length ≤ 1000) (hnB : rb.length ≤ 1000) (hg : Blk w g 22 [.slice A ra.length c, .slice B rb.length cB]) (hc : c ≤ 9223372036854775807 ∧ ra.length ≤ c) (hcB : cB ≤ 9223372036854775807 ∧ rb.length ≤ cB) :
    Calls Try.prog 51 #[.slice (some ⟨g, 0, none⟩) 2 2] w (PtsAns (ptsOf ra ++ ptsOf rb) w) := by
  have h3 : PartsPts w w.heap.size (some ⟨g, 0, none⟩) 2 [ra, rb] := by
    refine ⟨rfl, fun j l hj => ?_⟩
    match j with
    | 0 => injection hj with hj; subst hj; exact ⟨_, A, ra.length, c, rfl, hg.lt, by rw [add_zero']; exact hg.cell 0, Sees.of_own h.own, rfl, hc.2, hc.1⟩
    | 1 => injection hj with hj; subst hj; exact ⟨_, B, rb.length, cB, rfl, hg.lt, by rw [add_mkV]; exact hg.cell 1, Sees.of_own h2.own, rfl, hcB.2, hcB.1⟩
    | j + 2 => simp at hj
  refine (concat_Pts (some ⟨g, 0, none⟩) 2 2 [ra, rb] w h3 (by omega) (by simp; omega) ?_).mono ?_
  · intro l hl
    simp only [List.mem_cons, List.not_mem_nil, or_false] at hl
    rcases hl with rfl | rfl
    · exact pts_oneC h.each
    · exact pts_oneC h2.each
  · rintro e w' ⟨A', c', rfl, hown, hb, h5, h6⟩
    have e1 : [ra, rb].flatten = ra ++ rb := by simp
    rw [e1] at hown h5 ⊢
    exact ⟨A', c', ra ++ rb, ptsOf_app _ _, rfl, ⟨hown, fun x hx => by
      rcases List.mem_append.1 hx with hx | hx
      · exact (h.each x hx).below hb
      · exact (h2.each x hx).below hb⟩, hb, h5, h6⟩
set_option maxHeartbeats 4000000 in
theorem logic_any (b1 b2 : Nat) (A B : Option Addr) (c cB : Nat) (ra rb : List PtR) (kd : Int) (w : World) (h : PtsAt b1 (.slice A ra.length c) ra w) (h2 : PtsAt b2 (.slice B rb.length cB) rb w) (hn : ra.length + rb.length ≤ 19) (hsl : ∀ x ∈ ra, x.set.length ≤ 1000) (hslB : ∀ x ∈ rb, x.set.length ≤ 1000) :
    Calls Try.prog 21 #[.int .i64 kd, .slice A ra.length c, .slice B rb.length cB] w (PtsAnsE (logicR kd (ptsOf ra) (ptsOf rb)) w) := by
  have HTW := Lib.hid (twice_any b1 A c ra w h (by omega) hsl)
  have HTB := Lib.hid (fun V (hV : Below w.heap.size w V) => twice_any b2 B cB rb V (h2.below hV) (by omega) hslB)
  have HAM := Lib.hid (fun V t (hV : Below w.heap.size w V) => among_any b1 b2 A B c cB ra rb t V (h.below hV) (h2.below hV) (by omega) (by omega) hsl hslB)
  have HAB := Lib.hid (fun V t (hV : Below w.heap.size w V) => among_any b2 b1 B A cB c rb ra t V (h2.below hV) (h.below hV) (by omega) (by omega) hslB hsl)
  have H := Lib.hid (fun (V : World) (hV : Below w.heap.size w V) => h.below hV)
  have HSL := Lib.hid ((sets_iff ra 1000).1 hsl); have HSB := Lib.hid ((sets_iff rb 1000).1 hslB)
  have HCA : Hid (c ≤ 9223372036854775807 ∧ ra.length ≤ c) := Lib.hid (by obtain ⟨_, _, e, q1, q2⟩ := own_slice h.own; injection e with _ _ e; subst e; exact ⟨q2, q1⟩)
  have HNN := Lib.hid hn
  clear h h2 hsl hslB
  obtain ⟨tw, htw⟩ : ∃ b, twiceF (keysOf ra) = b := ⟨_, rfl⟩
  obtain ⟨twB, htwB⟩ : ∃ b, twiceF (keysOf rb) = b := ⟨_, rfl⟩
  have HRS : Hid (logicR kd (ptsOf ra) (ptsOf rb) = if (tw || twB) = true then ([], 5) else if kd = 14 ∨ kd = 15 ∨ kd = 16 then (sortP (logicF kd (ptsOf ra) (ptsOf rb)), 0) else ([], 7)) := Lib.hid (by unfold logicR; rw [← keysOf_pts, ← keysOf_pts, htw, htwB])
  have HK1 : Hid (∀ b, amongF (keysOf rb) b (ptsOf ra) = amongF (keysP (ptsOf rb)) b (ptsOf ra)) := Lib.hid (fun b => by rw [keysOf_pts])
  have HK2 : Hid (∀ b, amongF (keysOf ra) b (ptsOf rb) = amongF (keysP (ptsOf ra)) b (ptsOf rb)) := Lib.hid (fun b => by rw [keysOf_pts])
  rw [htw] at HTW
  rw [htwB] at HTB
  have HLA := Lib.hid (ptsOf_len ra); have HLB := Lib.hid (ptsOf_len rb)
  have HRL := Lib.hid (show ∃ x y, x = ra.length ∧ y = rb.length from ⟨_, _, rfl, rfl⟩)
  clear htw htwB
  go_enter Try.func21, Try.ntmps21
  go_wp2_with fail
  (with_reducible refine HTW.out.mono ?_); rintro e w1 ⟨rfl, hb1⟩
  have HB1 := Lib.hid hb1
  clear hb1 HTW
  cases tw with
  | true =>
    have HF : Hid (PtsAnsE (logicR kd (ptsOf ra) (ptsOf rb)) w (.returned (.tuple #[.slice none 0 0, .int .i64 5])) w1) := Lib.hid (.fault (by rw [HRS.out]; rfl) HB1.out)
    go_wp2_with fail
    go_ret2
    exact HF.out
  | false =>
  go_wp2_with fail
  (with_reducible refine (HTB.out _ HB1.out).mono ?_); rintro e w2 ⟨rfl, hb2⟩
  have HB2 := Lib.hid (HB1.out.trans (hb2.mono HB1.out.size))
  clear hb2 HTB HB1
  cases twB with
  | true =>
    have HF : Hid (PtsAnsE (logicR kd (ptsOf ra) (ptsOf rb)) w (.returned (.tuple #[.slice none 0 0, .int .i64 5])) w2) := Lib.hid (.fault (by rw [HRS.out]; rfl) HB2.out)
    go_wp2_with fail
    go_ret2
    exact HF.out
  | false =>
  by_cases k14 : kd = 14
  · subst k14
    have HF : Hid (logicR 14 (ptsOf ra) (ptsOf rb) = (sortP (amongF (keysOf rb) true (ptsOf ra)), 0)) := Lib.hid (by rw [HRS.out, HK1.out]; rfl)
    have HC := Lib.hid (HAM.out w2 true HB2.out)
    clear HRS HAM HAB
    go_wp2_with fail
    (with_reducible refine HC.out.mono ?_); rintro e w3 ⟨X, cx, rows, h1, rfl, h3, h4, h5, h6⟩
    have HS := Lib.hid (sort_any w2.heap.size X cx rows w3 h3 (by have q := congrArg List.length h1; rw [ptsOf_len] at q; have q2 := among_len (keysOf rb) true (ptsOf ra); rw [HLA.out] at q2; have := HNN.out; omega) ((sets_iff rows 1000).2 (by rw [h1]; exact fun p hp => HSL.out p (among_mem hp))))
    have HB3 := Lib.hid (HB2.out.trans (h4.mono HB2.out.size))
    have H1 := Lib.hid h1
    clear h1 h3 h4 h5 h6 HC HNN hn
    go_wp2_with fail
    (with_reducible refine HS.out.mono ?_); rintro e w4 ⟨Y, cy, ry, h1, rfl, h3, h4, h5, h6⟩
    have HG : Hid (PtsAnsE (logicR 14 (ptsOf ra) (ptsOf rb)) w (.returned (.tuple #[.slice Y ry.length cy, .int .i64 0])) w4) := Lib.hid (.ok HF.out (by rw [h1, H1.out]) h3 HB3.out.size (HB3.out.trans (h4.mono HB3.out.size)) ⟨h5, h6⟩)
    clear h1 h3 h4 h5 h6 HS HF
    go_wp2_with fail
    go_ret2
    exact HG.out
  by_cases k16 : kd = 16
  · subst k16
    have HF : Hid (logicR 16 (ptsOf ra) (ptsOf rb) = (sortP (amongF (keysOf rb) false (ptsOf ra)), 0)) := Lib.hid (by rw [HRS.out, HK1.out]; rfl)
    have HC := Lib.hid (HAM.out w2 false HB2.out)
    clear HRS HAM HAB
    go_wp2_with fail
    (with_reducible refine HC.out.mono ?_); rintro e w3 ⟨X, cx, rows, h1, rfl, h3, h4, h5, h6⟩
    have HS := Lib.hid (sort_any w2.heap.size X cx rows w3 h3 (by have q := congrArg List.length h1; rw [ptsOf_len] at q; have q2 := among_len (keysOf rb) false (ptsOf ra); rw [HLA.out] at q2; have := HNN.out; omega) ((sets_iff rows 1000).2 (by rw [h1]; exact fun p hp => HSL.out p (among_mem hp))))
    have HB3 := Lib.hid (HB2.out.trans (h4.mono HB2.out.size))
    have H1 := Lib.hid h1
    clear h1 h3 h4 h5 h6 HC HNN hn
    go_wp2_with fail
    (with_reducible refine HS.out.mono ?_); rintro e w4 ⟨Y, cy, ry, h1, rfl, h3, h4, h5, h6⟩
    have HG : Hid (PtsAnsE (logicR 16 (ptsOf ra) (ptsOf rb)) w (.returned (.tuple #[.slice Y ry.length cy, .int .i64 0])) w4) := Lib.hid (.ok HF.out (by rw [h1, H1.out]) h3 HB3.out.size (HB3.out.trans (h4.mono HB3.out.size)) ⟨h5, h6⟩)
    clear h1 h3 h4 h5 h6 HS HF
    go_wp2_with fail
    go_ret2
    exact HG.out
  by_cases k15 : kd = 15
  · subst k15
    have HF : Hid (logicR 15 (ptsOf ra) (ptsOf rb) = (sortP (ptsOf ra ++ amongF (keysOf ra) false (ptsOf rb)), 0)) := Lib.hid (by rw [HRS.out, HK2.out]; rfl)
    have HC := Lib.hid (HAB.out w2 false HB2.out)
    clear HRS HAM HAB
    go_wp2_with fail
    (with_reducible refine HC.out.mono ?_); rintro e w3 ⟨X, cx, rows, h1, rfl, h3, h4, h5, h6⟩
    have HB3 := Lib.hid (HB2.out.trans (h4.mono HB2.out.size))
    have H1 := Lib.hid h1
    have hrl : rows.length ≤ rb.length := by have q := congrArg List.length h1; rw [ptsOf_len] at q; have q2 := among_len (keysOf ra) false (ptsOf rb); rw [HLB.out] at q2; omega
    have hal := (Below.refl w3.heap.size w3).alloc (Nat.le_refl _) (.cells #[.slice A ra.length c, .slice X rows.length cx] 22)
    have HCC := Lib.hid (concat2_any b1 w2.heap.size A X c cx w3.heap.size ra rows (w3.alloc (.cells #[.slice A ra.length c, .slice X rows.length cx] 22)) (H.out _ (HB3.out.trans (hal.mono HB3.out.size))) (h3.below hal) (by omega) (by omega) (Blk.mk (heap_alloc_new w3 _)) HCA.out ⟨h6, h5⟩)
    have HB4 := Lib.hid (HB3.out.trans (hal.mono HB3.out.size))
    have HRR := Lib.hid hrl
    clear h1 h3 h4 h5 h6 HC hal hrl
    go_wp2_with fail
    (with_reducible refine HCC.out.mono ?_); rintro e w5 ⟨Y, cy, ry, h1, rfl, h3, h4, h5, h6⟩
    have hlen : ry.length ≤ 19 := by
      have q := congrArg List.length h1
      rw [ptsOf_len, List.length_append, ptsOf_len, ptsOf_len] at q
      have := HRR.out; have := HNN.out; omega
    have HS := Lib.hid (sort_any _ Y cy ry w5 h3 hlen ((sets_iff ry 1000).2 (by
      rw [h1]
      intro p hp
      rcases List.mem_append.1 hp with hp | hp
      · exact HSL.out p hp
      · rw [H1.out] at hp; exact HSB.out p (among_mem hp))))
    have HB5 := Lib.hid (HB4.out.trans (h4.mono HB4.out.size))
    have H2 := Lib.hid (show ptsOf ry = ptsOf ra ++ amongF (keysOf ra) false (ptsOf rb) by rw [h1, H1.out])
    clear h1 h3 h4 h5 h6 HCC HNN hn hlen HRR
    go_wp2_with fail
    (with_reducible refine HS.out.mono ?_); rintro e w6 ⟨Z, cz, rz, h1, rfl, h3, h4, h5, h6⟩
    have HG : Hid (PtsAnsE (logicR 15 (ptsOf ra) (ptsOf rb)) w (.returned (.tuple #[.slice Z rz.length cz, .int .i64 0])) w6) := Lib.hid (.ok HF.out (by rw [h1, H2.out]) h3 HB5.out.size (HB5.out.trans (h4.mono HB5.out.size)) ⟨h5, h6⟩)
    clear h1 h3 h4 h5 h6 HS HF
    go_wp2_with fail
    go_ret2
    exact HG.out
  · have t1 := int_ne9 k14; have t2 := int_ne9 k15; have t3 := int_ne9 k16
    have HG : Hid (PtsAnsE (logicR kd (ptsOf ra) (ptsOf rb)) w (.returned (.tuple #[.slice none 0 0, .int .i64 7])) w2) := Lib.hid (.fault (by rw [HRS.out, if_neg (by decide), if_neg (by rintro (h | h | h) <;> contradiction)]) HB2.out)
    clear HRS HAM HAB
    go_wp2_with fail
    go_ret2
    exact HG.out
end Go.Proofs.Ytbndmmfpoljeaaa

namespace Go.Proofs.Ytbndmmfpoljeaaa
open Go.ChangeShapes Go.WideShapes Go.ChangeAt Go.RowKit
set_option linter.unusedVariables false
set_option linter.unusedSimpArgs false
set_option maxRecDepth 100000
theorem pts_set (l : List PtR) {p : Nat} (h : p < l.length) (v : Int) : (pts l).set (p * 2 + 1) (.int .i64 v) = pts (l.set p ⟨l[p].sv, l[p].set, v⟩) := by
  have e : pts l = pts (l.take p) ++ (pts [l[p]] ++ pts (l.drop (p + 1))) := by
    rw [← pts_append, ← pts_append, List.singleton_append, ← List.drop_eq_getElem_cons h, List.take_append_drop]
  have hl : (pts (l.take p)).length = p * 2 := by rw [pts_length, List.length_take]; omega
  have e2 : l.set p ⟨l[p].sv, l[p].set, v⟩ = l.take p ++ ([⟨l[p].sv, l[p].set, v⟩] ++ l.drop (p + 1)) := by rw [List.set_eq_take_append_cons_drop, if_pos h]; rfl
  rw [e2, pts_append, pts_append, e]
  rw [List.set_append_right _ _ (by omega), hl, show p * 2 + 1 - p * 2 = 1 by omega]
  rfl
/-- A value of a point put so far is written over. -/
theorem OutAt.store {base k c g i : Nat} {rows : List PtR} {ps ps' : List Pt} {W : World} (h : OutAt base (.slice (some ⟨g, 0, none⟩) rows.length c) rows k ps W) (hi : i < rows.length) (v : Int) (e : ps' = ps.set i (rows[i].set, v)) :
    OutAt base (.slice (some ⟨g, 0, none⟩) rows.length c) (rows.set i ⟨rows[i].sv, rows[i].set, v⟩) k ps' (W.setCell ⟨g, i * 2 + 1, none⟩ (.int .i64 v)) := by
  have hg : W.grownBy (W.setCell ⟨g, i * 2 + 1, none⟩ (.int .i64 v)) (some g) := only_setCell (World.grownBy.refl W (some g)) (p := ⟨g, i * 2 + 1, none⟩) (.inl rfl) _
  have hl : (rows.set i ⟨rows[i].sv, rows[i].set, v⟩).length = rows.length := List.length_set
  refine ⟨⟨?_, fun y hy => ?_⟩, by rw [hl]; exact h.len, fun y hy => ?_, ?_⟩
  · have := own_setV h.at_.own (i := i * 2 + 1) (by rw [pts_length]; omega) (.int .i64 v)
    rw [pts_set rows hi v] at this
    rw [hl]; exact this
  · refine ownL_grown h.at_.own (by decide) hg _ _ ?_
    rcases List.mem_or_eq_of_mem_set hy with hy | rfl
    · exact h.at_.each y hy
    · exact (show OwnL W rows[i].sv rows[i].set from h.at_.each _ (List.getElem_mem hi))
  · rcases List.mem_or_eq_of_mem_set hy with hy | rfl
    · exact h.sets y hy
    · exact (show rows[i].set.length ≤ 1000 from h.sets _ (List.getElem_mem hi))
  · rw [e, ← h.eq]; unfold ptsOf; rw [List.map_set]
theorem OutAt.form {base k c : Nat} {A : Option Addr} {rows : List PtR} {ps : List Pt} {W : World} (h : OutAt base (.slice A rows.length c) rows k ps W) (h0 : 0 < rows.length) : ∃ g, A = some ⟨g, 0, none⟩ ∧ base ≤ g ∧ g < W.heap.size ∧ ∀ o, W.frozen? ⟨g, o, none⟩ = false := by
  rcases h.at_.own.2 with ⟨h1, h2⟩ | ⟨g, cap, cur, hv, hb, hh, _⟩
  · have q := h.at_.own.1; rw [h2] at q; simp at q; omega
  · injection hv with hv _ _
    exact ⟨g, hv, hb, (Array.getElem?_eq_some_iff.1 hh).1, fun o => by simp [World.frozen?, hh]⟩
theorem imap_ne {w : World} {g n m : Nat} {f : List UInt8 → Option Int} (h : IMap w g n f m) {base : Nat} {e : TypeId} {sz k : Nat} {v : Value} {xs : List Value} (h2 : w.ownsRow base e sz v k xs) (hg : v.ownBlock = some g) : False := by
  obtain ⟨D, ⟨es, clock, h1, _⟩, _⟩ := h
  rcases h2.2 with ⟨rfl, _⟩ | ⟨g1, cap, cur, rfl, _, hh, _⟩
  · simp [Value.ownBlock] at hg
  · simp [Value.ownBlock] at hg
    subst hg
    rw [h1] at hh
    injection hh with hh; cases hh
set_option maxHeartbeats 8000000 in
theorem group_any (b1 : Nat) (A AN : Option Addr) (c nn cn : Nat) (ra : List PtR) (ns : List ByteArray) (kd : Int) (w : World) (h : PtsAt b1 (.slice A ra.length c) ra w) (hns : Sees w w.heap.size 1 AN nn (strs ns)) (hnn : nn ≤ 9223372036854775807) (hn : ra.length ≤ 19) (hsl : ∀ x ∈ ra, x.set.length ≤ 1000) (hv : ∀ x ∈ ra, I64 x.val) :
    Calls Try.prog 11 #[.int .i64 kd, .slice AN nn cn, .slice A ra.length c] w (PtsAnsE (groupR kd ns (ptsOf ra)) w) := by
  obtain ⟨i0, hi, hz0, hz1, hz2⟩ := info_parts Try.infoPt
  have HI := Lib.hid hi; have HZ0 := Lib.hid hz0; have HZ1 := Lib.hid hz1; have HZ2 := Lib.hid hz2
  clear hi hz0 hz1 hz2
  have H := Lib.hid (fun (V : World) (hV : Below w.heap.size w V) => h.below hV)
  have HNS := Lib.hid (fun (V : World) (hV : Below w.heap.size w V) => hns.below hV)
  have HSL := Lib.hid hsl; have HV := Lib.hid hv
  have HAN := Lib.hid (groupF_next kd ns ra)
  have HHI := Lib.hid (groupF_hit kd ns ra)
  have HRS : Hid (groupR kd ns (ptsOf ra) = if (groupF kd ns (ptsOf ra)).2 = 0 then (sortP (groupF kd ns (ptsOf ra)).1, 0) else ([], (groupF kd ns (ptsOf ra)).2)) := Lib.hid rfl
  have HM0 := Lib.hid (IMap.made w)
  have HB0 := Lib.hid ((Below.refl w.heap.size w).alloc (Nat.le_refl _) (.map #[] 0))
  obtain ⟨bm, hbm⟩ : ∃ b, w.heap.size = b := ⟨_, rfl⟩
  have HBM := Lib.hid hbm
  rw [hbm] at HM0
  have hmm := @run_makeMap Try.prog
  have HWN : Hid (nn ≤ 9223372036854775807) := Lib.hid hnn
  clear h hsl hv hns hnn
  obtain ⟨N, hN⟩ : ∃ N, ra.length = N := ⟨_, rfl⟩
  have HN := Lib.hid hN
  rw [hN] at H hn ⊢
  rw [← hN] at H
  clear hN hbm
  go_enter Try.func11, Try.ntmps11
  go_upto_region 3 with fail
  rw [HBM.out]
  have HS1 := Lib.hid (show bm < (w.alloc (.map #[] 0)).heap.size by rw [← HBM.out]; simp)
  generalize w.alloc (.map #[] 0) = W1 at *
  clear hmm
  go_wp2_with fail
  go_loopg [8, 21] N (fun g x8 x21 wr => ∃ (k : Nat) (X : Option Addr) (cx : Nat) (rows : List PtR) (gs : List Pt), k + g = N ∧ x21 = .int .i64 k ∧ x8 = .slice X rows.length cx ∧ OutAt W1.heap.size (.slice X rows.length cx) rows k gs wr ∧ groupF kd ns (ptsOf (ra.take k)) = (gs, 0) ∧ (∀ p ∈ gs, I64 p.2 ∧ (kd = 20 → p.2 ≤ k)) ∧ IMap wr bm rows.length (fun t => (idxG (txtG gs) t).map fun i => (i : Int)) gs.length ∧ Below w.heap.size w wr ∧ W1.heap.size ≤ wr.heap.size)
  case atStart => exact ⟨0, none, 0, [], [], by omega, rfl, rfl, OutAt.nil _ _, rfl, (fun p hp => absurd hp List.not_mem_nil), HM0.out, HB0.out, Nat.le_refl _⟩
  case round =>
    obtain ⟨k, X, cx, rows, gs, hkg, rfl, rfl, ho, her, hvs, hmap, hbel, hsz⟩ := hrel
    have HMP := Lib.hid hmap; have HVS := Lib.hid hvs
    have HO := Lib.hid ho; have HBE := Lib.hid hbel; have HER := Lib.hid her
    have HBT := Lib.hid hbel; have HSZ := Lib.hid hsz
    have HBW := HBT.out
    clear ho hbel her hmap hvs HM0 hsz
    cases gk with
    | zero =>
      obtain rfl : k = N := by omega
      have HC := Lib.hid (sort_any W1.heap.size X cx rows wr HO.out.at_ (by have := HO.out.len; omega) HO.out.sets)
      have HF : Hid (groupR kd ns (ptsOf ra) = (sortP (ptsOf rows), 0)) := Lib.hid (by
        have e2 := HER.out
        rw [List.take_of_length_le (by rw [HN.out]; exact Nat.le_refl _)] at e2
        rw [HRS.out, e2, if_pos rfl, HO.out.eq])
      clear HO HBW HER HMP HVS
      go_wp2_with fail
      (with_reducible refine HC.out.mono ?_); rintro e w9 ⟨Y, cy, ry, h1, rfl, h3, h4, h5, h6⟩
      have HG : Hid (PtsAnsE (groupR kd ns (ptsOf ra)) w (.returned (.tuple #[.slice Y ry.length cy, .int .i64 0])) w9) := Lib.hid (.ok HF.out h1 h3 HBT.out.size (HBT.out.trans (h4.mono HBT.out.size)) ⟨h5, h6⟩)
      clear h1 h3 h4 h5 h6 HC HF
      go_wp2_with fail
      go_ret2
      exact HG.out
    | succ g =>
      have hlt : k < ra.length := by have := HN.out; omega
      have HR := H.out wr HBW
      obtain ⟨ad, hA, e0, e1, _⟩ := pt_get HR hlt
      have hol := HR.each ra[k] (List.getElem_mem hlt)
      have hl := HSL.out ra[k] (List.getElem_mem hlt)
      have HNX := Lib.hid (HAN.out k hlt)
      subst hA
      have hi64 := HV.out ra[k] (List.getElem_mem hlt)
      have HLT := Lib.hid hlt
      generalize ra[k] = q at *
      obtain ⟨sv, l, val⟩ := q
      simp only at e0 e1 hol hl hi64
      obtain ⟨A2, c2, hsv, hss, _, _⟩ := hol.hasL
      subst hsv
      obtain ⟨sl, hsl⟩ : ∃ n, l.length = n := ⟨_, rfl⟩
      have HSE := Lib.hid hsl
      rw [hsl] at e0 hss hl hol
      have ha := (Below.refl wr.heap.size wr).alloc (Nat.le_refl _) (.cells #[.slice A2 sl c2, .int .i64 val] 28)
      have HX2 := Lib.hid (Blk.mk (heap_alloc_new wr (.cells #[.slice A2 sl c2, .int .i64 val] 28)) : Blk _ wr.heap.size 28 [.slice A2 sl c2, .int .i64 val])
      have HI64 := Lib.hid hi64
      have HKP := Lib.hid (fun (V : World) (hV : Below wr.heap.size wr V) => keep_any A2 AN sl c2 nn cn V.heap.size V.heap.size l ns V ((hss.below hV).more hV.size) (Nat.le_refl _) (by omega) ((HNS.out V (HBT.out.trans (hV.mono HBT.out.size))).more (Nat.le_trans HBT.out.size hV.size)) (Nat.le_refl _) HWN.out)
      have HO2 := Lib.hid (HO.out.below ha)
      have HMP2 := Lib.hid (HMP.out.below ha)
      have HBE2 := Lib.hid (HBE.out.trans (ha.mono HBE.out.size))
      have HAL := Lib.hid ha
      have HSZ1 := Lib.hid (show W1.heap.size ≤ wr.heap.size + 1 ∧ bm < wr.heap.size from ⟨by have := HSZ.out; omega, by have := HSZ.out; have := HS1.out; omega⟩)
      have HSZA := Lib.hid ha.size
      have hkl : (keepL ns l).length ≤ 1000 := by have := List.length_filter_le (fun x => hasS ns x.1) l; unfold keepL; omega
      obtain ⟨kl, hkl2⟩ : ∃ q, keepL ns l = q := ⟨_, rfl⟩
      have HKE : Hid (l.filter (fun x => hasS ns x.1) = kl) := Lib.hid hkl2
      rw [HKE.out] at HKP
      rw [hkl2] at hkl
      have HKL := Lib.hid hkl2
      obtain ⟨sn, hsn⟩ : ∃ n, kl.length = n := ⟨_, rfl⟩
      have HSN := Lib.hid hsn
      rw [hsn] at HKP hkl
      clear hss hol ha HO HBE HR HBW HMP hsl hsn hi64 hkl2
      go_upto_region 6 with fail
      obtain ⟨bx, hbx⟩ : ∃ b, wr.heap.size = b := ⟨_, rfl⟩
      rw [hbx] at HX2 HAL HKP HSZ1 HSZA
      rw [hbx]
      have HBQ := Lib.hid hbx
      clear hbx e0 e1
      generalize wr.alloc (.cells #[.slice A2 sl c2, .int .i64 val] 28) = W2 at *
      have z0 := HX2.out.cell 0
      have z1 := HX2.out.cell 1
      simp only [List.getElem?_cons_zero, List.getElem?_cons_succ] at z0 z1
      have HKC := Lib.hid (HKP.out W2 HAL.out)
      go_wp2_with fail
      (with_reducible refine HKC.out.mono ?_); rintro e w3 ⟨C2, d2, rfl, hown, hb3, _, _⟩
      have HOL3 := Lib.hid (show OwnL w3 (.slice C2 sn d2) kl from ⟨C2, d2, by rw [HSN.out], by rw [HSN.out]; exact own_mono hown (Nat.zero_le _)⟩)
      have HPR := Lib.hid (print_any C2 sn d2 kl w3.heap.size w3 (Sees.of_own hown) (Nat.le_refl _) (by omega))
      have HO3 := Lib.hid (HO2.out.below hb3)
      have HMP3 := Lib.hid (HMP2.out.below hb3)
      have HBE3 := Lib.hid (HBE2.out.trans (hb3.mono HBE2.out.size))
      have HX3 := Lib.hid (HX2.out.below hb3 HX2.out.lt)
      have hts := printL_size kl
      obtain ⟨tx, htx⟩ : ∃ t, (⟨(printL kl).toArray⟩ : ByteArray) = t := ⟨_, rfl⟩
      have HTX := Lib.hid (show tx.data.toList = printL kl by rw [← htx])
      rw [htx] at HPR hts
      have htm : tx.size ≤ maxLen := by unfold maxLen; omega
      have HSZ3 := Lib.hid hb3.size
      clear hown hb3 HKC HKP HO2 HMP2 HBE2 HX2 z0 z1 hts htx
      go_wp2_with fail
      (with_reducible refine HPR.out.mono ?_); rintro e w4 ⟨rfl, hb4⟩
      have HOL4 := Lib.hid (HOL3.out.below hb4)
      have HO4 := Lib.hid (HO3.out.below hb4)
      have HMP4 := Lib.hid (HMP3.out.below hb4)
      have HBE4 := Lib.hid (HBE3.out.trans (hb4.mono HBE3.out.size))
      have HX4 := Lib.hid (HX3.out.below hb4 HX3.out.lt)
      have HSZ4 := Lib.hid (show W1.heap.size ≤ w4.heap.size from by have := HSZ.out; have := HAL.out.size; have := HBQ.out; have := HSZ3.out; have := hb4.size; have := HSZA.out; omega)
      have z0 := HX4.out.cell 0
      have z1 := HX4.out.cell 1
      simp only [List.getElem?_cons_zero, List.getElem?_cons_succ] at z0 z1
      have hlk := HMP4.out.look htm
      rw [HTX.out] at hlk
      have HRL := Lib.hid (show gs.length = rows.length from by rw [← HO4.out.eq, ptsOf_len])
      obtain ⟨o, ho⟩ : ∃ o, idxG (txtG gs) (printL kl) = o := ⟨_, rfl⟩
      have HOP : Hid (idxG (txtG gs) (printL (keepL ns l)) = o) := Lib.hid (by rw [HKL.out]; exact ho)
      simp only [ho] at hlk
      obtain ⟨w8, hrun8, hm8, hg8⟩ := HMP4.out.put (by have := HO4.out.len; omega) htm (show I64 (rows.length : Int) by have := HO4.out.len; unfold I64; omega)
      rw [HTX.out] at hm8
      simp only [ho] at hm8
      have HRUN8 := Lib.hid hrun8; have HM8 := Lib.hid hm8; have HG8 := Lib.hid hg8
      clear hb4 HPR HOL3 HO3 HMP3 HBE3 HX3 ho hrun8 hm8 hg8
      cases o with
      | none =>
        have HEN := Lib.hid (show groupF kd ns (ptsOf (ra.take (k + 1))) = (gs ++ [(kl, begunF kd val)], 0) by rw [HNX.out, HER.out, stepG_none HOP.out, HKL.out])
        have HBG := Lib.hid (fun V => begun_any kd val V)
        have HVN := Lib.hid (show I64 (begunF kd val) ∧ (kd = 20 → begunF kd val ≤ (k + 1 : Nat)) from ⟨begun_in HI64.out, fun e => by unfold begunF; rw [if_pos e]; omega⟩)
        obtain ⟨vl, hvl⟩ : ∃ v, begunF kd val = v := ⟨_, rfl⟩
        rw [hvl] at HEN HBG HVN
        have HM9 := Lib.hid (show IMap w8 bm (rows.length + 1) (fun t => (idxG (txtG (gs ++ [(kl, vl)])) t).map fun i => (i : Int)) (gs ++ [(kl, vl)]).length from by
          have h := HM8.out
          try simp only [Option.map_none, Option.isSome_none, Bool.false_eq_true, if_false] at h
          rw [show (gs ++ [(kl, vl)]).length = gs.length + 1 by simp]
          refine cast (congrArg (fun f => IMap w8 bm (rows.length + 1) f (gs.length + 1)) (funext fun t => ?_)) h
          unfold txtG
          rw [List.map_append, List.map_singleton, idxG_append]
          by_cases ht : t = printL kl
          · rw [if_pos ht, ht]
            have hz := HOP.out
            rw [HKL.out] at hz
            unfold txtG at hz
            simp only [hz]
            rw [if_pos trivial, List.length_map, HRL.out]; rfl
          · rw [if_neg ht]
            cases idxG (List.map (fun g => printL g.fst) gs) t with
            | some i => rfl
            | none => simp [Ne.symm ht])
        have hne : ∀ g, (Value.slice X rows.length cx).ownBlock = some g → g ≠ bm := fun g e => by
          have h1 := (HO4.out.at_.own.lt g e).1; have := HS1.out; omega
        have HNEB := Lib.hid hne
        have HO8 := Lib.hid (show OutAt W1.heap.size (.slice X rows.length cx) rows k gs w8 from
          have key : ∀ y m, OwnL w4 y m → OwnL w8 y m := by
            rintro y m ⟨A', c', rfl, h2⟩
            refine ⟨A', c', rfl, own_grown h2 HG8.out (fun g hg e => ?_)⟩
            injection e with e; subst e
            exact imap_ne HMP4.out h2 hg
          ⟨⟨own_grown HO4.out.at_.own HG8.out (fun g hg e => by injection e with e; exact HNEB.out g hg e.symm), fun x hx => key _ _ (HO4.out.at_.each x hx)⟩, HO4.out.len, HO4.out.sets, HO4.out.eq⟩)
        have HOL8 := Lib.hid (show OwnL w8 (.slice C2 sn d2) kl from by
          obtain ⟨A', c', e, h2⟩ := HOL4.out
          injection e with e1 _ e3; subst e1; subst e3
          exact ⟨_, _, by rw [HSN.out], own_grown h2 HG8.out (fun g hg e => by injection e with e; subst e; exact imap_ne HMP4.out h2 hg)⟩)
        have HBE8 := Lib.hid (HBE4.out.grown HG8.out HBE4.out.size (fun g e => by injection e with e; have := HBM.out; omega))
        have HX8 := Lib.hid (HX4.out.grown HG8.out (fun e => by injection e with e; have := HSZ1.out.2; omega))
        have HSZ8 := Lib.hid (Nat.le_trans HSZ4.out HG8.out.size)
        clear HM8 HG8 HNEB hne HER HNX HMP4 z0 z1 HX4 HO4 HOL4 HBE4 HAL
        have z0 := HX8.out.cell 0
        have z1 := HX8.out.cell 1
        simp only [List.getElem?_cons_zero, List.getElem?_cons_succ] at z0 z1
        go_wp2_with (at_mapUpdate; refine wpList_put_imap rfl (.tmp 39) (.tmp 40) (.tmp 42) 59 rfl (.map (some bm)) (.string tx) (.int .i64 rows.length) rfl rfl rfl w8 HRUN8.out ?_)
        (with_reducible refine (HBG.out _).mono ?_); rintro e w9 ⟨rfl, rfl⟩
        have hb5 := (Below.refl w8.heap.size w8).alloc (Nat.le_refl _) (.cells #[.slice C2 sn d2, .int .i64 vl] 28)
        have HO9 := Lib.hid (HO8.out.below hb5)
        have HM10 := Lib.hid (HM9.out.below hb5)
        have HOL9 := Lib.hid (HOL8.out.below hb5)
        have HBE9 := Lib.hid (HBE8.out.trans (hb5.mono HBE8.out.size))
        have HSZ9 := Lib.hid (Nat.le_trans HSZ8.out hb5.size)
        have HX4 := Lib.hid ((Blk.mk (heap_alloc_new w8 (.cells #[.slice C2 sn d2, .int .i64 vl] 28)) : Blk _ w8.heap.size 28 [.slice C2 sn d2, .int .i64 vl]).sees (size := 2) (n := 1) rfl (List.prefix_refl _))
        clear hb5 HO8 HM9 HOL8 HBE8
        go_wp2_with (at_builtin; refine wpList_append_at rfl (.tmp 43) (.tmp 50) 22 rfl W1.heap.size 28 i0 (.agg #[.slice none 0 0, .int .i64 0]) 2 32 Try.underlying22 HI.out HZ0.out HZ1.out HZ2.out rfl (by decide) (.slice X rows.length cx) rows.length (pts rows) rfl HO9.out.at_.own _ (some ⟨w8.heap.size, 0, none⟩) 1 _ [.slice C2 sn d2, .int .i64 vl] rfl HX4.out (by intro u hu; simp at hu; rcases hu with rfl | rfl <;> rfl) (by unfold maxLen; have := HO9.out.len; omega) (by have := HO9.out.len; omega) HSZ9.out ?_)
        intro v' w10 hown hgr hwh
        have HO10 := Lib.hid (HO9.out.push (l := kl) (z := vl) HOL9.out (by rw [HSN.out]; exact hkl) hown hgr rfl)
        have HM11 := Lib.hid (HM10.out.kept hgr (fun e => by have h1 := (HO9.out.at_.own.lt bm e.symm).1; have := HS1.out; omega))
        have HBE10 := Lib.hid (HBE9.out.grown hgr HBE9.out.size (fun g e => by have h1 := (HO9.out.at_.own.lt g e).1; have := HBM.out; have := HS1.out; omega))
        have HSZ10 := Lib.hid (Nat.le_trans HSZ9.out hgr.size)
        obtain ⟨A5, c5, rfl, _, _⟩ := own_slice hown
        have HL5 := Lib.hid (show (rows ++ [(⟨.slice C2 sn d2, kl, vl⟩ : PtR)]).length = rows.length + 1 by simp)
        have HVS2 := Lib.hid (show ∀ p ∈ gs ++ [(kl, vl)], I64 p.2 ∧ (kd = 20 → p.2 ≤ (k + 1 : Nat)) from fun p hp => by
          rcases List.mem_append.1 hp with hp | hp
          · exact ⟨(HVS.out p hp).1, fun e => by have := (HVS.out p hp).2 e; omega⟩
          · rw [List.mem_singleton] at hp; subst hp; exact HVN.out)
        clear hown hgr hwh HO9 HOL9 HBE9 HM10 HX4 HX8 z0 z1
        go_wp2_with fail
        go_roundg g
        case measure => omega
        case rel => exact ⟨k + 1, A5, c5, _, _, by omega, by first | rfl | go_num, by rw [HL5.out], by rw [HL5.out]; exact HO10.out, HEN.out, HVS2.out, by rw [HL5.out]; exact HM11.out, HBE10.out, HSZ10.out⟩
      | some i =>
        obtain ⟨hi1, hi2⟩ := idxG_some HOP.out
        have hir : i < rows.length := by rw [← HRL.out]; simpa [txtG] using hi1
        obtain ⟨g0, hXX, hg0, hg0l, hfz⟩ := HO4.out.form (by omega)
        subst hXX
        have hadd := add_mkV g0 (i * 2)
        obtain ⟨ad0, had, y0, y1, y2⟩ := pt_get HO4.out.at_ hir
        injection had with had; subst had
        rw [hadd] at y1
        have hgs : gs[i]? = some (rows[i].set, rows[i].val) := by rw [← HO4.out.eq]; unfold ptsOf; rw [List.getElem?_map, List.getElem?_eq_getElem hir]; rfl
        have HVI := Lib.hid (HVS.out _ (List.mem_of_getElem? hgs))
        have HST := Lib.hid (fun (V : World) (hV : Below w4.heap.size w4 V) v => (HO4.out.below hV).store hir v (ps' := gs.set i (rows[i].set, v)) rfl)
        have HSG := Lib.hid (stepG_some (kd := kd) (p := (l, val)) HOP.out hgs)
        have HTG := Lib.hid (fun v => txtG_set hgs v)
        have HLR := Lib.hid (show ∀ v, (rows.set i ⟨rows[i].sv, rows[i].set, v⟩).length = rows.length from fun v => List.length_set)
        have hirI : (i : Int) < rows.length := by omega
        have hg0lw : w.heap.size ≤ g0 := by have := HBM.out; have := HS1.out; omega
        have hg0b : bm < g0 := by have := HS1.out; omega
        generalize hvb : rows[i].val = vb at *
        have hc20 : kd = 20 → vb + 1 ≤ 9223372036854775807 := fun e => by have := HVI.out.2 e; simp only at this; omega
        have HGT := Lib.hid (fun V => gathered_any kd vb val V HVI.out.1 HI64.out hc20)
        have hgin := gather_in HVI.out.1 HI64.out hc20
        have hgc : kd = 20 → (gatherF kd vb val).1 ≤ (k + 1 : Nat) := fun e => by
          have := HVI.out.2 e
          simp only at this
          subst e
          show vb + 1 ≤ _
          omega
        obtain ⟨⟨vl, er⟩, hgt⟩ : ∃ p, gatherF kd vb val = p := ⟨_, rfl⟩
        have HEN := Lib.hid (show groupF kd ns (ptsOf (ra.take (k + 1))) = if er = 0 then (gs.set i (rows[i].set, vl), 0) else ([], er) by
          rw [HNX.out, HER.out, HSG.out]; simp only [hgt])
        simp only [hgt] at HGT hgin hgc
        have HGI := Lib.hid (And.intro hgin hgc)
        clear hgin hgc hgt hc20 hvb hgs hi1 hi2 y0 y2 HSG HNX HER HM8 HG8 HRUN8 HOL4 hg0 hadd
        have hadd := add_mkV g0 (i * 2)
        go_upto_region 12 with fail
        go_quiet ((go_at_call 37; exact calls_quiet (HGT.out _)))
        have HST5 := Lib.hid (HST.out _ (below_drewN2 (Below.refl _ _) nq) vl)
        have HBE5 := Lib.hid (below_drewN2 HBE4.out nq)
        have HMP5 := Lib.hid (HMP4.out.drewN nq)
        by_cases he0 : er = 0
        case neg =>
          have HE0 := Lib.hid he0
          have t1 : (er == 0) = false := int_ne9 he0
          have t2 : (er != 0) = true := by simp [bne, t1]
          have HG : Hid (PtsAnsE (groupR kd ns (ptsOf ra)) w (.returned (.tuple #[.slice none 0 0, .int .i64 er])) (w4.drewN nq)) := Lib.hid (.fault (by
            have h0 := HEN.out
            rw [if_neg HE0.out] at h0
            have h1 := HHI.out k HLT.out (by rw [h0]; exact HE0.out)
            rw [HRS.out, h1, h0, if_neg HE0.out]) HBE5.out)
          clear he0 HEN HST HST5 HBE5 HMP5 HBE4 HMP4
          go_wp2_with fail
          go_ret2
          exact HG.out
        case pos =>
          subst he0
          have HEN2 := Lib.hid (show groupF kd ns (ptsOf (ra.take (k + 1))) = (gs.set i (rows[i].set, vl), 0) by rw [HEN.out, if_pos rfl])
          have HHL := Lib.hid (And.intro hg0l hg0lw)
          have hb0 := HBE5.out.setCell (p := ⟨g0, i * 2 + 1, none⟩) hg0lw (.int .i64 vl)
          have HBE6 := Lib.hid hb0
          have HMP6 := Lib.hid (HMP5.out.kept (row := some g0) (only_setCell (World.grownBy.refl _ (some g0)) (p := ⟨g0, i * 2 + 1, none⟩) (.inl rfl) (.int .i64 vl)) (fun e => by injection e with e; have := HS1.out; omega))
          have hf1 := hfz (i * 2 + 1)
          have HSZ6 := HSZ4
          clear HST hb0 HMP5 HBE5 HMP4 HBE4 HEN
          have HVS2 := Lib.hid (show ∀ p ∈ gs.set i (rows[i].set, vl), I64 p.2 ∧ (kd = 20 → p.2 ≤ (k + 1 : Nat)) from fun p hp => by
            rcases List.mem_or_eq_of_mem_set hp with hp | rfl
            · exact ⟨(HVS.out p hp).1, fun e => by have := (HVS.out p hp).2 e; omega⟩
            · exact HGI.out)
          have HOF := Lib.hid (show OutAt W1.heap.size (.slice (some ⟨g0, 0, none⟩) rows.length cx) (rows.set i ⟨rows[i].sv, rows[i].set, vl⟩) (k + 1) (gs.set i (rows[i].set, vl)) _ from ⟨HST5.out.at_, Nat.le_succ_of_le HST5.out.len, HST5.out.sets, HST5.out.eq⟩)
          have HMF := Lib.hid (show IMap ((w4.drewN nq).setCell ⟨g0, i * 2 + 1, none⟩ (.int .i64 vl)) bm rows.length (fun t => (idxG (txtG (gs.set i (rows[i].set, vl))) t).map fun i => (i : Int)) (gs.set i (rows[i].set, vl)).length from by rw [HTG.out, List.length_set]; exact HMP6.out)
          clear HVS HGI HST5 HMP6
          go_upto_region 15 with fail
          go_wp2_with fail
          go_roundg g
          case measure => omega
          case rel => exact ⟨k + 1, some ⟨g0, 0, none⟩, cx, rows.set i ⟨rows[i].sv, rows[i].set, vl⟩, gs.set i (rows[i].set, vl), by omega, by first | rfl | go_num, by rw [HLR.out], by rw [HLR.out]; exact HOF.out, HEN2.out, HVS2.out, by rw [HLR.out]; exact HMF.out, HBE6.out, by have := HSZ6.out; simpa [World.setCell] using this⟩
end Go.Proofs.Ytbndmmfpoljeaaa

namespace Go.Proofs.Ytbndmmfpoljeaaa
open Go.ChangeShapes Go.WideShapes Go.ChangeAt Go.RowKit
set_option linter.unusedVariables false
set_option linter.unusedSimpArgs false
set_option maxRecDepth 100000
def ptL (a name : ByteArray) : List Lbl := (if a.toList.isEmpty = true then [] else [(⟨#[97]⟩, a)]) ++ (if name.toList.isEmpty = true then [] else [(nameB, name)])
theorem ptv_ne {w : World} {base g : Nat} {e t : TypeId} {size n : Nat} {v : Value} {xs cs : List Value} (h : w.ownsRow base e size v n xs) (hb : Blk w g t cs) (he : e ≠ t := by decide) : v.ownBlock ≠ some g := fun hv => by
  rcases h.2 with ⟨rfl, _⟩ | ⟨g1, cap, cur, rfl, _, hh, _⟩
  · simp [Value.ownBlock] at hv
  · simp [Value.ownBlock] at hv
    subst hv
    rw [hb.eq] at hh
    injection hh with hh; injection hh with _ hh _
    exact he hh.symm
set_option maxHeartbeats 4000000 in
theorem point_any (a name : ByteArray) (v : Int) (w : World) (ha : a.toList.isEmpty = false) :
    Calls Try.prog 10 #[.string a, .string name, .int .i64 v] w (PtAns (ptL a name) v w) := by
  obtain ⟨iL, hi, hz0, hz1, hz2⟩ := info_parts Try.infoLabel
  have HBZ := Lib.hid (Blk.mk (heap_alloc_new w (.cells #[.slice none 0 0, .int .i64 0] 28)) : Blk _ w.heap.size 28 [.slice none 0 0, .int .i64 0])
  have hb1 : Below w.heap.size w (w.alloc (.cells #[.slice none 0 0, .int .i64 0] 28)) := (Below.refl _ _).alloc (Nat.le_refl _) _
  have HB1 := Lib.hid hb1
  obtain ⟨W1, hW1⟩ : ∃ W, w.alloc (.cells #[.slice none 0 0, .int .i64 0] 28) = W := ⟨_, rfl⟩
  rw [hW1] at HBZ HB1
  have HW1 := Lib.hid hW1
  obtain ⟨b6, hb6⟩ : ∃ b, w.heap.size = b := ⟨_, rfl⟩
  rw [hb6] at HBZ
  have HB6 := Lib.hid hb6
  have hal : Below W1.heap.size W1 (W1.alloc (.cells #[.string ⟨#[97]⟩, .string a] 53)) := (Below.refl _ _).alloc (Nat.le_refl _) _
  have HAL := Lib.hid hal
  have HX1 := Lib.hid ((Blk.mk (heap_alloc_new W1 (.cells #[.string ⟨#[97]⟩, .string a] 53)) : Blk _ W1.heap.size 53 [.string ⟨#[97]⟩, .string a]).sees (size := 2) (n := 1) rfl (List.prefix_refl _))
  have HNIL := Lib.hid (show (W1.alloc (.cells #[.string ⟨#[97]⟩, .string a] 53)).ownsRow w.heap.size 53 2 (.slice none 0 0) 0 [] from World.ownsRow_nil _ _ _ _)
  have HPL : Hid (ptL a name = [(⟨#[97]⟩, a)] ++ (if name.toList.isEmpty = true then [] else [(nameB, name)])) := Lib.hid (by unfold ptL; rw [ha]; rfl)
  have HSZ := Lib.hid (show w.heap.size ≤ W1.heap.size ∧ b6 < W1.heap.size from ⟨HB1.out.size, HBZ.out.lt⟩)
  have HI := Lib.hid hi; have HZ0 := Lib.hid hz0; have HZ1 := Lib.hid hz1; have HZ2 := Lib.hid hz2
  clear hb1 hW1 hb6 hal
  go_enter Try.func10, Try.ntmps10
  go_upto_region 1 with fail
  rw [HW1.out, HB6.out]
  clear HW1
  go_wp2_with (at_builtin; refine wpList_append_at rfl (.tmp 10) (.tmp 13) 26 rfl w.heap.size 53 iL (.agg #[.string ⟨#[]⟩, .string ⟨#[]⟩]) 2 32 Try.underlying26 hi hz0 hz1 hz2 rfl (by decide) (.slice none 0 0) 0 [] rfl HNIL.out _ (some ⟨W1.heap.size, 0, none⟩) 1 _ [.string ⟨#[97]⟩, .string a] rfl HX1.out (by intro u hu; simp at hu; rcases hu with rfl | rfl <;> rfl) (by unfold maxLen; omega) (by omega) (by have := HAL.out.size; have := HSZ.out; omega) ?_)
  intro v1 w2 hown hgr hwh
  have HB2 := Lib.hid ((HB1.out.trans (HAL.out.mono HSZ.out.1)).grown hgr (by have := HAL.out.size; have := HSZ.out; omega) (fun k h => by cases h))
  have HZ2b := Lib.hid ((HBZ.out.below HAL.out HSZ.out.2).grown hgr (by simp [Value.ownBlock]))
  obtain ⟨A1, c1, rfl, hc1, hc2⟩ := own_slice hown
  have HO := Lib.hid hown
  have HW2 := Lib.hid (show w.heap.size ≤ w2.heap.size ∧ b6 < w2.heap.size from ⟨HB2.out.size, HZ2b.out.lt⟩)
  clear hown hgr hwh HNIL HX1 HAL HBZ hi hz0 hz1 hz2 HB1
  try simp only [Nat.zero_add, List.nil_append] at hc1 ⊢
  cases hn : name.toList.isEmpty with
  | true =>
    have HPL2 := Lib.hid (show ptL a name = [(⟨#[97]⟩, a)] by rw [HPL.out, hn]; rfl)
    have y0 := HZ2b.out.cell 0; have y1 := HZ2b.out.cell 1
    simp only [List.getElem?_cons_zero, List.getElem?_cons_succ] at y0 y1
    have f0 := HZ2b.out.frozen 0; have f1 := HZ2b.out.frozen 1
    have HQ := Lib.hid ((HZ2b.out.set 0 (.slice A1 1 c1)).set 1 (.int .i64 v))
    have HOL0 : OwnL w2 (.slice A1 1 c1) [(⟨#[97]⟩, a)] := ⟨A1, c1, rfl, own_mono HO.out (Nat.zero_le _)⟩
    have HOL := Lib.hid (ownL_setCell (o := 1) (ownL_setCell (o := 0) HOL0 HZ2b.out (by decide) (.slice A1 1 c1)) (HZ2b.out.set 0 (.slice A1 1 c1)) (by decide) (.int .i64 v))
    have HBF := Lib.hid ((HB2.out.setCell (p := ⟨b6, 0, none⟩) (by rw [HB6.out]; exact Nat.le_refl _) (.slice A1 1 c1)).setCell (p := ⟨b6, 1, none⟩) (by rw [HB6.out]; exact Nat.le_refl _) (.int .i64 v))
    clear HOL0
    go_wp2_with fail
    have q0 := HQ.out.cell 0; have q1 := HQ.out.cell 1
    simp only [List.set_cons_zero, List.set_cons_succ, List.getElem?_cons_zero, List.getElem?_cons_succ] at q0 q1
    refine bodyPost_ret (v := .agg #[.slice A1 1 c1, .int .i64 v]) (by simp [results, Try.results10, go_sem, q0, q1]) rfl ?_
    rw [HPL2.out]
    exact ⟨A1, c1, rfl, HOL.out, HBF.out⟩
  | false =>
    have HPL2 := Lib.hid (show ptL a name = [(⟨#[97]⟩, a), (nameB, name)] by rw [HPL.out, hn]; rfl)
    have hal := (Below.refl w2.heap.size w2).alloc (Nat.le_refl _) (.cells #[.string ⟨#[110, 97, 109, 101]⟩, .string name] 53)
    have HO2 := Lib.hid (own_below HO.out hal (Nat.le_refl _))
    have HB3 := Lib.hid (HB2.out.trans (hal.mono HB2.out.size))
    have HZ3 := Lib.hid (HZ2b.out.below hal HZ2b.out.lt)
    have HX2 := Lib.hid ((Blk.mk (heap_alloc_new w2 (.cells #[.string ⟨#[110, 97, 109, 101]⟩, .string name] 53)) : Blk _ w2.heap.size 53 [.string ⟨#[110, 97, 109, 101]⟩, .string name]).sees (size := 2) (n := 1) rfl (List.prefix_refl _))
    clear hal HO HB2 HZ2b
    go_wp2_with (at_builtin; refine wpList_append_at rfl (.tmp 17) (.tmp 20) 26 rfl w.heap.size 53 iL (.agg #[.string ⟨#[]⟩, .string ⟨#[]⟩]) 2 32 Try.underlying26 HI.out HZ0.out HZ1.out HZ2.out rfl (by decide) (.slice A1 1 c1) 1 _ rfl HO2.out _ (some ⟨w2.heap.size, 0, none⟩) 1 _ [.string ⟨#[110, 97, 109, 101]⟩, .string name] rfl HX2.out (by intro u hu; simp at hu; rcases hu with rfl | rfl <;> rfl) (by unfold maxLen; omega) (by omega) HB3.out.size ?_)
    intro v2 w4 hown hgr hwh
    have HB4 := Lib.hid (HB3.out.grown hgr HB3.out.size (fun k h => (HO2.out.lt k h).1))
    have HZ4 := Lib.hid (HZ3.out.grown hgr (fun e => by
      have h1 := ptv_ne HO2.out HZ3.out
      exact h1 e.symm))
    obtain ⟨A2, c2, rfl, _, _⟩ := own_slice hown
    have HO4 := Lib.hid hown
    clear hown hgr hwh HX2 HB3 HZ3 HO2
    have y0 := HZ4.out.cell 0; have y1 := HZ4.out.cell 1
    simp only [List.getElem?_cons_zero, List.getElem?_cons_succ] at y0 y1
    have f0 := HZ4.out.frozen 0; have f1 := HZ4.out.frozen 1
    have HQ := Lib.hid ((HZ4.out.set 0 (.slice A2 2 c2)).set 1 (.int .i64 v))
    have HOL0 : OwnL w4 (.slice A2 2 c2) [(⟨#[97]⟩, a), (nameB, name)] := ⟨A2, c2, rfl, own_mono HO4.out (Nat.zero_le _)⟩
    have HOL := Lib.hid (ownL_setCell (o := 1) (ownL_setCell (o := 0) HOL0 HZ4.out (by decide) (.slice A2 2 c2)) (HZ4.out.set 0 (.slice A2 2 c2)) (by decide) (.int .i64 v))
    have HBF := Lib.hid ((HB4.out.setCell (p := ⟨b6, 0, none⟩) (by rw [HB6.out]; exact Nat.le_refl _) (.slice A2 2 c2)).setCell (p := ⟨b6, 1, none⟩) (by rw [HB6.out]; exact Nat.le_refl _) (.int .i64 v))
    clear HOL0
    go_wp2_with fail
    have q0 := HQ.out.cell 0; have q1 := HQ.out.cell 1
    simp only [List.set_cons_zero, List.set_cons_succ, List.getElem?_cons_zero, List.getElem?_cons_succ] at q0 q1
    refine bodyPost_ret (v := .agg #[.slice A2 2 c2, .int .i64 v]) (by simp [results, Try.results10, go_sem, q0, q1]) rfl ?_
    rw [HPL2.out]
    exact ⟨A2, c2, rfl, HOL.out, HBF.out⟩
end Go.Proofs.Ytbndmmfpoljeaaa

namespace Go.Proofs.Ytbndmmfpoljeaaa
open Go.ChangeShapes Go.WideShapes Go.ChangeAt Go.RowKit
set_option linter.unusedVariables false
set_option linter.unusedSimpArgs false
set_option maxRecDepth 100000
set_option maxHeartbeats 2000000 in
theorem same1_any (A B : Option Addr) (n c m d : Nat) (l k : List Lbl) (x y : Int) (w : World) (h : Sees w w.heap.size 2 A n (lbls l)) (h2 : Sees w w.heap.size 2 B m (lbls k)) (hn : n ≤ 9223372036854775807) (hm : m ≤ 9223372036854775807) :
    Calls Try.prog 39 #[.agg #[.slice A n c, .int .i64 x], .agg #[.slice B m d, .int .i64 y]] w fun e w' => e = .returned (.bool (decide ((l, x) = (k, y)))) ∧ Below w.heap.size w w' := by
  have hb : Below w.heap.size w ((w.alloc (.cells #[.slice A n c, .int .i64 x] 28)).alloc (.cells #[.slice B m d, .int .i64 y] 28)) := ((Below.refl _ _).alloc (Nat.le_refl _) _).alloc (by simp) _
  have hsz : (w.alloc (.cells #[.slice A n c, .int .i64 x] 28)).heap.size = w.heap.size + 1 := by simp
  have HX := Lib.hid ((Blk.mk (heap_alloc_new w (.cells #[.slice A n c, .int .i64 x] 28)) : Blk _ w.heap.size 28 [.slice A n c, .int .i64 x]).alloc (.cells #[.slice B m d, .int .i64 y] 28))
  have HY := Lib.hid (show Blk ((w.alloc (.cells #[.slice A n c, .int .i64 x] 28)).alloc (.cells #[.slice B m d, .int .i64 y] 28)) (w.heap.size + 1) 28 [.slice B m d, .int .i64 y] from by have hh := (Blk.mk (heap_alloc_new (w.alloc (.cells #[.slice A n c, .int .i64 x] 28)) (.cells #[.slice B m d, .int .i64 y] 28)) : Blk _ (w.alloc (.cells #[.slice A n c, .int .i64 x] 28)).heap.size 28 [.slice B m d, .int .i64 y]); rw [hsz] at hh; exact hh)
  have HB := Lib.hid hb
  have HE := Lib.hid (fun V (hV : Below w.heap.size w V) => equal_lbl A B n c m d _ _ l k V (h.below hV) (h2.below hV) hn hm)
  obtain ⟨ans, hans⟩ : ∃ a, decide ((l, x) = (k, y)) = a := ⟨_, rfl⟩
  have HA := Lib.hid hans
  rw [hans]
  clear h h2 hb hsz hans
  go_enter Try.func39, Try.ntmps39
  go_upto_region 1 with fail
  obtain ⟨b1, hb1⟩ : ∃ b, w.heap.size = b := ⟨_, rfl⟩
  obtain ⟨b2, hb2⟩ : ∃ b, w.heap.size + 1 = b := ⟨_, rfl⟩
  obtain ⟨W1, hW1⟩ : ∃ W, (w.alloc (.cells #[.slice A n c, .int .i64 x] 28)).alloc (.cells #[.slice B m d, .int .i64 y] 28) = W := ⟨_, rfl⟩
  rw [hW1] at HX HY HB
  have HX1 := Lib.hid (hb1 ▸ HX.out)
  have HY1 := Lib.hid (hb2 ▸ HY.out)
  rw [hW1, hb2, hb1]
  clear hW1 hb2 HX HY
  have x0 := HX1.out.cell 0; have x1 := HX1.out.cell 1
  have y0 := HY1.out.cell 0; have y1 := HY1.out.cell 1
  simp only [List.getElem?_cons_zero, List.getElem?_cons_succ] at x0 x1 y0 y1
  by_cases hxy : x = y
  · have t : (x == y) = true := by simp [hxy]
    have HC := Lib.hid (HE.out W1 HB.out)
    have HAN : Hid (ans = decide (l = k)) := Lib.hid (by rw [← HA.out]; simp [hxy])
    clear HA hxy HE
    go_wp2_with fail
    (with_reducible refine HC.out.mono ?_); rintro e w2 ⟨rfl, q, rfl⟩
    have HB2 := Lib.hid (show Below w.heap.size w (W1.drewN q) from below_drewN3 HB.out q)
    clear HC x0 x1 y0 y1
    go_wp2_with fail
    go_ret
    exact ⟨by rw [HAN.out]; rfl, HB2.out⟩
  · have t : (x == y) = false := by simp [hxy]
    have HAN : Hid (ans = false) := Lib.hid (by rw [← HA.out]; simp [hxy])
    clear HA hxy HE
    go_wp2_with fail
    go_ret
    exact ⟨by rw [HAN.out]; rfl, HB.out⟩
set_option maxHeartbeats 4000000 in
theorem equalFunc_any (b1 b2 : Nat) (A A2 : Option Addr) (c c2 : Nat) (r1 r2 : List PtR) (w : World) (h1 : PtsAt b1 (.slice A r1.length c) r1 w) (h2 : PtsAt b2 (.slice A2 r2.length c2) r2 w) :
    Calls Try.prog 38 #[.slice A r1.length c, .slice A2 r2.length c2, .func (.func 39) #[] #[]] w fun e w' => e = .returned (.bool (decide (ptsOf r1 = ptsOf r2))) ∧ Below w.heap.size w w' := by
  have H1 : Hid (∀ V, Below w.heap.size w V → PtsAt b1 (.slice A r1.length c) r1 V) := Lib.hid fun V hV => h1.below hV
  have H2 : Hid (∀ V, Below w.heap.size w V → PtsAt b2 (.slice A2 r2.length c2) r2 V) := Lib.hid fun V hV => h2.below hV
  obtain ⟨Ax, cx, e1, hc1, hm1⟩ := own_slice h1.own
  injection e1 with eA _ ec
  obtain ⟨Ay, cy, e1, hc2, hm2⟩ := own_slice h2.own
  injection e1 with eB _ ed
  rw [← ec] at hc1 hm1
  rw [← ed] at hc2 hm2
  clear eA ec eB ed
  clear h1 h2
  obtain ⟨ans, hans⟩ : ∃ a, decide (ptsOf r1 = ptsOf r2) = a := ⟨_, rfl⟩
  rw [hans]
  have HANS := Lib.hid hans
  clear hans
  obtain ⟨n, hn⟩ : ∃ n, r1.length = n := ⟨_, rfl⟩
  obtain ⟨n2, hn2⟩ : ∃ n, r2.length = n := ⟨_, rfl⟩
  have HN := Lib.hid hn; have HN2 := Lib.hid hn2
  rw [hn] at H1 hc1 ⊢
  rw [hn2] at H2 hc2 ⊢
  clear hn hn2
  go_enter Try.func38, Try.ntmps38
  by_cases hnn : n = n2
  · subst hnn
    go_wp2_with fail
    go_loopg [17] n (fun gg x17 wr => ∃ k : Nat, k + gg = n ∧ x17 = .int .i64 k ∧ (ptsOf r1).take k = (ptsOf r2).take k ∧ Below w.heap.size w wr)
    case atStart => exact ⟨0, by omega, rfl, by simp, Below.refl _ _⟩
    case round =>
      obtain ⟨k, hkg, rfl, htk, hbel⟩ := hrel
      have HT := Lib.hid htk; have HB := Lib.hid hbel
      clear htk hbel
      cases gk with
      | zero =>
        obtain rfl : k = n := by omega
        have HR : Hid (ans = true) := Lib.hid (by
          rw [← HANS.out]
          refine decide_eq_true ?_
          have h := HT.out
          rwa [List.take_of_length_le (by rw [ptsOf_len, HN.out]; exact Nat.le_refl _), List.take_of_length_le (by rw [ptsOf_len, HN2.out]; exact Nat.le_refl _)] at h)
        go_wp2_with fail
        go_ret
        exact ⟨by rw [HR.out]; try rfl, HB.out⟩
      | succ gg =>
        have hlt : k < n := by omega
        have hk1 : k < r1.length := by rw [HN.out]; exact hlt
        have hk2 : k < r2.length := by rw [HN2.out]; exact hlt
        obtain ⟨ad, hA, a0, a1, la⟩ := (H1.out _ HB.out).get2 hk1
        obtain ⟨ad2, hA2, b0, b1, lb⟩ := (H2.out _ HB.out).get2 hk2
        subst hA; subst hA2
        have HTK := Lib.hid (show (ptsOf r1).take (k + 1) = (ptsOf r1).take k ++ [(r1[k].set, r1[k].val)] by rw [List.take_succ_eq_append_getElem (by rw [ptsOf_len]; exact hk1), ptsOf_get hk1])
        have HTK2 := Lib.hid (show (ptsOf r2).take (k + 1) = (ptsOf r2).take k ++ [(r2[k].set, r2[k].val)] by rw [List.take_succ_eq_append_getElem (by rw [ptsOf_len]; exact hk2), ptsOf_get hk2])
        have HNE : Hid ((r1[k].set, r1[k].val) ≠ (r2[k].set, r2[k].val) → ans = false) := Lib.hid fun hne => by
          rw [← HANS.out]
          refine decide_eq_false fun e => hne ?_
          have h1 := ptsOf_get hk1; have h2 := ptsOf_get hk2
          rw [← h1, ← h2]; congr 1
        generalize r1[k] = p at *
        generalize r2[k] = q at *
        obtain ⟨psv, pl, pv⟩ := p
        obtain ⟨qsv, ql, qv⟩ := q
        simp only at a0 a1 b0 b1 la lb HNE
        obtain ⟨B1, d1, rfl, hs1, _, _⟩ := la
        obtain ⟨B2, d2, rfl, hs2, _, _⟩ := lb
        obtain ⟨pn, hpn⟩ : ∃ n, pl.length = n := ⟨_, rfl⟩
        obtain ⟨qn, hqn⟩ : ∃ n, ql.length = n := ⟨_, rfl⟩
        rw [hpn] at a0 hs1
        rw [hqn] at b0 hs2
        have hpn2 : pn ≤ 9223372036854775807 := by omega
        have hqn2 : qn ≤ 9223372036854775807 := by omega
        have hb2 : Below wr.heap.size wr ((wr.alloc (.cells #[.slice B1 pn d1, .int .i64 pv] 28)).alloc (.cells #[.slice B2 qn d2, .int .i64 qv] 28)) := ((Below.refl _ _).alloc (Nat.le_refl _) _).alloc (by simp) _
        have hsz : (wr.alloc (.cells #[.slice B1 pn d1, .int .i64 pv] 28)).heap.size = wr.heap.size + 1 := by simp
        have HX := Lib.hid ((Blk.mk (heap_alloc_new wr (.cells #[.slice B1 pn d1, .int .i64 pv] 28)) : Blk _ wr.heap.size 28 [.slice B1 pn d1, .int .i64 pv]).alloc (.cells #[.slice B2 qn d2, .int .i64 qv] 28))
        have HY := Lib.hid (show Blk ((wr.alloc (.cells #[.slice B1 pn d1, .int .i64 pv] 28)).alloc (.cells #[.slice B2 qn d2, .int .i64 qv] 28)) (wr.heap.size + 1) 28 [.slice B2 qn d2, .int .i64 qv] from by have hh := (Blk.mk (heap_alloc_new (wr.alloc (.cells #[.slice B1 pn d1, .int .i64 pv] 28)) (.cells #[.slice B2 qn d2, .int .i64 qv] 28)) : Blk _ (wr.alloc (.cells #[.slice B1 pn d1, .int .i64 pv] 28)).heap.size 28 [.slice B2 qn d2, .int .i64 qv]); rw [hsz] at hh; exact hh)
        have HC := Lib.hid (same1_any B1 B2 pn d1 qn d2 pl ql pv qv ((wr.alloc (.cells #[.slice B1 pn d1, .int .i64 pv] 28)).alloc (.cells #[.slice B2 qn d2, .int .i64 qv] 28)) ((hs1.below hb2).more hb2.size) ((hs2.below hb2).more hb2.size) hpn2 hqn2)
        have HB2 := Lib.hid (HB.out.trans (hb2.mono HB.out.size))
        have b0' := ((Below.refl wr.heap.size wr).alloc (Nat.le_refl _) (.cells #[.slice B1 pn d1, .int .i64 pv] 28)).cell (World.block_lt_of_cell? wr _ b0)
        have b1' := ((Below.refl wr.heap.size wr).alloc (Nat.le_refl _) (.cells #[.slice B1 pn d1, .int .i64 pv] 28)).cell (World.block_lt_of_cell? wr _ b1)
        rw [b0] at b0'
        rw [b1] at b1'
        clear hs1 hs2 hb2 HB hsz hpn hqn
        go_upto_region 7 with fail
        obtain ⟨bx, hbx⟩ : ∃ b, wr.heap.size = b := ⟨_, rfl⟩
        obtain ⟨bxx, hbxx⟩ : ∃ b, wr.heap.size + 1 = b := ⟨_, rfl⟩
        obtain ⟨W1, hW1⟩ : ∃ W, (wr.alloc (.cells #[.slice B1 pn d1, .int .i64 pv] 28)).alloc (.cells #[.slice B2 qn d2, .int .i64 qv] 28) = W := ⟨_, rfl⟩
        rw [hW1] at HX HY HC HB2
        rw [hbx] at HX
        rw [hbxx] at HY
        try rw [hW1]
        try rw [hbxx]
        try rw [hbx]
        clear hW1 hbx hbxx a0 a1 b0 b1 b0' b1'
        have x0 := HX.out.cell 0; have x1 := HX.out.cell 1
        have y0 := HY.out.cell 0; have y1 := HY.out.cell 1
        simp only [List.getElem?_cons_zero, List.getElem?_cons_succ] at x0 x1 y0 y1
        go_wp2_with fail
        (with_reducible refine HC.out.mono ?_); rintro e w3 ⟨rfl, hb3⟩
        have HB3 := Lib.hid (HB2.out.trans (hb3.mono HB2.out.size))
        clear hb3 HC x0 x1 y0 y1 HX HY
        cases hq : decide ((pl, pv) = (ql, qv)) with
        | true =>
          have HN3 := Lib.hid (show (ptsOf r1).take (k + 1) = (ptsOf r2).take (k + 1) by rw [HTK.out, HTK2.out, HT.out, of_decide_eq_true hq])
          clear hq HNE
          go_wp2_with fail
          go_roundg gg
          case measure => omega
          case rel => exact ⟨k + 1, by omega, by first | rfl | go_num, HN3.out, HB3.out⟩
        | false =>
          have HR := Lib.hid (HNE.out (of_decide_eq_false hq))
          clear hq HNE
          go_wp2_with fail
          go_ret
          exact ⟨by rw [HR.out]; try rfl, HB3.out⟩
  · have hz : (n != n2) = true := by simp [hnn]
    have hz2 : (n == n2) = false := by simp [hnn]
    have hz3 : ((n : Int) != (n2 : Int)) = true := by simp; omega
    have hz4 : ((n : Int) == (n2 : Int)) = false := by simp; omega
    have HR : Hid (ans = false) := Lib.hid (by
      rw [← HANS.out]
      refine decide_eq_false fun e => hnn ?_
      have := congrArg List.length e
      rwa [ptsOf_len, ptsOf_len, HN.out, HN2.out] at this)
    have HB0 := Lib.hid (Below.refl w.heap.size w)
    go_wp2_with fail
    go_ret
    exact ⟨by rw [HR.out]; try rfl, HB0.out⟩
theorem sameV_any (b1 b2 : Nat) (A A2 : Option Addr) (c c2 : Nat) (r1 r2 : List PtR) (w : World) (h1 : PtsAt b1 (.slice A r1.length c) r1 w) (h2 : PtsAt b2 (.slice A2 r2.length c2) r2 w) :
    Calls Try.prog 13 #[.slice A r1.length c, .slice A2 r2.length c2] w fun e w' => e = .returned (.bool (decide (ptsOf r1 = ptsOf r2))) ∧ Below w.heap.size w w' := by
  have HC := Lib.hid (equalFunc_any b1 b2 A A2 c c2 r1 r2 w h1 h2)
  obtain ⟨ans, hans⟩ : ∃ a, decide (ptsOf r1 = ptsOf r2) = a := ⟨_, rfl⟩
  rw [hans] at HC ⊢
  clear h1 h2 hans
  generalize r1.length = n at *
  generalize r2.length = n2 at *
  go_enter Try.func13, Try.ntmps13
  go_wp2_with fail
  (with_reducible refine HC.out.mono ?_); rintro e w2 ⟨rfl, hb⟩
  have HB := Lib.hid hb
  clear hb HC
  go_wp2_with fail
  go_ret
  exact ⟨rfl, HB.out⟩
end Go.Proofs.Ytbndmmfpoljeaaa

namespace Go.Proofs.Ytbndmmfpoljeaaa
open Go.RowKit Go.Maps
set_option linter.unusedVariables false
set_option maxRecDepth 100000
theorem keyedS : Keyed Try.prog 9 := string_keyed Try.underlying9
theorem zeroBS (w : World) : (zeroValue 4).run Try.prog w = .ok (.bool false) w := by kernel_rfl
theorem keyS {t : ByteArray} (h : t.size ≤ maxLen) : keyOf Try.prog 9 (.string t) = some (.string t.data.toList) := Go.WideMaps.keyOf_string_mk Try.underlying9 h
/-- Block b is a map that answers f, of n entries at most. -/
def SMap (w : World) (b n : Nat) (f : List UInt8 → Bool) : Prop :=
  ∃ D : DataW Unit, w.ownsMap Try.prog 9 (plainElem Try.prog 4) b n D ∧ IsMap D ∧ ∀ t : List UInt8, D.atKey (.string t) (.lit (.bool false)) = .lit (.bool (f t))
theorem SMap.made (w : World) : SMap (w.alloc (.map #[] 0)) w.heap.size 0 (fun _ => false) :=
  ⟨.map [], World.ownsMap_made _ _ _ _, ⟨[], rfl⟩, fun t => rfl⟩
theorem SMap.lt {w : World} {b n : Nat} {f : List UInt8 → Bool} (h : SMap w b n f) : b < w.heap.size := by obtain ⟨D, h, _⟩ := h; exact h.lt
theorem SMap.kept {w w' : World} {b n : Nat} {f : List UInt8 → Bool} {row : Option Nat} (h : SMap w b n f) (hg : w.grownBy w' row) (hne : some b ≠ row) : SMap w' b n f := by
  obtain ⟨D, h, h2⟩ := h; exact ⟨D, h.kept hg hne, h2⟩
theorem SMap.below {w w' : World} {b n : Nat} {f : List UInt8 → Bool} (h : SMap w b n f) (hb : Below w.heap.size w w') : SMap w' b n f :=
  h.kept (row := none) ⟨hb.os, hb.tape, hb.output, hb.size, fun i hi _ => hb.block i hi⟩ (by simp)
theorem SMap.drewN {w : World} {b n : Nat} {f : List UInt8 → Bool} (h : SMap w b n f) (m : Nat) : SMap (w.drewN m) b n f := h
theorem SMap.look {w : World} {b n : Nat} {f : List UInt8 → Bool} (h : SMap w b n f) {t : ByteArray} (ht : t.size ≤ maxLen) : (Instr.lookup 71 (.map (some b)) (.string t) false).run Try.prog w = .ok (.bool (f t.data.toList)) w := by
  obtain ⟨D, h, _, hf⟩ := h
  obtain ⟨v, ps, hrun, hv⟩ := h.lookup keyedS Try.underlying71 (zeroBS w) (plainElem_bool Try.underlying4 false) (keyS ht)
  rw [hf] at hv
  have : v = .bool (f t.data.toList) := by
    unfold plainElem at hv
    rw [Try.underlying4] at hv
    cases v <;> simp at hv
    rw [hv.1]
  rw [this] at hrun; exact hrun
theorem SMap.put {w : World} {b n : Nat} {f : List UInt8 → Bool} (h : SMap w b n f) (hn : n < 1000000) {t : ByteArray} (ht : t.size ≤ maxLen) :
    ∃ w', (Instr.mapUpdate 71 (.map (some b)) (.string t) (.bool true)).run Try.prog w = .ok () w' ∧ SMap w' b (n + 1) (fun x => x == t.data.toList || f x) ∧ w.grownBy w' (some b) := by
  obtain ⟨D, h, hm, hf⟩ := h
  obtain ⟨w', hrun, h2, h3⟩ := h.update keyedS Try.underlying71 (by unfold maxLen; omega) (keyS ht) (plainElem_bool Try.underlying4 true)
  refine ⟨w', hrun, ⟨_, h2, hm.put _ _, fun x => ?_⟩, h3⟩
  by_cases hx : x = t.data.toList
  · subst hx
    rw [atKey_put_same (k := .string t.data.toList) hm (show WideAt.IsKeyLit (.string t.data.toList) from trivial)]
    simp
  · rw [atKey_put_other (by intro e; injection e with e; exact hx e), hf]
    have : (x == t.data.toList) = false := by simpa using hx
    show DataW.lit (Lit.bool (f x)) = DataW.lit (Lit.bool (x == t.data.toList || f x))
    rw [this, Bool.false_or]
theorem wpList_put_smap {P : Program} {w : World} {ops : Array Oper} {rest : List Oper} {o : Oper} {a : Act} {Q : Exit → Act → World → Prop} (hg : o.guard = none) (m x v : Operand) (t : TypeId) (hop : o.op = Op.mapUpdate t m x v)
    (vm vx vv : Value) (hm : a.eval m = vm) (hx : a.eval x = vx) (hv : a.eval v = vv) (w' : World) (hrun : (Instr.mapUpdate t vm vx vv).run P w = .ok () w') (hK : wpList P ops Q rest (a.put o.dst undef) w') : wpList P ops Q (o :: rest) a w := by
  refine wpList_plain hg fun K' hK' => ?_
  unfold Oper.wp
  simp [execOp, hop, hm, hx, hv, hrun, Result.andThen]
  exact hK' _ _ hK
/-- Block b is a map that answers f, of m keys, put in at most n times; each key answers true. -/
def SSet (w : World) (b n : Nat) (f : List UInt8 → Bool) (m : Nat) : Prop :=
  ∃ D : DataW Unit, w.ownsMap Try.prog 9 (plainElem Try.prog 4) b n D ∧ Tidy D ∧ (∀ t : List UInt8, D.atKey (.string t) (.lit (.bool false)) = .lit (.bool (f t))) ∧ (∀ t : List UInt8, has D (.string t) = f t) ∧ size D = m
theorem SSet.smap {w : World} {b n m : Nat} {f : List UInt8 → Bool} (h : SSet w b n f m) : SMap w b n f := by
  obtain ⟨D, h1, h2, h3, _⟩ := h; exact ⟨D, h1, h2.isMap, h3⟩
theorem SSet.made (w : World) : SSet (w.alloc (.map #[] 0)) w.heap.size 0 (fun _ => false) 0 :=
  ⟨.map [], World.ownsMap_made _ _ _ _, tidy_empty, fun t => rfl, fun t => rfl, rfl⟩
theorem SSet.lt {w : World} {b n m : Nat} {f : List UInt8 → Bool} (h : SSet w b n f m) : b < w.heap.size := h.smap.lt
theorem SSet.kept {w w' : World} {b n m : Nat} {f : List UInt8 → Bool} {row : Option Nat} (h : SSet w b n f m) (hg : w.grownBy w' row) (hne : some b ≠ row) : SSet w' b n f m := by
  obtain ⟨D, h, h2⟩ := h; exact ⟨D, h.kept hg hne, h2⟩
theorem SSet.below {w w' : World} {b n m : Nat} {f : List UInt8 → Bool} (h : SSet w b n f m) (hb : Below w.heap.size w w') : SSet w' b n f m :=
  h.kept (row := none) ⟨hb.os, hb.tape, hb.output, hb.size, fun i hi _ => hb.block i hi⟩ (by simp)
theorem SSet.put {w : World} {b n m : Nat} {f : List UInt8 → Bool} (h : SSet w b n f m) (hn : n < 1000000) {t : ByteArray} (ht : t.size ≤ maxLen) :
    ∃ w', (Instr.mapUpdate 71 (.map (some b)) (.string t) (.bool true)).run Try.prog w = .ok () w' ∧ SSet w' b (n + 1) (fun x => x == t.data.toList || f x) (if f t.data.toList = true then m else m + 1) ∧ w.grownBy w' (some b) := by
  obtain ⟨D, h, hm, hf, hh, hsz⟩ := h
  obtain ⟨w', hrun, h2, h3⟩ := h.update keyedS Try.underlying71 (by unfold maxLen; omega) (keyS ht) (plainElem_bool Try.underlying4 true)
  refine ⟨w', hrun, ⟨_, h2, hm.put (show WideAt.IsKeyLit (.string t.data.toList) from trivial) _, fun x => ?_, fun x => ?_, ?_⟩, h3⟩
  · by_cases hx : x = t.data.toList
    · subst hx
      rw [atKey_put_same (k := .string t.data.toList) hm.isMap (show WideAt.IsKeyLit (.string t.data.toList) from trivial)]
      simp
    · rw [atKey_put_other (by intro e; injection e with e; exact hx e), hf]
      have : (x == t.data.toList) = false := by simpa using hx
      show DataW.lit (Lit.bool (f x)) = DataW.lit (Lit.bool (x == t.data.toList || f x))
      rw [this, Bool.false_or]
  · by_cases hx : x = t.data.toList
    · subst hx
      rw [has_put_same hm.isMap (show WideAt.IsKeyLit (.string t.data.toList) from trivial)]
      simp
    · rw [has_put_other (by intro e; injection e with e; exact hx e), hh]
      have : (x == t.data.toList) = false := by simpa using hx
      show f x = (x == t.data.toList || f x)
      rw [this, Bool.false_or]
  · rw [size_put hm, hh, hsz]
theorem wpList_len_sset {w : World} {ops : Array Oper} {rest : List Oper} {o : Oper} {a : Act} {Q : Exit → Act → World → Prop} (hg : o.guard = none) (mo : Operand)
    (hop : o.op = Op.call { callee := Callee.builtin Builtin.len, args := #[mo], argTypes := #[71] }) (b n m : Nat) (f : List UInt8 → Bool) (hm : a.eval mo = .map (some b)) (h : SSet w b n f m)
    (hK : wpList Try.prog ops Q rest (a.put o.dst (.int .i64 m)) w) : wpList Try.prog ops Q (o :: rest) a w := by
  obtain ⟨D, h1, _, _, _, hsz⟩ := h
  exact wpList_len_own w hg mo _ hop _ _ Try.underlying71 _ b n D hm h1 (by rw [hsz]; exact hK)
end Go.Proofs.Ytbndmmfpoljeaaa

namespace Go.Proofs.Ytbndmmfpoljeaaa
open Go.ChangeShapes Go.WideShapes Go.ChangeAt Go.RowKit
set_option linter.unusedVariables false
set_option linter.unusedSimpArgs false
set_option maxRecDepth 100000
theorem own_type {w : World} {base k : Nat} {e : TypeId} {size n : Nat} {v : Value} {xs : List Value} (h : w.ownsRow base e size v n xs) (hv : v.ownBlock = some k) : ∃ cs f, w.heap[k]? = some (.cells cs e f) := by
  rcases h.2 with ⟨rfl, _⟩ | ⟨g, cap, cur, rfl, _, hh, _⟩
  · simp [Value.ownBlock] at hv
  · simp [Value.ownBlock] at hv; subst hv; exact ⟨_, _, hh⟩
theorem own_same {w w' : World} {base : Nat} {e : TypeId} {size n : Nat} {v : Value} {xs : List Value} (h : w.ownsRow base e size v n xs) (hk : ∀ k, v.ownBlock = some k → k < w.heap.size → w'.heap[k]? = w.heap[k]?) : w'.ownsRow base e size v n xs := by
  refine ⟨h.1, ?_⟩
  rcases h.2 with h2 | ⟨g, cap, cur, rfl, hb, hh, rest⟩
  · exact .inl h2
  · exact .inr ⟨g, cap, cur, rfl, hb, (hk g rfl (Array.getElem?_eq_some_iff.1 hh).1).trans hh, rest⟩
theorem SMap.kind {w : World} {b n : Nat} {f : List UInt8 → Bool} (h : SMap w b n f) : ∀ (cs : Array Value) (t : TypeId) (q : Nat × Nat), w.heap[b]? ≠ some (Obj.cells cs t q) := by
  obtain ⟨D, ⟨es, clock, h1, F, hs, hD⟩, h2⟩ := h
  intro cs t q e
  rw [h1] at e; cases e
theorem SMap.ne_own {w : World} {b n base : Nat} {f : List UInt8 → Bool} {e : TypeId} {s m : Nat} {u : Value} {xs : List Value} (h : SMap w b n f) (ho : w.ownsRow base e s u m xs) : u.ownBlock ≠ some b := fun hu => by
  obtain ⟨cs, q, e1⟩ := own_type ho hu
  exact h.kind _ _ _ e1
theorem SMap.ne_blk {w : World} {b n g : Nat} {f : List UInt8 → Bool} {t : TypeId} {cs : List Value} (h : SMap w b n f) (hk : Blk w g t cs) : g ≠ b := fun e => by
  subst e; exact h.kind _ _ _ hk.eq
theorem SMap.widen {w : World} {b n m : Nat} {f : List UInt8 → Bool} (h : SMap w b n f) (hm : n ≤ m) : SMap w b m f := by
  obtain ⟨D, ⟨es, clock, h1, F, hs, hD⟩, h2⟩ := h
  exact ⟨D, ⟨es, clock, h1, F, by omega, hD⟩, h2⟩
def keyOne (x : Lbl) : List UInt8 := x.1.data.toList ++ 61 :: (x.2.data.toList ++ [59])
def keyOfL (l : List Lbl) : List UInt8 := l.flatMap keyOne
theorem keyOfL_more {l : List Lbl} {j : Nat} (h : j < l.length) : keyOfL (l.take (j + 1)) = keyOfL (l.take j) ++ keyOne l[j] := by
  unfold keyOfL; rw [List.take_succ_eq_append_getElem h, List.flatMap_append]; simp
def metF (M : List (List Lbl)) (t : List UInt8) : Bool := M.any fun s => keyOfL s == t
theorem metF_cons (l : List Lbl) (M : List (List Lbl)) : metF (l :: M) = fun x => x == keyOfL l || metF M x := by
  funext x; unfold metF; rw [List.any_cons, BEq.comm]
def AKSetsF (w : World) (B : Nat) (A : Option Addr) (qs : List KSet) : Prop :=
  ∀ i (h : i < qs.length), ∃ ad, A = some ad ∧ ad.block < B ∧ w.cell? (ad.add (i * 2)) = some (.slice qs[i].A qs[i].n qs[i].c) ∧ w.cell? ⟨(ad.add (i * 2)).block, (ad.add (i * 2)).off + 1, none⟩ = some (.slice qs[i].A2 qs[i].n2 qs[i].c2) ∧ qs[i].ok B w
theorem AKSetsF.below {w w' : World} {B : Nat} {A : Option Addr} {qs : List KSet} (h : AKSetsF w B A qs) (hb : Below B w w') : AKSetsF w' B A qs := fun i hi => by
  obtain ⟨ad, e, hB, c0, c1, hk⟩ := h i hi
  have hb2 : ∀ o, w'.cell? ⟨(ad.add (i * 2)).block, o, none⟩ = w.cell? ⟨(ad.add (i * 2)).block, o, none⟩ := fun o => hb.cell (p := ⟨_, o, none⟩) (by rw [add_block]; exact hB)
  exact ⟨ad, e, hB, (hb.cell (by rw [add_block]; exact hB)).trans c0, (hb2 _).trans c1, hk.below hb⟩
def SetO (B : Nat) (l : List Lbl) (x : Value) (W : World) : Prop := ∃ A c, x = .slice A l.length c ∧ W.ownsRow B 53 2 (.slice A l.length c) l.length (lbls l)
theorem conv_b (w : World) (x : Int) (c : UInt8) (hc : x = c.toNat) : (convert 76 9 (.slice (some ⟨w.heap.size, 0, none⟩) 1 1)).run Try.prog (w.alloc (.cells #[.int .u8 x] 5)) = .ok (.string ⟨#[c]⟩) (w.alloc (.cells #[.int .u8 x] 5)) := by
  have hb : Blk (w.alloc (.cells #[.int .u8 x] 5)) w.heap.size 5 [.int .u8 x] := Blk.mk (heap_alloc_new w _)
  refine run_convert_bytes_back _ 76 9 5 ⟨w.heap.size, 0, none⟩ 1 [c] Try.underlying76 Try.underlying5 Try.underlying9 fun j hj => ?_
  have hj0 : j = 0 := by simpa using hj
  subst hj0
  rw [add_zero', hb.cell 0]
  simp only [List.getElem?_cons_zero, List.getElem_cons_zero, hc]
end Go.Proofs.Ytbndmmfpoljeaaa

namespace Go.Proofs.Ytbndmmfpoljeaaa
open Go.ChangeShapes Go.WideShapes Go.ChangeAt Go.RowKit
set_option linter.unusedVariables false
set_option linter.unusedSimpArgs false
set_option maxRecDepth 100000
/-- Numbers of which a vector is made. -/
structure KVec where
  A : Option Addr
  c : Nat
  qs : List KSet
  A2 : Option Addr
  n2 : Nat
  c2 : Nat
  zs : List Int
def KVec.val (k : KVec) : Value := .agg #[.slice k.A k.qs.length k.c, .slice k.A2 k.n2 k.c2]
structure KVec.ok (k : KVec) (B : Nat) (w : World) : Prop where
  sets : AKSetsF w B k.A k.qs
  nums : Sees w B 1 k.A2 k.n2 (ints k.zs)
  i64 : ∀ z ∈ k.zs, I64 z
  n1 : k.qs.length ≤ k.c ∧ k.c ≤ 9223372036854775807
  n2_ : k.n2 ≤ k.c2 ∧ k.c2 ≤ 9223372036854775807
theorem KVec.ok.below {k : KVec} {B : Nat} {w w' : World} (h : k.ok B w) (hb : Below B w w') : k.ok B w' := ⟨h.sets.below hb, h.nums.below hb, h.i64, h.n1, h.n2_⟩
def vName (v : Int) : Lbl := (⟨#[110, 97, 109, 101]⟩, ⟨#[UInt8.ofNat (109 + (nWithin (v.tdiv 2) 0 2).toNat)]⟩)
def vSet (q : KSet) (v : Int) : List Lbl := setF q ++ (if lowBit v = true then [vName v] else [])
def vSetAt (k : KVec) (i : Nat) : List Lbl := if h : i < k.qs.length then vSet k.qs[i] (pickF k.zs i) else []
def vVal (k : KVec) (i : Nat) : Int := nWithin (pickF k.zs (i + 3)) (-9) 20
def vecUp (k : KVec) : Nat → List (List Lbl) × List Pt
  | 0 => ([], [])
  | i + 1 => if metF (vecUp k i).1 (keyOfL (vSetAt k i)) = true then vecUp k i else (vSetAt k i :: (vecUp k i).1, (vecUp k i).2 ++ [(vSetAt k i, vVal k i)])
/-- The vector of numbers. -/
def vecF (k : KVec) : List Pt := (vecUp k (min k.qs.length 8)).2
theorem vSet_len (q : KSet) (v : Int) : (vSet q v).length ≤ 4 := by
  have := setF_len q; unfold vSet; rw [List.length_append]
  split
  · simp; omega
  · simp; omega
theorem vName_size (v : Int) : (vName v).2.size = 1 := rfl
theorem vSet_right (q : KSet) (v : Int) : rightS (vSet q v) = true := by
  have hw : wordF (⟨#[110, 97, 109, 101]⟩ : ByteArray) = true := by decide
  have h0 := setUp_right q 3 (Nat.le_refl _)
  refine rightS_of (by have := vSet_len q v; omega) (fun x hx => ?_) ?_
  · rcases List.mem_append.1 hx with hx | hx
    · exact h0.2.1 x hx
    · split at hx
      · rw [List.mem_singleton] at hx; subst hx
        unfold lblOk vName
        simp only [hw, Bool.true_and]
        simp [ByteArray.size]
      · cases hx
  · unfold vSet
    rw [List.pairwise_append]
    refine ⟨h0.2.2.1, by split <;> simp, fun a ha b hb => ?_⟩
    split at hb
    · rw [List.mem_singleton] at hb; subst hb
      obtain ⟨i, hi, e⟩ := setF_names q a ha
      rw [e]
      match i, hi with
      | 0, _ => show Op.bytesLess (⟨#[97]⟩ : ByteArray).toList (⟨#[110, 97, 109, 101]⟩ : ByteArray).toList = true; rw [ByteArray.toList_eq, ByteArray.toList_eq]; decide
      | 1, _ => show Op.bytesLess (⟨#[98]⟩ : ByteArray).toList (⟨#[110, 97, 109, 101]⟩ : ByteArray).toList = true; rw [ByteArray.toList_eq, ByteArray.toList_eq]; decide
      | 2, _ => show Op.bytesLess (⟨#[99]⟩ : ByteArray).toList (⟨#[110, 97, 109, 101]⟩ : ByteArray).toList = true; rw [ByteArray.toList_eq, ByteArray.toList_eq]; decide
    · cases hb
theorem vSetAt_right {k : KVec} {i : Nat} (h : i < k.qs.length) : rightS (vSetAt k i) = true ∧ (vSetAt k i).length ≤ 4 := by
  unfold vSetAt; rw [dif_pos h]; exact ⟨vSet_right _ _, vSet_len _ _⟩
/-- What a vector of numbers is like. -/
structure VecOk (ps : List Pt) : Prop where
  right : ∀ p ∈ ps, rightS p.1 = true
  few : ∀ p ∈ ps, p.1.length ≤ 4
  vals : ∀ p ∈ ps, -9 ≤ p.2 ∧ p.2 ≤ 20
  len : ps.length ≤ 8
  apart : ps.Pairwise fun p q => p.1 ≠ q.1
theorem vecUp_inv (k : KVec) : ∀ i, i ≤ k.qs.length → (∀ p ∈ (vecUp k i).2, rightS p.1 = true ∧ p.1.length ≤ 4 ∧ -9 ≤ p.2 ∧ p.2 ≤ 20) ∧ (vecUp k i).2.length ≤ i ∧ (vecUp k i).2.Pairwise (fun p q => p.1 ≠ q.1) ∧ (∀ p ∈ (vecUp k i).2, p.1 ∈ (vecUp k i).1)
  | 0, _ => by simp [vecUp]
  | i + 1, hi => by
    obtain ⟨h1, h2, h3, h4⟩ := vecUp_inv k i (by omega)
    unfold vecUp
    split
    · exact ⟨h1, by omega, h3, h4⟩
    · rename_i hm
      obtain ⟨r1, r2⟩ := vSetAt_right (k := k) (i := i) (by omega)
      obtain ⟨v1, v2⟩ := nWithin_in (pickF k.zs (i + 3)) (lo := -9) (hi := 20) (by omega)
      refine ⟨fun p hp => ?_, by simp; omega, ?_, fun p hp => ?_⟩
      · rcases List.mem_append.1 hp with hp | hp
        · exact h1 p hp
        · rw [List.mem_singleton] at hp; subst hp; exact ⟨r1, r2, v1, v2⟩
      · rw [List.pairwise_append]
        refine ⟨h3, List.pairwise_singleton _ _, fun a ha b hb => ?_⟩
        rw [List.mem_singleton] at hb; subst hb
        intro e
        have h5 := h4 a ha
        apply hm
        unfold metF
        exact List.any_eq_true.2 ⟨a.1, h5, by simp only at e; rw [e]; simp⟩
      · rcases List.mem_append.1 hp with hp | hp
        · exact List.mem_cons_of_mem _ (h4 p hp)
        · rw [List.mem_singleton] at hp; subst hp; exact List.mem_cons_self
theorem vecF_ok (k : KVec) : VecOk (vecF k) := by
  obtain ⟨h1, h2, h3, _⟩ := vecUp_inv k (min k.qs.length 8) (Nat.min_le_left _ _)
  exact ⟨fun p hp => (h1 p hp).1, fun p hp => (h1 p hp).2.1, fun p hp => (h1 p hp).2.2, by unfold vecF; omega, h3⟩
theorem pickF_i64 {zs : List Int} (h : ∀ z ∈ zs, I64 z) (i : Nat) : I64 (pickF zs i) := by
  rw [pickF]; split
  · exact h _ (List.getElem_mem _)
  · unfold I64; omega
theorem blkv_ne {w : World} {base g : Nat} {e t : TypeId} {size n : Nat} {v : Value} {xs cs : List Value} (h : w.ownsRow base e size v n xs) (hb : Blk w g t cs) (he : e ≠ t := by decide) : v.ownBlock ≠ some g := fun hv => by
  obtain ⟨cs2, f, e2⟩ := own_type h hv
  rw [hb.eq] at e2
  injection e2 with e2; injection e2 with _ e2 _
  exact he e2.symm
theorem tdiv2_in (a : Int) : -(9223372036854775808) ≤ a → a ≤ 9223372036854775807 → -(4611686018427387904) ≤ a.tdiv 2 ∧ a.tdiv 2 ≤ 4611686018427387903 := by
  intro h1 h2
  rcases Int.le_total 0 a with h | h
  · rw [Int.tdiv_eq_ediv_of_nonneg h]; omega
  · rw [show a = -(-a) by omega, Int.neg_tdiv, Int.tdiv_eq_ediv_of_nonneg (by omega)]; omega
/-- While a vector is made. -/
structure VkAt (k : KVec) (w0 : World) (kb mb : Nat) (i : Nat) (M : List (List Lbl)) (P : List Pt) (X : Option Addr) (cx : Nat) (rows : List PtR) (W : World) : Prop where
  out : OutAt w0.heap.size (.slice X rows.length cx) rows i P W
  box : Blk W kb 37 [.slice k.A k.qs.length k.c, .slice k.A2 k.n2 k.c2]
  met : SMap W mb i (metF M)
  args : k.ok w0.heap.size W
  bel : Below w0.heap.size w0 W
  mbs : w0.heap.size ≤ mb
section
variable {k : KVec} {w0 W W' : World} {kb mb i cx : Nat} {M : List (List Lbl)} {P : List Pt} {X : Option Addr} {rows : List PtR}
theorem VkAt.below (h : VkAt k w0 kb mb i M P X cx rows W) (hb : Below W.heap.size W W') : VkAt k w0 kb mb i M P X cx rows W' :=
  ⟨h.out.below hb, h.box.below hb h.box.lt, h.met.below hb, h.args.below (hb.mono h.bel.size), h.bel.trans (hb.mono h.bel.size), h.mbs⟩
theorem VkAt.widen (h : VkAt k w0 kb mb i M P X cx rows W) : VkAt k w0 kb mb (i + 1) M P X cx rows W := ⟨h.out.next rfl, h.box, h.met.widen (Nat.le_succ _), h.args, h.bel, h.mbs⟩
theorem VkAt.mapped {f : List (List Lbl)} (h : VkAt k w0 kb mb i M P X cx rows W) (hg : W.grownBy W' (some mb)) (hm : SMap W' mb (i + 1) (metF f)) : OutAt w0.heap.size (.slice X rows.length cx) rows i P W' ∧ Blk W' kb 37 [.slice k.A k.qs.length k.c, .slice k.A2 k.n2 k.c2] ∧ k.ok w0.heap.size W' ∧ Below w0.heap.size w0 W' := by
  have key : ∀ (base s m : Nat) (e : TypeId) (u : Value) (xs : List Value), W.ownsRow base e s u m xs → W'.ownsRow base e s u m xs := fun base s m e u xs ho => own_same ho fun q hq hl => hg.block q hl (fun e => by injection e with e; exact h.met.ne_own ho (by rw [hq, e]))
  have hmb := h.mbs
  refine ⟨⟨⟨key _ _ _ _ _ _ h.out.at_.own, fun x hx => ?_⟩, h.out.len, h.out.sets, h.out.eq⟩, (hg.block kb h.box.lt (fun e => by injection e with e; exact h.met.ne_blk h.box e)).trans h.box, h.args.below ?_, h.bel.grown hg h.bel.size (fun q hq => by injection hq with hq; omega)⟩
  · obtain ⟨A, c, e, ho⟩ := h.out.at_.each x hx
    exact ⟨A, c, e, key _ _ _ _ _ _ ho⟩
  · exact ⟨hg.os, hg.tape, hg.output, hg.size, fun q hq => hg.block q (by have := h.bel.size; omega) (fun e => by injection e with e; omega)⟩
end
set_option maxHeartbeats 8000000 in
theorem vec_any (k : KVec) (w : World) (hk : k.ok w.heap.size w) :
    Calls Try.prog 14 #[k.val] w (PtsAns (vecF k) w) := by
  obtain ⟨iL, hiL, hzL, hsL, hbL⟩ := info_parts Try.infoLabel
  obtain ⟨i0, hi, hz0, hz1, hz2⟩ := info_parts Try.infoPt
  have HIL := Lib.hid hiL; have HZL := Lib.hid hzL; have HSL := Lib.hid hsL; have HBL := Lib.hid hbL
  have HI := Lib.hid hi; have HZ0 := Lib.hid hz0; have HZ1 := Lib.hid hz1; have HZ2 := Lib.hid hz2
  have hn1 := hk.n1; have hn2 := hk.n2_
  have hb1 : Below w.heap.size w (w.alloc (.cells #[.slice k.A k.qs.length k.c, .slice k.A2 k.n2 k.c2] 37)) := (Below.refl _ _).alloc (Nat.le_refl _) _
  have hb2 : Below (w.alloc (.cells #[.slice k.A k.qs.length k.c, .slice k.A2 k.n2 k.c2] 37)).heap.size (w.alloc (.cells #[.slice k.A k.qs.length k.c, .slice k.A2 k.n2 k.c2] 37)) ((w.alloc (.cells #[.slice k.A k.qs.length k.c, .slice k.A2 k.n2 k.c2] 37)).alloc (.map #[] 0)) := (Below.refl _ _).alloc (Nat.le_refl _) _
  have hbox : Blk (w.alloc (.cells #[.slice k.A k.qs.length k.c, .slice k.A2 k.n2 k.c2] 37)) w.heap.size 37 [.slice k.A k.qs.length k.c, .slice k.A2 k.n2 k.c2] := Blk.mk (heap_alloc_new w _)
  have hb12 : Below w.heap.size w ((w.alloc (.cells #[.slice k.A k.qs.length k.c, .slice k.A2 k.n2 k.c2] 37)).alloc (.map #[] 0)) := hb1.trans (hb2.mono hb1.size)
  have HV0 : Hid (VkAt k w w.heap.size (w.alloc (.cells #[.slice k.A k.qs.length k.c, .slice k.A2 k.n2 k.c2] 37)).heap.size 0 [] [] none 0 [] ((w.alloc (.cells #[.slice k.A k.qs.length k.c, .slice k.A2 k.n2 k.c2] 37)).alloc (.map #[] 0))) := Lib.hid
    ⟨OutAt.nil _ _, hbox.below hb2 hbox.lt, SMap.made _, hk.below hb12, hb12, by simp⟩
  obtain ⟨kb, hkb⟩ : ∃ b, w.heap.size = b := ⟨_, rfl⟩
  obtain ⟨W1, hW1⟩ : ∃ V, w.alloc (.cells #[.slice k.A k.qs.length k.c, .slice k.A2 k.n2 k.c2] 37) = V := ⟨_, rfl⟩
  rw [hW1] at HV0
  have hmb : W1.heap.size = kb + 1 := by rw [← hW1, ← hkb]; simp
  obtain ⟨W2, hW2⟩ : ∃ V, W1.alloc (.map #[] 0) = V := ⟨_, rfl⟩
  rw [hW2, hmb] at HV0
  have HV0b : Hid (VkAt k w kb (kb + 1) 0 [] [] none 0 [] W2) := Lib.hid (by have h := HV0.out; rw [hkb] at h; exact h)
  have HEQ := Lib.hid (And.intro hkb (And.intro hW1 (And.intro hmb hW2)))
  obtain ⟨m, hm⟩ : ∃ m, min k.qs.length 8 = m := ⟨_, rfl⟩
  have HM := Lib.hid hm
  clear hb1 hb2 hbox hb12 hk hkb hW1 hmb hW2 hiL hzL hsL hbL hi hz0 hz1 hz2 HV0
  unfold KVec.val
  go_enter Try.func14, Try.ntmps14
  have hmm := @run_makeMap Try.prog
  go_wp2_with fail
  clear hmm
  try rw [HEQ.out.2.1]
  try rw [HEQ.out.2.2.1]
  try rw [HEQ.out.2.2.2]
  try rw [HEQ.out.1]
  have HKB := Lib.hid HEQ.out.1
  clear HEQ
  go_loopg [4, 5] m (fun gg x4 x5 wr => ∃ (i : Nat) (X : Option Addr) (cx : Nat) (rows : List PtR), i + gg = m ∧ x5 = .int .i64 i ∧ x4 = .slice X rows.length cx ∧ VkAt k w kb (kb + 1) i (vecUp k i).1 (vecUp k i).2 X cx rows wr)
  case atStart => exact ⟨0, none, 0, [], by omega, rfl, rfl, HV0b.out⟩
  case round =>
    obtain ⟨i, X, cx, rows, hig, rfl, rfl, hV⟩ := hrel
    have HV := Lib.hid hV
    have z0 := hV.box.cell 0
    have z1 := hV.box.cell 1
    simp only [List.getElem?_cons_zero, List.getElem?_cons_succ] at z0 z1
    clear hV HV0b
    cases gk with
    | zero =>
      obtain rfl : i = m := by omega
      have HF : Hid (PtsAns (vecF k) w (.returned (.slice X rows.length cx)) wr) := Lib.hid ⟨X, cx, rows, by rw [HV.out.out.eq]; unfold vecF; rw [HM.out], rfl, HV.out.out.at_, HV.out.bel, HV.out.out.cap.1, HV.out.out.cap.2⟩
      by_cases h8 : i < k.qs.length
      · have h8' : i = 8 := by have := HM.out; omega
        have h8i : ¬ (i : Int) < 8 := by omega
        have h8j : (i : Int) < k.qs.length := by omega
        generalize k.qs.length = nq at *
        go_wp2_with fail
        go_ret
        exact HF.out
      · have h8j : ¬ (i : Int) < k.qs.length := by omega
        generalize k.qs.length = nq at *
        go_wp2_with fail
        go_ret
        exact HF.out
    | succ gg =>
      have hiq : i < k.qs.length := by have := HM.out; omega
      have hi8 : i < 8 := by have := HM.out; omega
      have h8i : (i : Int) < 8 := by omega
      have h8j : (i : Int) < k.qs.length := by omega
      obtain ⟨ad, hA, hadB, c0, c1, hok⟩ := HV.out.args.sets i hiq
      have hs0 := HV.out.bel.size
      have HSO : Hid (vSetAt k i = vSet k.qs[i] (pickF k.zs i)) := Lib.hid (by unfold vSetAt; rw [dif_pos hiq])
      have HRT := Lib.hid (vSetAt_right hiq)
      have HQS : Hid (∀ V, w.heap.size ≤ V.heap.size → k.qs[i].ok w.heap.size V → Calls Try.prog 41 #[.agg #[.slice k.qs[i].A k.qs[i].n k.qs[i].c, .slice k.qs[i].A2 k.qs[i].n2 k.qs[i].c2]] V (OwnAns 53 2 (setF k.qs[i]).length (lbls (setF k.qs[i])) V)) := Lib.hid fun V hB h => keepset_any k.qs[i] w.heap.size V h hB
      have hal : (ad.add (i * 2)).block < wr.heap.size := by rw [add_block]; omega
      have hLn := setF_len k.qs[i]
      have HQK := Lib.hid hok
      have HPK := Lib.hid (fun V (hV : VkAt k w kb (kb + 1) i (vecUp k i).1 (vecUp k i).2 X cx rows V) => pick_any k.A2 k.n2 k.c2 _ k.zs i V hV.args.nums (by omega) (by omega))
      have HPK3 := Lib.hid (fun V (hV : k.ok w.heap.size V) => pick_any k.A2 k.n2 k.c2 _ k.zs (i + 3) V hV.nums (by omega) (by omega))
      have HPI := Lib.hid (fun j => pickF_i64 HV.out.args.i64 j)
      generalize k.qs[i] = q at *
      obtain ⟨nq, hnq⟩ : ∃ n, k.qs.length = n := ⟨_, rfl⟩
      have HNQ2 := Lib.hid hnq
      rw [hnq] at z0 h8j hn1
      have hkA := Lib.hid hA
      rw [hA] at z0
      clear hnq hok hiq hA
      go_upto_region 6 with fail
      go_cut [6] (fun x6 wx => SetO wr.heap.size (setF q) x6 wx ∧ Below wr.heap.size wr wx)
      case first =>
        have hb1 : Below wr.heap.size wr (wr.alloc (.cells #[] 53)) := (Below.refl _ _).alloc (Nat.le_refl _) _
        have HE1 : Hid (Blk (wr.alloc (.cells #[] 53)) wr.heap.size 53 []) := Lib.hid (Blk.mk (heap_alloc_new wr _))
        have HQ1 := Lib.hid (HQS.out _ (by simp; omega) (HQK.out.below (hb1.mono hs0)))
        clear hb1
        have hkbl := HV.out.box.lt
        have HLR := Lib.hid hLn
        generalize setF q = l0 at *
        obtain ⟨n0, hn0⟩ : ∃ n, l0.length = n := ⟨_, rfl⟩
        have HN0 := Lib.hid hn0
        rw [hn0] at HQ1 hLn
        clear hn0
        go_wp2_with fail
        (with_reducible refine HQ1.out.mono ?_); rintro e w2 ⟨A5, c5, rfl, hown, hb, hq3, hq4⟩
        have HE2 := Lib.hid (HE1.out.below hb HE1.out.lt)
        have HS2 := Lib.hid (Sees.of_own hown)
        have HB2 := Lib.hid (show Below wr.heap.size wr w2 from ((Below.refl _ wr).alloc (Nat.le_refl _) (.cells #[] 53)).trans (hb.mono (by simp)))
        have hs2 := HE2.out.lt
        have HOW : Hid (w2.ownsRow wr.heap.size 53 2 (.slice (some ⟨wr.heap.size, 0, none⟩) 0 0) 0 []) := Lib.hid ⟨by simp, .inr ⟨wr.heap.size, 0, #[], rfl, Nat.le_refl _, HE2.out, Nat.le_refl _, by simp, by simp, by simp⟩⟩
        clear hown hb HQ1 HE1
        go_wp2_with (at_builtin; refine wpList_append_at rfl (.tmp 23) (.tmp 29) 26 rfl wr.heap.size 53 iL (.agg #[.string ⟨#[]⟩, .string ⟨#[]⟩]) 2 32 Try.underlying26 HIL.out HZL.out HSL.out HBL.out rfl (by decide) (.slice (some ⟨wr.heap.size, 0, none⟩) 0 0) 0 [] rfl HOW.out _ _ n0 c5 (lbls l0) rfl HS2.out (lbls_one _) (by unfold maxLen; omega) (by omega) (by omega) ?_)
        intro v3 w3 hown3 hgr3 hwh3
        try simp only [Nat.zero_add, List.nil_append] at hown3
        obtain ⟨A6, c6, rfl, hc6, hd6⟩ := own_slice hown3
        have HO3 := Lib.hid hown3
        have HB3 := Lib.hid (HB2.out.grown hgr3 (by omega) (fun b hb => by simp [Value.ownBlock] at hb; omega))
        clear hown3 hgr3 hwh3 HOW HE2 HS2 HB2 hs2
        go_wp2_with fail
        go_meet
        exact ⟨⟨A6, c6, by rw [HN0.out], by rw [HN0.out]; exact HO3.out⟩, HB3.out⟩
      case rest =>
        obtain ⟨⟨A6, c6, rfl, hO⟩, hB⟩ := hcut
        have HO := Lib.hid hO
        have HV2 := Lib.hid (HV.out.below hB)
        have HB := Lib.hid hB
        have hws := hB.size
        clear hO hB HQS HQK c0 c1 z0 z1
        have HPC := Lib.hid (HPK.out _ HV2.out)
        have z1 := HV2.out.box.cell 1
        simp only [List.getElem?_cons_zero, List.getElem?_cons_succ] at z1
        have hpi := HPI.out i
        go_wp2_with fail
        (with_reducible refine HPC.out.mono ?_); rintro e w3 ⟨rfl, rfl⟩
        clear HPC
        have HFS : Hid (vSet q (pickF k.zs i) = setF q ++ (if lowBit (pickF k.zs i) = true then [vName (pickF k.zs i)] else [])) := Lib.hid rfl
        obtain ⟨pv, hpv⟩ : ∃ p, pickF k.zs i = p := ⟨_, rfl⟩
        rw [hpv] at HFS HSO hpi ⊢
        clear hpv
        obtain ⟨bt, hbt⟩ : ∃ b, lowBit pv = b := ⟨_, rfl⟩
        have hbt2 : (bits BinOp.and IntKind.i64 pv 1 == 1) = bt := hbt
        rw [hbt] at HFS
        clear hbt
        go_upto_if 37 with fail
        try rw [hbt2]
        clear hbt2
        generalize setF q = l0 at *
        obtain ⟨n0, hn0⟩ : ∃ n, l0.length = n := ⟨_, rfl⟩
        have HN0 := Lib.hid hn0
        rw [hn0] at HO hLn ⊢
        clear hn0
        go_cut [6] from 38 to 48 (fun x6 wx => (∃ A7 c7, x6 = .slice A7 (vSetAt k i).length c7 ∧ wx.ownsRow 0 53 2 (.slice A7 (vSetAt k i).length c7) (vSetAt k i).length (lbls (vSetAt k i))) ∧ VkAt k w kb (kb + 1) i (vecUp k i).1 (vecUp k i).2 X cx rows wx)
        case first =>
          cases bt with
          | false =>
            have HFV : Hid (vSetAt k i = l0) := Lib.hid (by rw [HSO.out, HFS.out]; simp)
            go_wp2_with fail
            go_meet
            exact ⟨⟨A6, c6, by rw [HFV.out, HN0.out], by rw [HFV.out, HN0.out]; exact own_mono HO.out (Nat.zero_le _)⟩, HV2.out⟩
          | true =>
            have HFV : Hid (vSetAt k i = l0 ++ [vName pv]) := Lib.hid (by rw [HSO.out, HFS.out]; simp)
            have hq2 : IntKind.i64.wrap (pv.tdiv 2) = pv.tdiv 2 := by rw [IntKind.wrap_i64]; unfold I64 at hpi; have := tdiv2_in pv hpi.1 hpi.2; omega
            have HWI := Lib.hid (fun V => within_any (pv.tdiv 2) 0 2 V (by unfold I64 at hpi ⊢; have := tdiv2_in pv hpi.1 hpi.2; omega) (by omega) (by omega) (by omega))
            have hvn := nWithin_in (pv.tdiv 2) (lo := 0) (hi := 2) (by omega)
            have HNM : Hid (vName pv = (⟨#[110, 97, 109, 101]⟩, ⟨#[UInt8.ofNat (109 + (nWithin (pv.tdiv 2) 0 2).toNat)]⟩)) := Lib.hid rfl
            obtain ⟨vn, hvn2⟩ : ∃ v, nWithin (pv.tdiv 2) 0 2 = v := ⟨_, rfl⟩
            rw [hvn2] at HWI hvn HNM
            obtain ⟨cb, hcb⟩ : ∃ c, UInt8.ofNat (109 + vn.toNat) = c := ⟨_, rfl⟩
            rw [hcb] at HNM
            obtain ⟨mv, hmv⟩ : ∃ m, 109 + vn = m := ⟨_, rfl⟩
            have hcv := fun (V : World) => conv_b V mv cb (by rw [← hcb, UInt8.toNat_ofNat']; omega)
            have hw1 : IntKind.i64.wrap (109 + vn) = mv := by rw [IntKind.wrap_i64]; omega
            have hw2 : IntKind.u8.wrap mv = mv := by rw [IntKind.wrap_u8]; omega
            clear hcb hvn2
            go_wp2_with fail
            (with_reducible refine (HWI.out _).mono ?_); rintro e w4 ⟨rfl, rfl⟩
            obtain ⟨W4, hW4⟩ : ∃ V, wc.alloc (.cells #[.int .u8 mv] 5) = V := ⟨_, rfl⟩
            have hb4 : Below wc.heap.size wc W4 := by rw [← hW4]; exact (Below.refl _ _).alloc (Nat.le_refl _) _
            have hb5 : Below W4.heap.size W4 (W4.alloc (.cells #[.string ⟨#[110, 97, 109, 101]⟩, .string ⟨#[cb]⟩] 53)) := (Below.refl _ _).alloc (Nat.le_refl _) _
            have hb6 := hb4.trans (hb5.mono hb4.size)
            have HO5 := Lib.hid (own_below HO.out hb6 (Nat.le_refl _))
            have HB5 := Lib.hid hb6
            have HX5 := Lib.hid ((Blk.mk (heap_alloc_new W4 (.cells #[.string ⟨#[110, 97, 109, 101]⟩, .string ⟨#[cb]⟩] 53)) : Blk _ W4.heap.size 53 [.string ⟨#[110, 97, 109, 101]⟩, .string ⟨#[cb]⟩]).sees (size := 2) (n := 1) (xs := [.string ⟨#[110, 97, 109, 101]⟩, .string ⟨#[cb]⟩]) rfl (List.prefix_refl _))
            have hs5 := hb6.size
            have HBWR := Lib.hid (HB.out.trans (hb6.mono hws))
            rw [← hW4, show (wc.alloc (.cells #[.int .u8 mv] 5)).heap.size = wc.heap.size + 1 by simp] at HX5
            rw [← hW4] at HO5 HB5 hs5 HBWR
            clear hb4 hb5 hb6 hW4
            go_wp2_with (at_builtin; refine wpList_append_at rfl (.tmp 38) (.tmp 47) 26 rfl wr.heap.size 53 iL (.agg #[.string ⟨#[]⟩, .string ⟨#[]⟩]) 2 32 Try.underlying26 HIL.out HZL.out HSL.out HBL.out rfl (by decide) (.slice A6 n0 c6) n0 (lbls l0) rfl HO5.out _ _ 1 1 [.string ⟨#[110, 97, 109, 101]⟩, .string ⟨#[cb]⟩] rfl HX5.out (by intro u hu; simp at hu; rcases hu with rfl | rfl <;> rfl) (by unfold maxLen; omega) (by omega) HBWR.out.size ?_)
            intro v7 w7 hown7 hgr7 hwh7
            obtain ⟨A7, c7, rfl, hc7, hd7⟩ := own_slice hown7
            have hle : (vSetAt k i).length = n0 + 1 := by rw [HFV.out, List.length_append, HN0.out]; rfl
            have HSV : Hid (w7.ownsRow 0 53 2 (.slice A7 (n0 + 1) c7) (n0 + 1) (lbls (vSetAt k i))) := Lib.hid (by
              rw [HFV.out, lbls_append, HNM.out]
              exact own_mono hown7 (Nat.zero_le _))
            have HLE := Lib.hid hle
            have HVW := Lib.hid (HV.out.below (HBWR.out.grown hgr7 HBWR.out.size (fun b hb => (HO5.out.lt b hb).1)))
            clear hown7 hgr7 hwh7 HO5 HB5 HX5 HBWR hle
            go_wp2_with fail
            go_meet
            exact ⟨⟨A7, c7, by rw [HLE.out], by rw [HLE.out]; exact HSV.out⟩, HVW.out⟩
        case rest =>
          obtain ⟨⟨A7, c7, rfl, hO7⟩, hV7⟩ := hcut
          have HO7 := Lib.hid hO7; have HV7 := Lib.hid hV7
          have HRS := Lib.hid HRT.out.1
          have hle4 := HRT.out.2
          have HVU : Hid (vecUp k (i + 1) = if metF (vecUp k i).1 (keyOfL (vSetAt k i)) = true then vecUp k i else (vSetAt k i :: (vecUp k i).1, (vecUp k i).2 ++ [(vSetAt k i, vVal k i)])) := Lib.hid rfl
          have HVV : Hid (vVal k i = nWithin (pickF k.zs (i + 3)) (-9) 20) := Lib.hid rfl
          clear hO7 hV7 HO HB HSO HV HV2 HFS HPK z1 HRT
          generalize vSetAt k i = l at *
          generalize vVal k i = vv at *
          generalize vecUp k i = MD at *
          obtain ⟨M, D⟩ := MD
          simp only at HV7 HVU
          obtain ⟨n, hn⟩ : ∃ n, l.length = n := ⟨_, rfl⟩
          have HN := Lib.hid hn
          rw [hn] at HO7 hle4 ⊢
          clear hn
          go_wp2_with fail
          go_loopg [8, 51] n (fun g2 x8 x51 wx => ∃ (j : Nat) (ks : ByteArray), j + g2 = n ∧ x51 = .int .i64 j ∧ x8 = .string ks ∧ ks.data.toList = keyOfL (l.take j) ∧ ks.size ≤ 50 * j ∧ VkAt k w kb (kb + 1) i M D X cx rows wx ∧ wx.ownsRow 0 53 2 (.slice A7 n c7) n (lbls l))
          case atStart => exact ⟨0, ⟨#[]⟩, by omega, rfl, rfl, by simp [keyOfL], by simp [ByteArray.size], HV7.out, HO7.out⟩
          case round =>
            obtain ⟨j, ks, hjg, rfl, rfl, hks, hksz, hF3, hV3⟩ := hrel
            have HF3 := Lib.hid hF3; have HV3 := Lib.hid hV3; have HKS := Lib.hid hks
            clear hF3 hV3 hks HV7 HO7
            cases gk with
            | succ g2 =>
              have hjn : j < n := by omega
              obtain ⟨adl, hjl, hAl, d0, d1⟩ := (Sees.of_own HV3.out).lbl hjn
              subst hAl
              have hsz := rightS_sizes HRS.out l[j] (List.getElem_mem _)
              have HMORE := Lib.hid (keyOfL_more hjl)
              generalize l[j] = p at *
              obtain ⟨pa, pb⟩ := p
              simp only at d0 d1 hsz
              have y1 : ¬ 9223372036854775807 < ks.size + pa.size := by omega
              have y2 : ¬ 9223372036854775807 < ks.size + pa.size + 1 := by omega
              have y3 : ¬ 9223372036854775807 < ks.size + pa.size + 1 + pb.size := by omega
              have y4 : ¬ 9223372036854775807 < ks.size + pa.size + 1 + pb.size + 1 := by omega
              have hall := World.block_lt_of_cell? _ _ d0
              have hbq : Below wr.heap.size wr (wr.alloc (.cells #[.string pa, .string pb] 53)) := (Below.refl _ _).alloc (Nat.le_refl _) _
              have HF4 := Lib.hid (HF3.out.below hbq)
              have HV4 := Lib.hid (own_below HV3.out hbq (Nat.le_refl _))
              have HSZ : Hid ((ks ++ pa ++ ⟨#[61]⟩ ++ pb ++ ⟨#[59]⟩ : ByteArray).size ≤ 50 * (j + 1)) := Lib.hid (by
                have e1 : (⟨#[61]⟩ : ByteArray).size = 1 := rfl
                have e2 : (⟨#[59]⟩ : ByteArray).size = 1 := rfl
                rw [ByteArray.size_append, ByteArray.size_append, ByteArray.size_append, ByteArray.size_append, e1, e2]; omega)
              have HTL : Hid ((ks ++ pa ++ ⟨#[61]⟩ ++ pb ++ ⟨#[59]⟩ : ByteArray).data.toList = keyOfL (l.take (j + 1))) := Lib.hid (by
                rw [HMORE.out, ← HKS.out]; simp [keyOne, ByteArray.data_append])
              clear hbq HF3 HV3 HMORE HKS
              go_wp2_with fail
              go_roundg g2
              case measure => omega
              case rel => exact ⟨j + 1, _, by omega, by first | rfl | go_num, rfl, HTL.out, HSZ.out, HF4.out, HV4.out⟩
            | zero =>
              obtain rfl : j = n := by omega
              have HKL : Hid (ks.data.toList = keyOfL l) := Lib.hid (by rw [HKS.out, List.take_of_length_le (by rw [HN.out]; exact Nat.le_refl _)])
              have hts : ks.size ≤ maxLen := by unfold maxLen; omega
              have hlk := HF3.out.met.look hts
              rw [HKL.out] at hlk
              clear HKS
              cases hmt : metF M (keyOfL l) with
              | true =>
                rw [hmt] at hlk HVU
                have HF5 := Lib.hid HF3.out.widen
                have HVU2 := Lib.hid (show vecUp k (i + 1) = (M, D) by rw [HVU.out, if_pos rfl])
                clear hmt HVU
                go_wp2_with fail
                go_roundg gg
                case measure => omega
                case rel => exact ⟨i + 1, X, cx, rows, by omega, by first | rfl | go_num, rfl, by rw [HVU2.out]; exact HF5.out⟩
              | false =>
                rw [hmt] at hlk HVU
                have HVU2 := Lib.hid (show vecUp k (i + 1) = (l :: M, D ++ [(l, vv)]) by rw [HVU.out, if_neg (by simp)])
                clear hmt HVU
                obtain ⟨w7, hrun, hm7, hg7⟩ := HF3.out.met.put (by omega) hts
                rw [HKL.out, ← metF_cons] at hm7
                have HRUN := Lib.hid hrun
                have HV7b := Lib.hid (own_same HV3.out fun q hq hl => hg7.block q hl (fun e => by injection e with e; exact HF3.out.met.ne_own HV3.out (by rw [hq, e])))
                have HMP := Lib.hid (HF3.out.mapped (f := l :: M) hg7 hm7)
                have HM7 := Lib.hid hm7
                have HMBS := Lib.hid HF3.out.mbs
                clear hrun hm7 hg7 HF3 HV3 HKL hts
                go_upto_region 18 with (at_mapUpdate; refine wpList_put_smap rfl (.tmp 68) (.tmp 69) (.const (.bool true)) 71 rfl (.map (some (kb + 1))) (.string ks) (.bool true) rfl rfl rfl w7 HRUN.out ?_)
                clear hlk
                have z1 := HMP.out.2.1.cell 1
                simp only [List.getElem?_cons_zero, List.getElem?_cons_succ] at z1
                have hp3' := HPK3.out w7 HMP.out.2.2.1
                rw [show ((i + 3 : Nat) : Int) = (i : Int) + 3 by omega] at hp3'
                have HP3 := Lib.hid hp3'
                clear hp3'
                have hp3 := HPI.out (i + 3)
                have HWV := Lib.hid (fun V => within_any (pickF k.zs (i + 3)) (-9) 20 V hp3 (by omega) (by omega) (by omega))
                rw [← HVV.out] at HWV
                generalize pickF k.zs (i + 3) = pw at *
                have hii : IntKind.i64.wrap ((i : Int) + 3) = (i : Int) + 3 := by rw [IntKind.wrap_i64]; omega
                go_wp2_with fail
                (with_reducible refine HP3.out.mono ?_); rintro e w8 ⟨rfl, rfl⟩
                go_wp2_with fail
                (with_reducible refine (HWV.out _).mono ?_); rintro e w8 ⟨rfl, rfl⟩
                have hb9 := (Below.refl w7.heap.size w7).alloc (Nat.le_refl _) (.cells #[.slice A7 j c7, .int .i64 vv] 28)
                have HO9 := Lib.hid (HMP.out.1.below hb9)
                have HOL9 := Lib.hid (show OwnL (w7.alloc (.cells #[.slice A7 j c7, .int .i64 vv] 28)) (.slice A7 j c7) l from OwnL.below ⟨A7, c7, by rw [HN.out], by rw [HN.out]; exact HV7b.out⟩ hb9)
                have HX4 := Lib.hid ((Blk.mk (heap_alloc_new w7 (.cells #[.slice A7 j c7, .int .i64 vv] 28)) : Blk _ w7.heap.size 28 [.slice A7 j c7, .int .i64 vv]).sees (size := 2) (n := 1) rfl (List.prefix_refl _))
                have HB9 := Lib.hid (HMP.out.2.2.2.trans (hb9.mono HMP.out.2.2.2.size))
                have HBX9 := Lib.hid (HMP.out.2.1.below hb9 HMP.out.2.1.lt)
                have HM9 := Lib.hid (HM7.out.below hb9)
                have HK9 := Lib.hid (HMP.out.2.2.1.below (hb9.mono HMP.out.2.2.2.size))
                clear hb9 HMP HM7 HV7b HP3 HWV z1
                go_wp2_with (at_builtin; refine wpList_append_at rfl (.tmp 70) (.tmp 79) 22 rfl w.heap.size 28 i0 (.agg #[.slice none 0 0, .int .i64 0]) 2 32 Try.underlying22 HI.out HZ0.out HZ1.out HZ2.out rfl (by decide) (.slice X rows.length cx) rows.length (pts rows) rfl HO9.out.at_.own _ (some ⟨w7.heap.size, 0, none⟩) 1 _ [.slice A7 j c7, .int .i64 vv] rfl HX4.out (by intro u hu; simp at hu; rcases hu with rfl | rfl <;> rfl) (by unfold maxLen; have := HO9.out.len; omega) (by have := HO9.out.len; omega) HB9.out.size ?_)
                intro v' w10 hown hgr hwh
                have HO10 := Lib.hid (HO9.out.push (l := l) (z := vv) HOL9.out (by rw [HN.out]; omega) hown hgr rfl)
                have HM10 := Lib.hid (HM9.out.kept hgr (fun e => HM9.out.ne_own HO9.out.at_.own e.symm))
                have HBX10 := Lib.hid (HBX9.out.grown hgr (fun e => (blkv_ne HO9.out.at_.own HBX9.out) e.symm))
                have hbl : Below w.heap.size (w7.alloc (.cells #[.slice A7 j c7, .int .i64 vv] 28)) w10 := (Below.refl _ _).grown hgr HB9.out.size (fun g e => (HO9.out.at_.own.lt g e).1)
                have HK10 := Lib.hid (HK9.out.below hbl)
                have HB10 := Lib.hid (HB9.out.trans hbl)
                obtain ⟨A5, c5, rfl, _, _⟩ := own_slice hown
                have HL5 := Lib.hid (show (rows ++ [(⟨.slice A7 j c7, l, vv⟩ : PtR)]).length = rows.length + 1 by simp)
                clear hown hgr hwh HO9 HOL9 HB9 HBX9 HM9 HK9 hbl HX4
                go_wp2_with fail
                go_roundg gg
                case measure => omega
                case rel => exact ⟨i + 1, A5, c5, _, by omega, by first | rfl | go_num, by rw [HL5.out], by rw [HVU2.out]; exact ⟨by rw [HL5.out]; exact HO10.out, HBX10.out, HM10.out, HK10.out, HB10.out, HMBS.out⟩⟩
end Go.Proofs.Ytbndmmfpoljeaaa
