/- Law ExprBack. -/
import Derived.Test.YtnkbpcenkbihpaaDoorPairX
import Derived.Test.YtnkbpcenkbihpaaDoorBackX
import Derived.Test.YtnkbpcenkbihpaaDoorSameX
namespace Go.Proofs.YtnkbpcenkbihpaaDoor
open Go.ChangeShapes Go.WideShapes Go.ChangeAt Go.RowKit
set_option linter.unusedVariables false
set_option linter.unusedSimpArgs false
set_option maxRecDepth 100000
/-- Both expressions, and the one that was read back. -/
structure BkB (w0 : World) (g q g11 : Nat) (x y z : XE) (W : World) : Prop where
  p : PairX w0 g q x y W
  bz : Blk W g11 26 [.int .i64 z.kd, .int .i64 z.n, z.mv, z.nv, z.kv]
  oz : okX 9 z W
theorem BkB.below {w0 W W' : World} {g q g11 : Nat} {x y z : XE} (h : BkB w0 g q g11 x y z W) (hb : Below W.heap.size W W') : BkB w0 g q g11 x y z W' :=
  ⟨h.p.below hb, h.bz.below hb h.bz.lt, okX_below hb 9 _ h.oz⟩
set_option maxHeartbeats 8000000 in
theorem expr_back (k1 k2 : KSet) (A0 : Option Addr) (n0 c0 : Nat) (zs : List Int) (w : World) (o1 : k1.ok w.heap.size w) (o2 : k2.ok w.heap.size w) (hz : Sees w w.heap.size 1 A0 n0 (ints zs)) (hn0 : n0 ≤ c0) (hc0 : c0 ≤ 9223372036854775807) (tab : Tab w) :
    Calls Tryd.prog 4 #[k1.val, k2.val, .slice A0 n0 c0] w fun e w' => e = .returned (.bool true) ∧ Below w.heap.size w w' := by
  have HT := Lib.hid tab
  have HZS := Lib.hid (fun V (hV : Below w.heap.size w V) => hz.below hV)
  have hsz : (w.alloc (.cells #[.slice k1.A k1.n k1.c, .slice k1.A2 k1.n2 k1.c2] 35)).heap.size = w.heap.size + 1 := by simp
  have hb : Below w.heap.size w ((w.alloc (.cells #[.slice k1.A k1.n k1.c, .slice k1.A2 k1.n2 k1.c2] 35)).alloc (.cells #[.slice k2.A k2.n k2.c, .slice k2.A2 k2.n2 k2.c2] 35)) := ((Below.refl _ _).alloc (Nat.le_refl _) _).alloc (by simp) _
  have HP0 : Hid (∀ vs, PairI w k1 k2 w.heap.size (w.heap.size + 1) (fun _ => false) vs ((w.alloc (.cells #[.slice k1.A k1.n k1.c, .slice k1.A2 k1.n2 k1.c2] 35)).alloc (.cells #[.slice k2.A k2.n k2.c, .slice k2.A2 k2.n2 k2.c2] 35))) := Lib.hid (fun vs => PairI.start hb ((Blk.mk (heap_alloc_new w _)).alloc _) (by have hh := (Blk.mk (heap_alloc_new (w.alloc (.cells #[.slice k1.A k1.n k1.c, .slice k1.A2 k1.n2 k1.c2] 35)) (.cells #[.slice k2.A k2.n k2.c, .slice k2.A2 k2.n2 k2.c2] 35)) : Blk _ (w.alloc (.cells #[.slice k1.A k1.n k1.c, .slice k1.A2 k1.n2 k1.c2] 35)).heap.size 35 [.slice k2.A k2.n k2.c, .slice k2.A2 k2.n2 k2.c2]); rw [hsz] at hh; exact hh) (o1.below hb) (o2.below hb) vs)
  clear hsz hb o1 o2 hz tab
  unfold KSet.val
  have HG := Lib.hid (show ∃ g, w.heap.size = g from ⟨_, rfl⟩)
  have HG1 := Lib.hid (show ∃ g, w.heap.size + 1 = g from ⟨_, rfl⟩)
  go_enter Tryd.func4, Tryd.ntmps4
  go_upto_region 1 with fail
  obtain ⟨g2, hg2⟩ := HG1.out
  rw [hg2] at HP0 ⊢
  obtain ⟨g1, hg1⟩ := HG.out
  rw [hg1] at HP0 ⊢
  clear HG HG1 hg1 hg2
  generalize (w.alloc (.cells #[.slice k1.A k1.n k1.c, .slice k1.A2 k1.n2 k1.c2] 35)).alloc (.cells #[.slice k2.A k2.n k2.c, .slice k2.A2 k2.n2 k2.c2] 35) = W0 at *
  refine wp_region_inv_tail 6 (I := PairI w k1 k2 g1 g2) (by kernel_rfl) (by kernel_rfl) (by kernel_rfl) (by kernel_rfl) (by kernel_rfl) (by decide) (by kernel_rfl) ?hI ⟨?o0, ?o1, ?o2, ?o3, ?o4, ?o5, trivial⟩ ?hend
  case hI => exact fun vs => (HP0.out vs).below (Below.refl _ _).drew
  case o0 =>
    intro a w9 L hfr hI hs
    refine ⟨fun hw => ?_, fun hw => absurd hw (by simp [Region.wanted])⟩
    have sA : a.tmps.getD 3 undef = .pointer (some ⟨g1, 0, none⟩) := hfr.at 3 (by kernel_rfl)
    have z0 := hI.b1.cell 0
    have z1 := hI.b1.cell 1
    simp only [List.getElem?_cons_zero, List.getElem?_cons_succ] at z0 z1
    refine opi_yields k1.val ?_ hI.op0
    unfold KSet.val
    simp only [execOp, resolve, List.map_toArray, List.map_cons, List.map_nil, Act.eval, sA, z0, z1]; simp [go_sem, -Array.getD_eq_getD_getElem?, sA, z0, z1]
  case o2 =>
    intro a w9 L hfr hI hs
    refine ⟨fun hw => ?_, fun hw => absurd hw (by simp [Region.wanted])⟩
    have sA : a.tmps.getD 4 undef = .pointer (some ⟨g2, 0, none⟩) := hfr.at 4 (by kernel_rfl)
    have z0 := hI.b2.cell 0
    have z1 := hI.b2.cell 1
    simp only [List.getElem?_cons_zero, List.getElem?_cons_succ] at z0 z1
    refine opi_yields k2.val ?_ hI.op2
    unfold KSet.val
    simp only [execOp, resolve, List.map_toArray, List.map_cons, List.map_nil, Act.eval, sA, z0, z1]; simp [go_sem, -Array.getD_eq_getD_getElem?, sA, z0, z1]
  case o1 =>
    intro a w9 L hfr hI hs
    refine ⟨fun hw => ?_, fun hw => absurd hw (by simp [Region.wanted])⟩
    have sT : a.tmps.getD 26 undef = k1.val := hI.v0 (hs.done (by decide) 0 (by kernel_rfl))
    refine opi_calls2 ((expr_any k1 w9 (hI.o1.up hI.bel.size)).mono fun e' w' hh => ?_) ?_
    · obtain ⟨x, rfl, hk, hx, hb⟩ := hh; exact ⟨_, rfl, hI.op1 hb hk hx⟩
    · simp only [execOp, resolve, List.map_toArray, List.map_cons, List.map_nil, Act.eval, sT]; simp [go_sem, -Array.getD_eq_getD_getElem?, sT]
  case o3 =>
    intro a w9 L hfr hI hs
    refine ⟨fun hw => ?_, fun hw => absurd hw (by simp [Region.wanted])⟩
    have sT : a.tmps.getD 28 undef = k2.val := hI.v2 (hs.done (by decide) 2 (by kernel_rfl))
    refine opi_calls2 ((expr_any k2 w9 (hI.o2.up hI.bel.size)).mono fun e' w' hh => ?_) ?_
    · obtain ⟨x, rfl, hk, hx, hb⟩ := hh; exact ⟨_, rfl, hI.op3 hb hk hx⟩
    · simp only [execOp, resolve, List.map_toArray, List.map_cons, List.map_nil, Act.eval, sT]; simp [go_sem, -Array.getD_eq_getD_getElem?, sT]
  case o4 =>
    intro a w9 L hfr hI hs
    refine ⟨fun hw => ?_, fun hw => absurd hw (by simp [Region.wanted])⟩
    refine opi_yields (w' := w9.alloc (.cells #[.int .i64 0, .int .i64 0, .slice none 0 0, .slice none 0 0, .slice none 0 0] 26)) (.pointer (some ⟨w9.heap.size, 0, none⟩)) ?_ hI.op4
    simp only [execOp, resolve, List.map_toArray, List.map_cons, List.map_nil, Act.eval]; simp [go_sem, -Array.getD_eq_getD_getElem?]
  case o5 =>
    intro a w9 L hfr hI hs
    refine ⟨fun hw => ?_, fun hw => absurd hw (by simp [Region.wanted])⟩
    refine opi_yields (w' := w9.alloc (.cells #[.int .i64 0, .int .i64 0, .slice none 0 0, .slice none 0 0, .slice none 0 0] 26)) (.pointer (some ⟨w9.heap.size, 0, none⟩)) ?_ hI.op5
    simp only [execOp, resolve, List.map_toArray, List.map_cons, List.map_nil, Act.eval]; simp [go_sem, -Array.getD_eq_getD_getElem?]
  case hend =>
  intro vs w8 hI
  obtain ⟨g, q, x, y, ex, ey, eg, eq, kx, ky, ox, oy, bg, bq, hne, hfin⟩ := hI.fin rfl rfl rfl rfl
  obtain ⟨A1, c1, A2, c2, A3, c3, u1, u2, u3⟩ := okX_forms ox
  obtain ⟨B1, b1, B2, b2, B3, b3, t1, t2, t3⟩ := okX_forms oy
  obtain ⟨xk, xn, xmv, xms, xnv, xns, xkv, xks⟩ := x
  obtain ⟨yk, yn, ymv, yms, ynv, yns, ykv, yks⟩ := y
  simp only [XE.mv, XE.nv, XE.kv, XE.ms, XE.ns, XE.kids] at u1 u2 u3 t1 t2 t3
  subst u1; subst u2; subst u3; subst t1; subst t2; subst t3
  have HKX := Lib.hid kx; have HKY := Lib.hid ky
  obtain ⟨z0, z1, z2, z3, z4⟩ := blk_cells5 bg
  obtain ⟨f0, f1, f2, f3, f4⟩ := blk_fr bg
  obtain ⟨y0, y1, y2, y3, y4⟩ := blk_cells5 bq
  obtain ⟨h0, h1, h2, h3, h4⟩ := blk_fr bq
  have hne2 : q ≠ g := Ne.symm hne
  obtain ⟨Wf, hWf⟩ : ∃ V, set5W (set5W w8 g (.int .i64 xk) (.int .i64 xn) (.slice A1 xms.length c1) (.slice A2 xns.length c2) (.slice A3 xks.length c3)) q (.int .i64 yk) (.int .i64 yn) (.slice B1 yms.length b1) (.slice B2 yns.length b2) (.slice B3 yks.length b3) = V := ⟨_, rfl⟩
  have HX : Hid (PairX w g q (.mk xk xn (.slice A1 xms.length c1) xms (.slice A2 xns.length c2) xns (.slice A3 xks.length c3) xks) (.mk yk yn (.slice B1 yms.length b1) yms (.slice B2 yns.length b2) yns (.slice B3 yks.length b3) yks) Wf) := Lib.hid (by rw [← hWf]; exact hfin)
  unfold set5W at hWf
  have HWF := Lib.hid hWf
  unfold XE.val at ex ey
  simp only [XE.kd, XE.n, XE.mv, XE.nv, XE.kv] at ex ey
  clear hI hfin hWf kx ky ox oy bg bq HP0
  change wpList _ _ _ [_, _] (putAll vs 0 [_, _, _, _, _, _] _) _
  simp only [putAll, Act.put, ex, ey, eg, eq]
  clear ex ey eg eq
  go_simp
  go_upto_region 2 with fail
  rw [HWF.out]
  clear HWF z0 z1 z2 z3 z4 f0 f1 f2 f3 f4 y0 y1 y2 y3 y4 h0 h1 h2 h3 h4
  have HBX := Lib.hid (keep_back HKX.out); have HBY := Lib.hid (keep_back HKY.out)
  clear HKX HKY
  have hsx : ((⟨((XE.mk xk xn (.slice A1 xms.length c1) xms (.slice A2 xns.length c2) xns (.slice A3 xks.length c3) xks)).pe.text.toArray⟩ : ByteArray)).data.toList = ((XE.mk xk xn (.slice A1 xms.length c1) xms (.slice A2 xns.length c2) xns (.slice A3 xks.length c3) xks)).pe.text := rfl
  have hsy : ((⟨((XE.mk yk yn (.slice B1 yms.length b1) yms (.slice B2 yns.length b2) yns (.slice B3 yks.length b3) yks)).pe.text.toArray⟩ : ByteArray)).data.toList = ((XE.mk yk yn (.slice B1 yms.length b1) yms (.slice B2 yns.length b2) yns (.slice B3 yks.length b3) yks)).pe.text := rfl
  have HPX := Lib.hid (fun V (hV : okX 5 (XE.mk xk xn (.slice A1 xms.length c1) xms (.slice A2 xns.length c2) xns (.slice A3 xks.length c3) xks) V) (hW : Below w.heap.size w V) => show Calls Tryd.prog 12 #[.agg #[.int .i64 xk, .int .i64 xn, .slice A1 xms.length c1, .slice A2 xns.length c2, .slice A3 xks.length c3]] V fun e w' => e = .returned (.string ⟨((XE.mk xk xn (.slice A1 xms.length c1) xms (.slice A2 xns.length c2) xns (.slice A3 xks.length c3) xks)).pe.text.toArray⟩) ∧ Below V.heap.size V w' by
    have h := print_x 5 (by decide) _ V HBX.out.small HBX.out.fits (tab_of HT.out hW) hV
    rw [HBX.out.print] at h; exact h)
  have HPY := Lib.hid (fun V (hV : okX 5 (XE.mk yk yn (.slice B1 yms.length b1) yms (.slice B2 yns.length b2) yns (.slice B3 yks.length b3) yks) V) (hW : Below w.heap.size w V) => show Calls Tryd.prog 12 #[.agg #[.int .i64 yk, .int .i64 yn, .slice B1 yms.length b1, .slice B2 yns.length b2, .slice B3 yks.length b3]] V fun e w' => e = .returned (.string ⟨((XE.mk yk yn (.slice B1 yms.length b1) yms (.slice B2 yns.length b2) yns (.slice B3 yks.length b3) yks)).pe.text.toArray⟩) ∧ Below V.heap.size V w' by
    have h := print_x 5 (by decide) _ V HBY.out.small HBY.out.fits (tab_of HT.out hW) hV
    rw [HBY.out.print] at h; exact h)
  obtain ⟨sx, hx⟩ : ∃ s : ByteArray, (⟨((XE.mk xk xn (.slice A1 xms.length c1) xms (.slice A2 xns.length c2) xns (.slice A3 xks.length c3) xks)).pe.text.toArray⟩ : ByteArray) = s := ⟨_, rfl⟩
  obtain ⟨sy, hy⟩ : ∃ s : ByteArray, (⟨((XE.mk yk yn (.slice B1 yms.length b1) yms (.slice B2 yns.length b2) yns (.slice B3 yks.length b3) yks)).pe.text.toArray⟩ : ByteArray) = s := ⟨_, rfl⟩
  rw [hx] at hsx HPX; rw [hy] at hsy HPY
  have HSX := Lib.hid hsx
  obtain ⟨ee, hee⟩ : ∃ b, eqPE ((XE.mk xk xn (.slice A1 xms.length c1) xms (.slice A2 xns.length c2) xns (.slice A3 xks.length c3) xks)).pe ((XE.mk yk yn (.slice B1 yms.length b1) yms (.slice B2 yns.length b2) yns (.slice B3 yks.length b3) yks)).pe = b := ⟨_, rfl⟩
  have HEE : Hid ((sx.toList == sy.toList) = ee) := Lib.hid (by rw [ByteArray.toList_eq, ByteArray.toList_eq, hsx, hsy, ← hee, ← HBX.out.inj HBY.out]; exact Bool.beq_eq_decide_eq _ _)
  have HEQ := Lib.hid hee
  clear hsx hsy hx hy hee
  go_cut [9, 10] from 30 to 33 (fun y9 y10 wx => y9 = .string sx ∧ y10 = .string sy ∧ PairX w g q (XE.mk xk xn (.slice A1 xms.length c1) xms (.slice A2 xns.length c2) xns (.slice A3 xks.length c3) xks) (XE.mk yk yn (.slice B1 yms.length b1) yms (.slice B2 yns.length b2) yns (.slice B3 yks.length b3) yks) wx)
  case first =>
    refine wp_region_facts (R := fun a b => Below a.heap.size a b) (G := (fun W => PairX w g q (XE.mk xk xn (.slice A1 xms.length c1) xms (.slice A2 xns.length c2) xns (.slice A3 xks.length c3) xks) (XE.mk yk yn (.slice B1 yms.length b1) yms (.slice B2 yns.length b2) yns (.slice B3 yks.length b3) yks) W)) (V := fun i' u' W => match i' with | 0 => u' = .agg #[.int .i64 xk, .int .i64 xn, .slice A1 xms.length c1, .slice A2 xns.length c2, .slice A3 xks.length c3] | 1 => u' = .string sx | 2 => u' = .agg #[.int .i64 yk, .int .i64 yn, .slice B1 yms.length b1, .slice B2 yns.length b2, .slice B3 yks.length b3] | 3 => u' = .string sy | 4 => u' = .string sx | 5 => u' = .string sy | _ => True) (by kernel_rfl) (fun w => Below.refl _ _) (fun a b c h1 h2 => h1.trans (h2.mono h1.size)) (by kernel_rfl) (by kernel_rfl) ?hG ⟨?o0, ?o1, ?o2, ?o3, ?o4, ?o5, trivial⟩ ?hend
    case o0 =>
      intro a w hfr hG hd
      refine ⟨fun hw => ?_, fun hw => absurd hw (by simp [Region.wanted])⟩
      have s7 : a.tmps.getD 7 undef = .pointer (some ⟨g, 0, none⟩) := hfr.at 7 (by kernel_rfl)
      obtain ⟨z0, z1, z2, z3, z4⟩ := blk_cells5 hG.now.bx; simp only [XE.kd, XE.n, XE.mv, XE.nv, XE.kv] at z0 z1 z2 z3 z4
      refine op_yields (.agg #[.int .i64 xk, .int .i64 xn, .slice A1 xms.length c1, .slice A2 xns.length c2, .slice A3 xks.length c3]) ?_ ?_ ?_
      · simp only [execOp, resolve, List.map_toArray, List.map_cons, List.map_nil, Act.eval, s7]; simp [go_sem, -Array.getD_eq_getD_getElem?, s7, z0, z1, z2, z3, z4]
      · exact Below.refl _ _
      · exact (fun _ _ => rfl)
    case o1 =>
      intro a w hfr hG hd
      obtain ⟨d0, _⟩ := hd
      refine ⟨fun hw => ?_, fun hw => absurd hw (by simp [Region.wanted])⟩
      have s30 : a.tmps.getD 30 undef = .agg #[.int .i64 xk, .int .i64 xn, .slice A1 xms.length c1, .slice A2 xns.length c2, .slice A3 xks.length c3] := (d0 rfl).now
      refine op_calls2 ((HPX.out w hG.now.ox hG.now.bel).mono fun e' w' hh => ⟨_, hh.1, hh.2, (fun _ _ => rfl)⟩) ?_
      simp only [execOp, resolve, List.map_toArray, List.map_cons, List.map_nil, Act.eval, s30]; simp [go_sem, -Array.getD_eq_getD_getElem?, s30]
    case o2 =>
      intro a w hfr hG hd
      refine ⟨fun hw => ?_, fun hw => absurd hw (by simp [Region.wanted])⟩
      have s8 : a.tmps.getD 8 undef = .pointer (some ⟨q, 0, none⟩) := hfr.at 8 (by kernel_rfl)
      obtain ⟨z0, z1, z2, z3, z4⟩ := blk_cells5 hG.now.by_; simp only [XE.kd, XE.n, XE.mv, XE.nv, XE.kv] at z0 z1 z2 z3 z4
      refine op_yields (.agg #[.int .i64 yk, .int .i64 yn, .slice B1 yms.length b1, .slice B2 yns.length b2, .slice B3 yks.length b3]) ?_ ?_ ?_
      · simp only [execOp, resolve, List.map_toArray, List.map_cons, List.map_nil, Act.eval, s8]; simp [go_sem, -Array.getD_eq_getD_getElem?, s8, z0, z1, z2, z3, z4]
      · exact Below.refl _ _
      · exact (fun _ _ => rfl)
    case o3 =>
      intro a w hfr hG hd
      obtain ⟨d0, d1, _⟩ := hd
      refine ⟨fun hw => ?_, fun hw => absurd hw (by simp [Region.wanted])⟩
      have s32 : a.tmps.getD 32 undef = .agg #[.int .i64 yk, .int .i64 yn, .slice B1 yms.length b1, .slice B2 yns.length b2, .slice B3 yks.length b3] := (d0 rfl).now
      refine op_calls2 ((HPY.out w hG.now.oy hG.now.bel).mono fun e' w' hh => ⟨_, hh.1, hh.2, (fun _ _ => rfl)⟩) ?_
      simp only [execOp, resolve, List.map_toArray, List.map_cons, List.map_nil, Act.eval, s32]; simp [go_sem, -Array.getD_eq_getD_getElem?, s32]
    case o4 =>
      intro a w hfr hG hd
      obtain ⟨d0, d1, d2, d3, d4, d5, _⟩ := hd
      refine ⟨fun hw => ?_, fun hw => absurd hw (by simp [Region.wanted])⟩
      have s31 : a.tmps.getD 31 undef = .string sx := (d0 rfl).now
      refine op_yields (.string sx) ?_ ?_ ?_
      · simp only [execOp, resolve, List.map_toArray, List.map_cons, List.map_nil, Act.eval, s31]; simp [go_sem, -Array.getD_eq_getD_getElem?, s31]
      · exact Below.refl _ _
      · exact (fun _ _ => rfl)
    case o5 =>
      intro a w hfr hG hd
      obtain ⟨d0, d1, d2, d3, d4, d5, d6, _⟩ := hd
      refine ⟨fun hw => ?_, fun hw => absurd hw (by simp [Region.wanted])⟩
      have s33 : a.tmps.getD 33 undef = .string sy := (d0 rfl).now
      refine op_yields (.string sy) ?_ ?_ ?_
      · simp only [execOp, resolve, List.map_toArray, List.map_cons, List.map_nil, Act.eval, s33]; simp [go_sem, -Array.getD_eq_getD_getElem?, s33]
      · exact Below.refl _ _
      · exact (fun _ _ => rfl)
    case hG => exact fun w' hb => HX.out.below ((Below.refl _ _).drew.trans (hb.mono (by simp)))
    case hend =>
      intro vs w' hG hv
      have key : vs 4 = .string sx ∧ vs 5 = .string sy := by
        obtain ⟨_, _, _, _, h4, h5, _⟩ := hv
        exact ⟨h4.now, h5.now⟩
      obtain ⟨k1, k2⟩ := key
      have HX2 := Lib.hid hG.now
      clear hv hG HX HPX HPY
      simp only [putAll, Act.put, k1, k2]
      clear k1 k2
      go_simp
      go_wp2_with fail
      go_meet
      exact ⟨rfl, rfl, HX2.out⟩
  case rest =>
    obtain ⟨rfl, rfl, hat⟩ := hcut
    clear HX HPX HPY
    have HX := Lib.hid hat
    clear hat
    have HSZ := Lib.hid (show sx.size = ((XE.mk xk xn (.slice A1 xms.length c1) xms (.slice A2 xns.length c2) xns (.slice A3 xks.length c3) xks)).pe.text.length by have h := ba_len sx; rw [HSX.out] at h; exact h.symm)
    have HPA := Lib.hid (parse_x sx wc (by have h1 := HSZ.out; have h2 := HBX.out.text; omega))
    rw [HSX.out, HBX.out.parse] at HPA
    go_wp2_with fail
    (with_reducible refine HPA.out.mono ?_); rintro e w3 hx
    obtain ⟨zk, zn, D1, j1, zms, D2, j2, zns, D3, j3, zks, rfl, hp, hf, hw⟩ := hx.forms
    have HQZ := Lib.hid hp
    simp only at HQZ
    have hbz := (Below.refl w3.heap.size w3).alloc (Nat.le_refl _) (.cells #[.int .i64 zk, .int .i64 zn, .slice D1 zms.length j1, .slice D2 zns.length j2, .slice D3 zks.length j3] 26)
    have HBK : Hid (BkB w g q w3.heap.size (XE.mk xk xn (.slice A1 xms.length c1) xms (.slice A2 xns.length c2) xns (.slice A3 xks.length c3) xks) (XE.mk yk yn (.slice B1 yms.length b1) yms (.slice B2 yns.length b2) yns (.slice B3 yks.length b3) yks) (XE.mk zk zn (.slice D1 zms.length j1) zms (.slice D2 zns.length j2) zns (.slice D3 zks.length j3) zks) (w3.alloc (.cells #[.int .i64 zk, .int .i64 zn, .slice D1 zms.length j1, .slice D2 zns.length j2, .slice D3 zks.length j3] 26))) := Lib.hid ⟨(HX.out.below hw).below hbz, Blk.mk (heap_alloc_new w3 _), okX_below hbz 9 _ hf.now⟩
    clear hx hp hf hw hbz HPA HX
    go_upto_region 4 with fail
    obtain ⟨g11, hg11⟩ : ∃ g, w3.heap.size = g := ⟨_, rfl⟩
    rw [hg11] at HBK ⊢
    clear hg11
    generalize w3.alloc (.cells #[.int .i64 zk, .int .i64 zn, .slice D1 zms.length j1, .slice D2 zns.length j2, .slice D3 zks.length j3] 26) = W4 at *
    have HRX := Lib.hid (fun V (hV : okX 5 (XE.mk xk xn (.slice A1 xms.length c1) xms (.slice A2 xns.length c2) xns (.slice A3 xks.length c3) xks) V) => show Calls Tryd.prog 14 #[.agg #[.int .i64 xk, .int .i64 xn, .slice A1 xms.length c1, .slice A2 xns.length c2, .slice A3 xks.length c3]] V fun e w' => e = .returned (.bool true) ∧ Below V.heap.size V w' by
      have h := right_x 5 (by decide) _ V HBX.out.small hV
      rw [HBX.out.right] at h; exact h)
    have HEZ := Lib.hid (fun V (hV : BkB w g q g11 (XE.mk xk xn (.slice A1 xms.length c1) xms (.slice A2 xns.length c2) xns (.slice A3 xks.length c3) xks) (XE.mk yk yn (.slice B1 yms.length b1) yms (.slice B2 yns.length b2) yns (.slice B3 yks.length b3) yks) (XE.mk zk zn (.slice D1 zms.length j1) zms (.slice D2 zns.length j2) zns (.slice D3 zks.length j3) zks) V) => show Calls Tryd.prog 15 #[.agg #[.int .i64 zk, .int .i64 zn, .slice D1 zms.length j1, .slice D2 zns.length j2, .slice D3 zks.length j3], .agg #[.int .i64 xk, .int .i64 xn, .slice A1 xms.length c1, .slice A2 xns.length c2, .slice A3 xks.length c3]] V fun e w' => e = .returned (.bool true) ∧ Below V.heap.size V w' by
      have h := exprs_any 9 (XE.mk zk zn (.slice D1 zms.length j1) zms (.slice D2 zns.length j2) zns (.slice D3 zks.length j3) zks) (XE.mk xk xn (.slice A1 xms.length c1) xms (.slice A2 xns.length c2) xns (.slice A3 xks.length c3) xks) V hV.oz (okX_floors hV.p.ox 4) (by rw [HQZ.out]; exact HBX.out.small)
      rw [eqPE_yes HQZ.out] at h; exact h)
    have HEX := Lib.hid (fun V (hV : BkB w g q g11 (XE.mk xk xn (.slice A1 xms.length c1) xms (.slice A2 xns.length c2) xns (.slice A3 xks.length c3) xks) (XE.mk yk yn (.slice B1 yms.length b1) yms (.slice B2 yns.length b2) yns (.slice B3 yks.length b3) yks) (XE.mk zk zn (.slice D1 zms.length j1) zms (.slice D2 zns.length j2) zns (.slice D3 zks.length j3) zks) V) => show Calls Tryd.prog 15 #[.agg #[.int .i64 xk, .int .i64 xn, .slice A1 xms.length c1, .slice A2 xns.length c2, .slice A3 xks.length c3], .agg #[.int .i64 yk, .int .i64 yn, .slice B1 yms.length b1, .slice B2 yns.length b2, .slice B3 yks.length b3]] V fun e w' => e = .returned (.bool ee) ∧ Below V.heap.size V w' by
      have h := exprs_any 5 (XE.mk xk xn (.slice A1 xms.length c1) xms (.slice A2 xns.length c2) xns (.slice A3 xks.length c3) xks) (XE.mk yk yn (.slice B1 yms.length b1) yms (.slice B2 yns.length b2) yns (.slice B3 yks.length b3) yks) V hV.p.ox hV.p.oy HBX.out.small
      rw [HEQ.out] at h; exact h)
    have HSX2 := Lib.hid (fun V (hV : BkB w g q g11 (XE.mk xk xn (.slice A1 xms.length c1) xms (.slice A2 xns.length c2) xns (.slice A3 xks.length c3) xks) (XE.mk yk yn (.slice B1 yms.length b1) yms (.slice B2 yns.length b2) yns (.slice B3 yks.length b3) yks) (XE.mk zk zn (.slice D1 zms.length j1) zms (.slice D2 zns.length j2) zns (.slice D3 zks.length j3) zks) V) => show Calls Tryd.prog 16 #[.agg #[.int .i64 xk, .int .i64 xn, .slice A1 xms.length c1, .slice A2 xns.length c2, .slice A3 xks.length c3], .agg #[.int .i64 yk, .int .i64 yn, .slice B1 yms.length b1, .slice B2 yns.length b2, .slice B3 yks.length b3]] V fun e w' => e = .returned (.bool ee) ∧ Below V.heap.size V w' by
      have h := sameX_any 5 (XE.mk xk xn (.slice A1 xms.length c1) xms (.slice A2 xns.length c2) xns (.slice A3 xks.length c3) xks) (XE.mk yk yn (.slice B1 yms.length b1) yms (.slice B2 yns.length b2) yns (.slice B3 yks.length b3) yks) V hV.p.ox hV.p.oy
      rw [HEQ.out] at h; exact h)
    go_cut [70] from 40 to 70 (fun y70 wx => y70 = .bool false ∧ BkB w g q g11 (XE.mk xk xn (.slice A1 xms.length c1) xms (.slice A2 xns.length c2) xns (.slice A3 xks.length c3) xks) (XE.mk yk yn (.slice B1 yms.length b1) yms (.slice B2 yns.length b2) yns (.slice B3 yks.length b3) yks) (XE.mk zk zn (.slice D1 zms.length j1) zms (.slice D2 zns.length j2) zns (.slice D3 zks.length j3) zks) wx)
    case first =>
      refine wp_region_facts (R := fun a b => Below a.heap.size a b) (G := (fun W => BkB w g q g11 (XE.mk xk xn (.slice A1 xms.length c1) xms (.slice A2 xns.length c2) xns (.slice A3 xks.length c3) xks) (XE.mk yk yn (.slice B1 yms.length b1) yms (.slice B2 yns.length b2) yns (.slice B3 yks.length b3) yks) (XE.mk zk zn (.slice D1 zms.length j1) zms (.slice D2 zns.length j2) zns (.slice D3 zks.length j3) zks) W)) (V := fun i' u' W => match i' with | 0 => u' = .agg #[.int .i64 xk, .int .i64 xn, .slice A1 xms.length c1, .slice A2 xns.length c2, .slice A3 xks.length c3] | 1 => u' = .bool true | 2 => u' = .bool false | 3 => u' = .bool false | 4 => u' = .int .i64 0 | 5 => u' = .bool false | 6 => u' = .bool false | 7 => u' = .bool false | 8 => u' = .agg #[.int .i64 zk, .int .i64 zn, .slice D1 zms.length j1, .slice D2 zns.length j2, .slice D3 zks.length j3] | 9 => u' = .agg #[.int .i64 xk, .int .i64 xn, .slice A1 xms.length c1, .slice A2 xns.length c2, .slice A3 xks.length c3] | 10 => u' = .bool true | 11 => u' = .bool false | 12 => u' = .bool false | 13 => u' = .bool false | 14 => u' = .string sx | 15 => u' = .string sy | 16 => u' = .bool ee | 17 => u' = .agg #[.int .i64 xk, .int .i64 xn, .slice A1 xms.length c1, .slice A2 xns.length c2, .slice A3 xks.length c3] | 18 => u' = .agg #[.int .i64 yk, .int .i64 yn, .slice B1 yms.length b1, .slice B2 yns.length b2, .slice B3 yks.length b3] | 19 => u' = .bool ee | 20 => u' = .bool false | 21 => u' = .bool false | 22 => u' = .bool false | 23 => u' = .agg #[.int .i64 xk, .int .i64 xn, .slice A1 xms.length c1, .slice A2 xns.length c2, .slice A3 xks.length c3] | 24 => u' = .agg #[.int .i64 yk, .int .i64 yn, .slice B1 yms.length b1, .slice B2 yns.length b2, .slice B3 yks.length b3] | 25 => u' = .bool ee | 26 => u' = .agg #[.int .i64 xk, .int .i64 xn, .slice A1 xms.length c1, .slice A2 xns.length c2, .slice A3 xks.length c3] | 27 => u' = .agg #[.int .i64 yk, .int .i64 yn, .slice B1 yms.length b1, .slice B2 yns.length b2, .slice B3 yks.length b3] | 28 => u' = .bool ee | 29 => u' = .bool false | 30 => u' = .bool false | _ => True) (by kernel_rfl) (fun w => Below.refl _ _) (fun a b c h1 h2 => h1.trans (h2.mono h1.size)) (by kernel_rfl) (by kernel_rfl) ?hG ⟨?o0, ?o1, ?o2, ?o3, ?o4, ?o5, ?o6, ?o7, ?o8, ?o9, ?o10, ?o11, ?o12, ?o13, ?o14, ?o15, ?o16, ?o17, ?o18, ?o19, ?o20, ?o21, ?o22, ?o23, ?o24, ?o25, ?o26, ?o27, ?o28, ?o29, ?o30, trivial⟩ ?hend
      case o0 =>
        intro a w hfr hG hd
        refine ⟨fun hw => ?_, fun hw => absurd hw (by simp [Region.wanted])⟩
        have s7 : a.tmps.getD 7 undef = .pointer (some ⟨g, 0, none⟩) := hfr.at 7 (by kernel_rfl)
        obtain ⟨z0, z1, z2, z3, z4⟩ := blk_cells5 hG.now.p.bx; simp only [XE.kd, XE.n, XE.mv, XE.nv, XE.kv] at z0 z1 z2 z3 z4
        refine op_yields (.agg #[.int .i64 xk, .int .i64 xn, .slice A1 xms.length c1, .slice A2 xns.length c2, .slice A3 xks.length c3]) ?_ ?_ ?_
        · simp only [execOp, resolve, List.map_toArray, List.map_cons, List.map_nil, Act.eval, s7]; simp [go_sem, -Array.getD_eq_getD_getElem?, s7, z0, z1, z2, z3, z4]
        · exact Below.refl _ _
        · exact (fun _ _ => rfl)
      case o1 =>
        intro a w hfr hG hd
        obtain ⟨d0, _⟩ := hd
        refine ⟨fun hw => ?_, fun hw => absurd hw (by simp [Region.wanted])⟩
        have s40 : a.tmps.getD 40 undef = .agg #[.int .i64 xk, .int .i64 xn, .slice A1 xms.length c1, .slice A2 xns.length c2, .slice A3 xks.length c3] := (d0 rfl).now
        refine op_calls2 ((HRX.out w hG.now.p.ox).mono fun e' w' hh => ⟨_, hh.1, hh.2, (fun _ _ => rfl)⟩) ?_
        simp only [execOp, resolve, List.map_toArray, List.map_cons, List.map_nil, Act.eval, s40]; simp [go_sem, -Array.getD_eq_getD_getElem?, s40]
      case o2 =>
        intro a w hfr hG hd
        obtain ⟨d0, _⟩ := hd
        refine ⟨fun hw => ?_, fun hw => absurd hw (by simp [Region.wanted])⟩
        have s41 : a.tmps.getD 41 undef = .bool true := (d0 rfl).now
        refine op_yields (.bool false) ?_ ?_ ?_
        · simp only [execOp, resolve, List.map_toArray, List.map_cons, List.map_nil, Act.eval, s41]; simp [go_sem, -Array.getD_eq_getD_getElem?, s41]
        · exact Below.refl _ _
        · exact (fun _ _ => rfl)
      case o3 =>
        intro a w hfr hG hd
        obtain ⟨d0, d1, _⟩ := hd
        refine ⟨fun hw => ?_, fun hw => absurd hw (by simp [Region.wanted])⟩
        have s42 : a.tmps.getD 42 undef = .bool false := (d0 rfl).now
        refine op_yields (.bool false) ?_ ?_ ?_
        · simp only [execOp, resolve, List.map_toArray, List.map_cons, List.map_nil, Act.eval, s42]; simp [go_sem, -Array.getD_eq_getD_getElem?, s42]
        · exact Below.refl _ _
        · exact (fun _ _ => rfl)
      case o4 =>
        intro a w hfr hG hd
        obtain ⟨d0, _⟩ := hd
        have sg : a.tmps.getD 43 undef = .bool false := (d0 rfl).now
        refine ⟨fun hw => ?_, fun hw => by rw [wanted_of rfl (yielded_of rfl sg)] at hw; exact absurd hw (by decide)⟩
        have s13 : a.tmps.getD 13 undef = .int .i64 0 := hfr.at 13 (by kernel_rfl)
        refine op_yields (.int .i64 0) ?_ ?_ ?_
        · simp only [execOp, resolve, List.map_toArray, List.map_cons, List.map_nil, Act.eval, s13]; simp [go_sem, -Array.getD_eq_getD_getElem?, s13]
        · exact Below.refl _ _
        · exact (fun _ _ => rfl)
      case o5 =>
        intro a w hfr hG hd
        obtain ⟨d0, d1, _⟩ := hd
        have sg : a.tmps.getD 43 undef = .bool false := (d1 rfl).now
        refine ⟨fun hw => ?_, fun hw => by rw [wanted_of rfl (yielded_of rfl sg)] at hw; exact absurd hw (by decide)⟩
        have s44 : a.tmps.getD 44 undef = .int .i64 0 := (d0 rfl).now
        refine op_yields (.bool false) ?_ ?_ ?_
        · simp only [execOp, resolve, List.map_toArray, List.map_cons, List.map_nil, Act.eval, s44]; simp [go_sem, -Array.getD_eq_getD_getElem?, s44]
        · exact Below.refl _ _
        · exact (fun _ _ => rfl)
      case o6 =>
        intro a w hfr hG hd
        obtain ⟨d0, d1, _⟩ := hd
        refine ⟨fun hw => ?_, fun hw => absurd hw (by simp [Region.wanted])⟩
        have s43 : a.tmps.getD 43 undef = .bool false := (d0 rfl).now
        have s45 : a.tmps.getD 45 undef = .bool false := (d1 rfl).now
        refine op_yields (.bool false) ?_ ?_ ?_
        · simp only [execOp, resolve, List.map_toArray, List.map_cons, List.map_nil, Act.eval, s43, s45]; simp [go_sem, -Array.getD_eq_getD_getElem?, s43, s45]
        · exact Below.refl _ _
        · exact (fun _ _ => rfl)
      case o7 =>
        intro a w hfr hG hd
        obtain ⟨d0, d1, _⟩ := hd
        refine ⟨fun hw => ?_, fun hw => absurd hw (by simp [Region.wanted])⟩
        have s46 : a.tmps.getD 46 undef = .bool false := (d0 rfl).now
        refine op_yields (.bool false) ?_ ?_ ?_
        · simp only [execOp, resolve, List.map_toArray, List.map_cons, List.map_nil, Act.eval, s46]; simp [go_sem, -Array.getD_eq_getD_getElem?, s46]
        · exact Below.refl _ _
        · exact (fun _ _ => rfl)
      case o8 =>
        intro a w hfr hG hd
        obtain ⟨d0, _⟩ := hd
        have sg : a.tmps.getD 47 undef = .bool false := (d0 rfl).now
        refine ⟨fun hw => ?_, fun hw => by rw [wanted_of rfl (yielded_of rfl sg)] at hw; exact absurd hw (by decide)⟩
        have s11 : a.tmps.getD 11 undef = .pointer (some ⟨g11, 0, none⟩) := hfr.at 11 (by kernel_rfl)
        obtain ⟨z0, z1, z2, z3, z4⟩ := blk_cells5 hG.now.bz; simp only [XE.kd, XE.n, XE.mv, XE.nv, XE.kv] at z0 z1 z2 z3 z4
        refine op_yields (.agg #[.int .i64 zk, .int .i64 zn, .slice D1 zms.length j1, .slice D2 zns.length j2, .slice D3 zks.length j3]) ?_ ?_ ?_
        · simp only [execOp, resolve, List.map_toArray, List.map_cons, List.map_nil, Act.eval, s11]; simp [go_sem, -Array.getD_eq_getD_getElem?, s11, z0, z1, z2, z3, z4]
        · exact Below.refl _ _
        · exact (fun _ _ => rfl)
      case o9 =>
        intro a w hfr hG hd
        obtain ⟨d0, _⟩ := hd
        have sg : a.tmps.getD 47 undef = .bool false := (d0 rfl).now
        refine ⟨fun hw => ?_, fun hw => by rw [wanted_of rfl (yielded_of rfl sg)] at hw; exact absurd hw (by decide)⟩
        have s7 : a.tmps.getD 7 undef = .pointer (some ⟨g, 0, none⟩) := hfr.at 7 (by kernel_rfl)
        obtain ⟨z0, z1, z2, z3, z4⟩ := blk_cells5 hG.now.p.bx; simp only [XE.kd, XE.n, XE.mv, XE.nv, XE.kv] at z0 z1 z2 z3 z4
        refine op_yields (.agg #[.int .i64 xk, .int .i64 xn, .slice A1 xms.length c1, .slice A2 xns.length c2, .slice A3 xks.length c3]) ?_ ?_ ?_
        · simp only [execOp, resolve, List.map_toArray, List.map_cons, List.map_nil, Act.eval, s7]; simp [go_sem, -Array.getD_eq_getD_getElem?, s7, z0, z1, z2, z3, z4]
        · exact Below.refl _ _
        · exact (fun _ _ => rfl)
      case o10 =>
        intro a w hfr hG hd
        obtain ⟨d0, d1, d2, d3, _⟩ := hd
        have sg : a.tmps.getD 47 undef = .bool false := (d2 rfl).now
        refine ⟨fun hw => ?_, fun hw => by rw [wanted_of rfl (yielded_of rfl sg)] at hw; exact absurd hw (by decide)⟩
        have s48 : a.tmps.getD 48 undef = .agg #[.int .i64 zk, .int .i64 zn, .slice D1 zms.length j1, .slice D2 zns.length j2, .slice D3 zks.length j3] := (d0 rfl).now
        have s49 : a.tmps.getD 49 undef = .agg #[.int .i64 xk, .int .i64 xn, .slice A1 xms.length c1, .slice A2 xns.length c2, .slice A3 xks.length c3] := (d1 rfl).now
        refine op_calls2 ((HEZ.out w hG.now).mono fun e' w' hh => ⟨_, hh.1, hh.2, (fun _ _ => rfl)⟩) ?_
        simp only [execOp, resolve, List.map_toArray, List.map_cons, List.map_nil, Act.eval, s48, s49]; simp [go_sem, -Array.getD_eq_getD_getElem?, s48, s49]
      case o11 =>
        intro a w hfr hG hd
        obtain ⟨d0, d1, _⟩ := hd
        have sg : a.tmps.getD 47 undef = .bool false := (d1 rfl).now
        refine ⟨fun hw => ?_, fun hw => by rw [wanted_of rfl (yielded_of rfl sg)] at hw; exact absurd hw (by decide)⟩
        have s50 : a.tmps.getD 50 undef = .bool true := (d0 rfl).now
        refine op_yields (.bool false) ?_ ?_ ?_
        · simp only [execOp, resolve, List.map_toArray, List.map_cons, List.map_nil, Act.eval, s50]; simp [go_sem, -Array.getD_eq_getD_getElem?, s50]
        · exact Below.refl _ _
        · exact (fun _ _ => rfl)
      case o12 =>
        intro a w hfr hG hd
        obtain ⟨d0, d1, _⟩ := hd
        refine ⟨fun hw => ?_, fun hw => absurd hw (by simp [Region.wanted])⟩
        have s47 : a.tmps.getD 47 undef = .bool false := (d0 rfl).now
        have s51 : a.tmps.getD 51 undef = .bool false := (d1 rfl).now
        refine op_yields (.bool false) ?_ ?_ ?_
        · simp only [execOp, resolve, List.map_toArray, List.map_cons, List.map_nil, Act.eval, s47, s51]; simp [go_sem, -Array.getD_eq_getD_getElem?, s47, s51]
        · exact Below.refl _ _
        · exact (fun _ _ => rfl)
      case o13 =>
        intro a w hfr hG hd
        obtain ⟨d0, d1, _⟩ := hd
        refine ⟨fun hw => ?_, fun hw => absurd hw (by simp [Region.wanted])⟩
        have s52 : a.tmps.getD 52 undef = .bool false := (d0 rfl).now
        refine op_yields (.bool false) ?_ ?_ ?_
        · simp only [execOp, resolve, List.map_toArray, List.map_cons, List.map_nil, Act.eval, s52]; simp [go_sem, -Array.getD_eq_getD_getElem?, s52]
        · exact Below.refl _ _
        · exact (fun _ _ => rfl)
      case o14 =>
        intro a w hfr hG hd
        obtain ⟨d0, _⟩ := hd
        have sg : a.tmps.getD 53 undef = .bool false := (d0 rfl).now
        refine ⟨fun hw => ?_, fun hw => by rw [wanted_of rfl (yielded_of rfl sg)] at hw; exact absurd hw (by decide)⟩
        have s9 : a.tmps.getD 9 undef = .string sx := hfr.at 9 (by kernel_rfl)
        refine op_yields (.string sx) ?_ ?_ ?_
        · simp only [execOp, resolve, List.map_toArray, List.map_cons, List.map_nil, Act.eval, s9]; simp [go_sem, -Array.getD_eq_getD_getElem?, s9]
        · exact Below.refl _ _
        · exact (fun _ _ => rfl)
      case o15 =>
        intro a w hfr hG hd
        obtain ⟨d0, _⟩ := hd
        have sg : a.tmps.getD 53 undef = .bool false := (d0 rfl).now
        refine ⟨fun hw => ?_, fun hw => by rw [wanted_of rfl (yielded_of rfl sg)] at hw; exact absurd hw (by decide)⟩
        have s10 : a.tmps.getD 10 undef = .string sy := hfr.at 10 (by kernel_rfl)
        refine op_yields (.string sy) ?_ ?_ ?_
        · simp only [execOp, resolve, List.map_toArray, List.map_cons, List.map_nil, Act.eval, s10]; simp [go_sem, -Array.getD_eq_getD_getElem?, s10]
        · exact Below.refl _ _
        · exact (fun _ _ => rfl)
      case o16 =>
        intro a w hfr hG hd
        obtain ⟨d0, d1, d2, _⟩ := hd
        have sg : a.tmps.getD 53 undef = .bool false := (d2 rfl).now
        refine ⟨fun hw => ?_, fun hw => by rw [wanted_of rfl (yielded_of rfl sg)] at hw; exact absurd hw (by decide)⟩
        have s54 : a.tmps.getD 54 undef = .string sx := (d0 rfl).now
        have s55 : a.tmps.getD 55 undef = .string sy := (d1 rfl).now
        refine op_yields (.bool ee) ?_ ?_ ?_
        · simp only [execOp, resolve, List.map_toArray, List.map_cons, List.map_nil, Act.eval, s54, s55]; simp [go_sem, -Array.getD_eq_getD_getElem?, s54, s55, HEE.out]
        · exact Below.refl _ _
        · exact (fun _ _ => rfl)
      case o17 =>
        intro a w hfr hG hd
        obtain ⟨d0, _⟩ := hd
        have sg : a.tmps.getD 53 undef = .bool false := (d0 rfl).now
        refine ⟨fun hw => ?_, fun hw => by rw [wanted_of rfl (yielded_of rfl sg)] at hw; exact absurd hw (by decide)⟩
        have s7 : a.tmps.getD 7 undef = .pointer (some ⟨g, 0, none⟩) := hfr.at 7 (by kernel_rfl)
        obtain ⟨z0, z1, z2, z3, z4⟩ := blk_cells5 hG.now.p.bx; simp only [XE.kd, XE.n, XE.mv, XE.nv, XE.kv] at z0 z1 z2 z3 z4
        refine op_yields (.agg #[.int .i64 xk, .int .i64 xn, .slice A1 xms.length c1, .slice A2 xns.length c2, .slice A3 xks.length c3]) ?_ ?_ ?_
        · simp only [execOp, resolve, List.map_toArray, List.map_cons, List.map_nil, Act.eval, s7]; simp [go_sem, -Array.getD_eq_getD_getElem?, s7, z0, z1, z2, z3, z4]
        · exact Below.refl _ _
        · exact (fun _ _ => rfl)
      case o18 =>
        intro a w hfr hG hd
        obtain ⟨d0, _⟩ := hd
        have sg : a.tmps.getD 53 undef = .bool false := (d0 rfl).now
        refine ⟨fun hw => ?_, fun hw => by rw [wanted_of rfl (yielded_of rfl sg)] at hw; exact absurd hw (by decide)⟩
        have s8 : a.tmps.getD 8 undef = .pointer (some ⟨q, 0, none⟩) := hfr.at 8 (by kernel_rfl)
        obtain ⟨z0, z1, z2, z3, z4⟩ := blk_cells5 hG.now.p.by_; simp only [XE.kd, XE.n, XE.mv, XE.nv, XE.kv] at z0 z1 z2 z3 z4
        refine op_yields (.agg #[.int .i64 yk, .int .i64 yn, .slice B1 yms.length b1, .slice B2 yns.length b2, .slice B3 yks.length b3]) ?_ ?_ ?_
        · simp only [execOp, resolve, List.map_toArray, List.map_cons, List.map_nil, Act.eval, s8]; simp [go_sem, -Array.getD_eq_getD_getElem?, s8, z0, z1, z2, z3, z4]
        · exact Below.refl _ _
        · exact (fun _ _ => rfl)
      case o19 =>
        intro a w hfr hG hd
        obtain ⟨d0, d1, d2, d3, _⟩ := hd
        have sg : a.tmps.getD 53 undef = .bool false := (d2 rfl).now
        refine ⟨fun hw => ?_, fun hw => by rw [wanted_of rfl (yielded_of rfl sg)] at hw; exact absurd hw (by decide)⟩
        have s57 : a.tmps.getD 57 undef = .agg #[.int .i64 xk, .int .i64 xn, .slice A1 xms.length c1, .slice A2 xns.length c2, .slice A3 xks.length c3] := (d0 rfl).now
        have s58 : a.tmps.getD 58 undef = .agg #[.int .i64 yk, .int .i64 yn, .slice B1 yms.length b1, .slice B2 yns.length b2, .slice B3 yks.length b3] := (d1 rfl).now
        refine op_calls2 ((HEX.out w hG.now).mono fun e' w' hh => ⟨_, hh.1, hh.2, (fun _ _ => rfl)⟩) ?_
        simp only [execOp, resolve, List.map_toArray, List.map_cons, List.map_nil, Act.eval, s57, s58]; simp [go_sem, -Array.getD_eq_getD_getElem?, s57, s58]
      case o20 =>
        intro a w hfr hG hd
        obtain ⟨d0, d1, d2, _⟩ := hd
        have sg : a.tmps.getD 53 undef = .bool false := (d2 rfl).now
        refine ⟨fun hw => ?_, fun hw => by rw [wanted_of rfl (yielded_of rfl sg)] at hw; exact absurd hw (by decide)⟩
        have s56 : a.tmps.getD 56 undef = .bool ee := (d0 rfl).now
        have s59 : a.tmps.getD 59 undef = .bool ee := (d1 rfl).now
        refine op_yields (.bool false) ?_ ?_ ?_
        · simp only [execOp, resolve, List.map_toArray, List.map_cons, List.map_nil, Act.eval, s56, s59]; simp [go_sem, -Array.getD_eq_getD_getElem?, s56, s59]
        · exact Below.refl _ _
        · exact (fun _ _ => rfl)
      case o21 =>
        intro a w hfr hG hd
        obtain ⟨d0, d1, _⟩ := hd
        refine ⟨fun hw => ?_, fun hw => absurd hw (by simp [Region.wanted])⟩
        have s53 : a.tmps.getD 53 undef = .bool false := (d0 rfl).now
        have s60 : a.tmps.getD 60 undef = .bool false := (d1 rfl).now
        refine op_yields (.bool false) ?_ ?_ ?_
        · simp only [execOp, resolve, List.map_toArray, List.map_cons, List.map_nil, Act.eval, s53, s60]; simp [go_sem, -Array.getD_eq_getD_getElem?, s53, s60]
        · exact Below.refl _ _
        · exact (fun _ _ => rfl)
      case o22 =>
        intro a w hfr hG hd
        obtain ⟨d0, d1, _⟩ := hd
        refine ⟨fun hw => ?_, fun hw => absurd hw (by simp [Region.wanted])⟩
        have s61 : a.tmps.getD 61 undef = .bool false := (d0 rfl).now
        refine op_yields (.bool false) ?_ ?_ ?_
        · simp only [execOp, resolve, List.map_toArray, List.map_cons, List.map_nil, Act.eval, s61]; simp [go_sem, -Array.getD_eq_getD_getElem?, s61]
        · exact Below.refl _ _
        · exact (fun _ _ => rfl)
      case o23 =>
        intro a w hfr hG hd
        obtain ⟨d0, _⟩ := hd
        have sg : a.tmps.getD 62 undef = .bool false := (d0 rfl).now
        refine ⟨fun hw => ?_, fun hw => by rw [wanted_of rfl (yielded_of rfl sg)] at hw; exact absurd hw (by decide)⟩
        have s7 : a.tmps.getD 7 undef = .pointer (some ⟨g, 0, none⟩) := hfr.at 7 (by kernel_rfl)
        obtain ⟨z0, z1, z2, z3, z4⟩ := blk_cells5 hG.now.p.bx; simp only [XE.kd, XE.n, XE.mv, XE.nv, XE.kv] at z0 z1 z2 z3 z4
        refine op_yields (.agg #[.int .i64 xk, .int .i64 xn, .slice A1 xms.length c1, .slice A2 xns.length c2, .slice A3 xks.length c3]) ?_ ?_ ?_
        · simp only [execOp, resolve, List.map_toArray, List.map_cons, List.map_nil, Act.eval, s7]; simp [go_sem, -Array.getD_eq_getD_getElem?, s7, z0, z1, z2, z3, z4]
        · exact Below.refl _ _
        · exact (fun _ _ => rfl)
      case o24 =>
        intro a w hfr hG hd
        obtain ⟨d0, _⟩ := hd
        have sg : a.tmps.getD 62 undef = .bool false := (d0 rfl).now
        refine ⟨fun hw => ?_, fun hw => by rw [wanted_of rfl (yielded_of rfl sg)] at hw; exact absurd hw (by decide)⟩
        have s8 : a.tmps.getD 8 undef = .pointer (some ⟨q, 0, none⟩) := hfr.at 8 (by kernel_rfl)
        obtain ⟨z0, z1, z2, z3, z4⟩ := blk_cells5 hG.now.p.by_; simp only [XE.kd, XE.n, XE.mv, XE.nv, XE.kv] at z0 z1 z2 z3 z4
        refine op_yields (.agg #[.int .i64 yk, .int .i64 yn, .slice B1 yms.length b1, .slice B2 yns.length b2, .slice B3 yks.length b3]) ?_ ?_ ?_
        · simp only [execOp, resolve, List.map_toArray, List.map_cons, List.map_nil, Act.eval, s8]; simp [go_sem, -Array.getD_eq_getD_getElem?, s8, z0, z1, z2, z3, z4]
        · exact Below.refl _ _
        · exact (fun _ _ => rfl)
      case o25 =>
        intro a w hfr hG hd
        obtain ⟨d0, d1, d2, d3, _⟩ := hd
        have sg : a.tmps.getD 62 undef = .bool false := (d2 rfl).now
        refine ⟨fun hw => ?_, fun hw => by rw [wanted_of rfl (yielded_of rfl sg)] at hw; exact absurd hw (by decide)⟩
        have s63 : a.tmps.getD 63 undef = .agg #[.int .i64 xk, .int .i64 xn, .slice A1 xms.length c1, .slice A2 xns.length c2, .slice A3 xks.length c3] := (d0 rfl).now
        have s64 : a.tmps.getD 64 undef = .agg #[.int .i64 yk, .int .i64 yn, .slice B1 yms.length b1, .slice B2 yns.length b2, .slice B3 yks.length b3] := (d1 rfl).now
        refine op_calls2 ((HSX2.out w hG.now).mono fun e' w' hh => ⟨_, hh.1, hh.2, (fun _ _ => rfl)⟩) ?_
        simp only [execOp, resolve, List.map_toArray, List.map_cons, List.map_nil, Act.eval, s63, s64]; simp [go_sem, -Array.getD_eq_getD_getElem?, s63, s64]
      case o26 =>
        intro a w hfr hG hd
        obtain ⟨d0, _⟩ := hd
        have sg : a.tmps.getD 62 undef = .bool false := (d0 rfl).now
        refine ⟨fun hw => ?_, fun hw => by rw [wanted_of rfl (yielded_of rfl sg)] at hw; exact absurd hw (by decide)⟩
        have s7 : a.tmps.getD 7 undef = .pointer (some ⟨g, 0, none⟩) := hfr.at 7 (by kernel_rfl)
        obtain ⟨z0, z1, z2, z3, z4⟩ := blk_cells5 hG.now.p.bx; simp only [XE.kd, XE.n, XE.mv, XE.nv, XE.kv] at z0 z1 z2 z3 z4
        refine op_yields (.agg #[.int .i64 xk, .int .i64 xn, .slice A1 xms.length c1, .slice A2 xns.length c2, .slice A3 xks.length c3]) ?_ ?_ ?_
        · simp only [execOp, resolve, List.map_toArray, List.map_cons, List.map_nil, Act.eval, s7]; simp [go_sem, -Array.getD_eq_getD_getElem?, s7, z0, z1, z2, z3, z4]
        · exact Below.refl _ _
        · exact (fun _ _ => rfl)
      case o27 =>
        intro a w hfr hG hd
        obtain ⟨d0, _⟩ := hd
        have sg : a.tmps.getD 62 undef = .bool false := (d0 rfl).now
        refine ⟨fun hw => ?_, fun hw => by rw [wanted_of rfl (yielded_of rfl sg)] at hw; exact absurd hw (by decide)⟩
        have s8 : a.tmps.getD 8 undef = .pointer (some ⟨q, 0, none⟩) := hfr.at 8 (by kernel_rfl)
        obtain ⟨z0, z1, z2, z3, z4⟩ := blk_cells5 hG.now.p.by_; simp only [XE.kd, XE.n, XE.mv, XE.nv, XE.kv] at z0 z1 z2 z3 z4
        refine op_yields (.agg #[.int .i64 yk, .int .i64 yn, .slice B1 yms.length b1, .slice B2 yns.length b2, .slice B3 yks.length b3]) ?_ ?_ ?_
        · simp only [execOp, resolve, List.map_toArray, List.map_cons, List.map_nil, Act.eval, s8]; simp [go_sem, -Array.getD_eq_getD_getElem?, s8, z0, z1, z2, z3, z4]
        · exact Below.refl _ _
        · exact (fun _ _ => rfl)
      case o28 =>
        intro a w hfr hG hd
        obtain ⟨d0, d1, d2, d3, _⟩ := hd
        have sg : a.tmps.getD 62 undef = .bool false := (d3 rfl).now
        refine ⟨fun hw => ?_, fun hw => by rw [wanted_of rfl (yielded_of rfl sg)] at hw; exact absurd hw (by decide)⟩
        have s66 : a.tmps.getD 66 undef = .agg #[.int .i64 xk, .int .i64 xn, .slice A1 xms.length c1, .slice A2 xns.length c2, .slice A3 xks.length c3] := (d0 rfl).now
        have s67 : a.tmps.getD 67 undef = .agg #[.int .i64 yk, .int .i64 yn, .slice B1 yms.length b1, .slice B2 yns.length b2, .slice B3 yks.length b3] := (d1 rfl).now
        refine op_calls2 ((HEX.out w hG.now).mono fun e' w' hh => ⟨_, hh.1, hh.2, (fun _ _ => rfl)⟩) ?_
        simp only [execOp, resolve, List.map_toArray, List.map_cons, List.map_nil, Act.eval, s66, s67]; simp [go_sem, -Array.getD_eq_getD_getElem?, s66, s67]
      case o29 =>
        intro a w hfr hG hd
        obtain ⟨d0, d1, d2, _⟩ := hd
        have sg : a.tmps.getD 62 undef = .bool false := (d2 rfl).now
        refine ⟨fun hw => ?_, fun hw => by rw [wanted_of rfl (yielded_of rfl sg)] at hw; exact absurd hw (by decide)⟩
        have s65 : a.tmps.getD 65 undef = .bool ee := (d0 rfl).now
        have s68 : a.tmps.getD 68 undef = .bool ee := (d1 rfl).now
        refine op_yields (.bool false) ?_ ?_ ?_
        · simp only [execOp, resolve, List.map_toArray, List.map_cons, List.map_nil, Act.eval, s65, s68]; simp [go_sem, -Array.getD_eq_getD_getElem?, s65, s68]
        · exact Below.refl _ _
        · exact (fun _ _ => rfl)
      case o30 =>
        intro a w hfr hG hd
        obtain ⟨d0, d1, _⟩ := hd
        refine ⟨fun hw => ?_, fun hw => absurd hw (by simp [Region.wanted])⟩
        have s62 : a.tmps.getD 62 undef = .bool false := (d0 rfl).now
        have s69 : a.tmps.getD 69 undef = .bool false := (d1 rfl).now
        refine op_yields (.bool false) ?_ ?_ ?_
        · simp only [execOp, resolve, List.map_toArray, List.map_cons, List.map_nil, Act.eval, s62, s69]; simp [go_sem, -Array.getD_eq_getD_getElem?, s62, s69]
        · exact Below.refl _ _
        · exact (fun _ _ => rfl)
      case hG => exact fun w' hb => HBK.out.below ((Below.refl _ _).drew.trans (hb.mono (by simp)))
      case hend =>
        intro vs w' hG hv
        have key : vs 30 = .bool false := by
          obtain ⟨_, _, _, _, _, _, _, _, _, _, _, _, _, _, _, _, _, _, _, _, _, _, _, _, _, _, _, _, _, _, h30, _⟩ := hv
          exact h30.now
        have HB2 := Lib.hid hG.now
        clear hv hG HBK HRX HEZ HEX HSX2
        simp only [putAll, Act.put, key]
        clear key
        go_simp
        go_wp2_with fail
        go_meet
        exact ⟨rfl, HB2.out⟩
    case rest =>
      obtain ⟨rfl, hat⟩ := hcut
      clear HBK HRX HEZ HEX HSX2 HEE HEQ
      have HBK := Lib.hid hat
      clear hat
      obtain ⟨ts, hts⟩ := HBX.out.ts
      have HTS := Lib.hid hts
      have HTK := Lib.hid (fun V => show Calls Tryd.prog 17 #[.string sx] V (fun e w' => ∃ (A : Option Addr) (c : Nat), e = .returned (.tuple #[.slice A ts.length c, .int .i64 0, .int .i64 0]) ∧ w'.ownsRow V.heap.size 43 4 (.slice A ts.length c) ts.length (tcells ts) ∧ Below V.heap.size V w' ∧ ts.length ≤ c ∧ c ≤ 9223372036854775807) by
        have h := tokens_any sx V (by have h1 := HSZ.out; have h2 := HBX.out.text; omega)
        rw [HSX.out, HTS.out.eq, HSZ.out] at h
        exact h.mono fun e w' hh => by unfold TokAns at hh; rw [if_neg (Nat.lt_irrefl _)] at hh; exact hh)
      clear hts
      go_wp2_with fail
      (with_reducible refine (HTK.out _).mono ?_); rintro e w6 ⟨A, c, rfl, hown, hb6, hac, hcm⟩
      have HBK_n := Lib.hid (HBK.out.below hb6); clear HBK; have HBK := HBK_n; clear HBK_n
      have hn237 : ts.length ≤ 237 := by rw [HTS.out.len]; exact HBX.out.toks
      obtain ⟨n, hn⟩ : ∃ n, ts.length = n := ⟨_, rfl⟩
      have HNN := Lib.hid hn
      rw [hn] at hown hac hn237 ⊢
      have HSE := Lib.hid (fun V (hV : Below w6.heap.size w6 V) => (Sees.of_own hown).below hV)
      clear hown hb6 HTK hn
      go_wp2_with fail
      go_loopg [17, 18, 19, 81] n (fun g y17 y18 y19 y81 wr => ∃ (i : Nat) (s : ByteArray) (l : List UInt8), i + g = n ∧ y81 = .int .i64 i ∧ y17 = .string s ∧ Hid (s.data.toList = l ∧ Spelt (ts.take i) l) ∧ Below w6.heap.size w6 wr)
      case atStart => exact ⟨0, _, [], by omega, rfl, rfl, Lib.hid ⟨rfl, by rw [List.take_zero]; exact .nil⟩, Below.refl _ _⟩
      case round =>
        obtain ⟨i, s, l, hig, rfl, rfl, HS, hbel⟩ := hrel
        have HBE := Lib.hid hbel
        have hss : s.size ≤ 2005 * i := by
          have h1 := ba_len s
          have h2 := HS.out.2.len (fun t ht => HTS.out.ok t (List.mem_of_mem_take ht))
          rw [HS.out.1] at h1
          have h3 := List.length_take_le i ts
          have h4 : 2005 * (ts.take i).length ≤ 2005 * i := Nat.mul_le_mul_left _ h3
          omega
        clear hbel
        cases gk with
        | zero =>
          obtain rfl : i = n := by omega
          have HPB := Lib.hid (parse_x (s ++ ⟨#[32]⟩) wr (by rw [ByteArray.size_append]; show s.size + 1 ≤ _; omega))
          rw [show (s ++ (⟨#[32]⟩ : ByteArray)).data.toList = l ++ [32] by rw [ByteArray.data_append, Array.toList_append, HS.out.1], HBX.out.spelt HTS.out (show Spelt ts l by have h := HS.out.2; rw [List.take_of_length_le (by rw [HNN.out]; exact Nat.le_refl _)] at h; exact h)] at HPB
          have HBK_n := Lib.hid (HBK.out.below (HBE.out.mono (Nat.le_refl _))); clear HBK; have HBK := HBK_n; clear HBK_n
          have l1 : ¬ (9223372036854775807 < s.size + 1) := by omega
          have HRD := Lib.hid (fun V (hV : Below w6.heap.size w6 V) => readTop_x A i c ts V ((HSE.out V hV).more hV.size) hac hcm (by omega) (fun t ht => by have h1 := HTS.out.at_ t ht; have h2 := HBX.out.text; omega))
          rw [show readF ts (endF ts) i = (((XE.mk xk xn (.slice A1 xms.length c1) xms (.slice A2 xns.length c2) xns (.slice A3 xks.length c3) xks)).pe, 0, 0) by rw [← HNN.out]; exact HBX.out.read HTS.out _] at HRD
          clear hig HS hss
          go_wp2_with fail
          (with_reducible refine HPB.out.mono ?_); rintro e w7 hx
          obtain ⟨uk, un, E1, l1, ums, E2, l2, uns, E3, l3, uks, rfl, hp, hf, hw⟩ := hx.forms
          have HQU := Lib.hid hp
          simp only at HQU
          have ha := (Below.refl w7.heap.size w7).alloc (Nat.le_refl _) (.cells #[.int .i64 uk, .int .i64 un, .slice E1 ums.length l1, .slice E2 uns.length l2, .slice E3 uks.length l3] 26)
          have HU : Hid (XBox _ 9 uk un E1 l1 ums E2 l2 uns E3 l3 uks _) := Lib.hid (XBox.new hf.now)
          have HBK_n := Lib.hid ((HBK.out.below hw).below ha); clear HBK; have HBK := HBK_n; clear HBK_n
          have HBE_n := Lib.hid ((HBE.out.trans (hw.mono HBE.out.size)).trans (ha.mono (Nat.le_trans HBE.out.size hw.size))); clear HBE; have HBE := HBE_n; clear HBE_n
          clear hx hp hf hw HPB ha
          go_upto_region 19 with fail
          obtain ⟨g20, hg20⟩ : ∃ g, w7.heap.size = g := ⟨_, rfl⟩
          rw [hg20] at HU ⊢
          clear hg20
          generalize w7.alloc (.cells #[.int .i64 uk, .int .i64 un, .slice E1 ums.length l1, .slice E2 uns.length l2, .slice E3 uks.length l3] 26) = W8 at *
          go_wp2_with fail
          (with_reducible refine (HRD.out _ HBE.out).mono ?_); rintro e w9 hx
          obtain ⟨vk, vn, F1, r1, vms, F2, r2, vns, F3, r3, vks, rfl, hp, hf, hw⟩ := hx.forms
          have HQV := Lib.hid hp
          simp only at HQV
          have ha := (Below.refl w9.heap.size w9).alloc (Nat.le_refl _) (.cells #[.int .i64 vk, .int .i64 vn, .slice F1 vms.length r1, .slice F2 vns.length r2, .slice F3 vks.length r3] 26)
          have HV : Hid (XBox _ 9 vk vn F1 r1 vms F2 r2 vns F3 r3 vks _) := Lib.hid (XBox.new hf.now)
          have HBK_n := Lib.hid ((HBK.out.below hw).below ha); clear HBK; have HBK := HBK_n; clear HBK_n
          have HU_n := Lib.hid ((HU.out.below hw).below ha); clear HU; have HU := HU_n; clear HU_n
          clear hx hp hf hw ha HRD HBE
          go_upto_region 20 with fail
          obtain ⟨g23, hg23⟩ : ∃ g, w9.heap.size = g := ⟨_, rfl⟩
          rw [hg23] at HV ⊢
          clear hg23
          generalize w9.alloc (.cells #[.int .i64 vk, .int .i64 vn, .slice F1 vms.length r1, .slice F2 vns.length r2, .slice F3 vks.length r3] 26) = W10 at *
          have HEU := Lib.hid (fun V (hV : BkB w g q g11 (XE.mk xk xn (.slice A1 xms.length c1) xms (.slice A2 xns.length c2) xns (.slice A3 xks.length c3) xks) (XE.mk yk yn (.slice B1 yms.length b1) yms (.slice B2 yns.length b2) yns (.slice B3 yks.length b3) yks) (XE.mk zk zn (.slice D1 zms.length j1) zms (.slice D2 zns.length j2) zns (.slice D3 zks.length j3) zks) V) (hU : XBox g20 9 uk un E1 l1 ums E2 l2 uns E3 l3 uks V) => show Calls Tryd.prog 15 #[.agg #[.int .i64 uk, .int .i64 un, .slice E1 ums.length l1, .slice E2 uns.length l2, .slice E3 uks.length l3], .agg #[.int .i64 xk, .int .i64 xn, .slice A1 xms.length c1, .slice A2 xns.length c2, .slice A3 xks.length c3]] V fun e w' => e = .returned (.bool true) ∧ Below V.heap.size V w' by
            have h := exprs_any 9 (XE.mk uk un (.slice E1 ums.length l1) ums (.slice E2 uns.length l2) uns (.slice E3 uks.length l3) uks) (XE.mk xk xn (.slice A1 xms.length c1) xms (.slice A2 xns.length c2) xns (.slice A3 xks.length c3) xks) V hU.ok (okX_floors hV.p.ox 4) (by rw [HQU.out]; exact HBX.out.small)
            rw [eqPE_yes HQU.out] at h; exact h)
          have HEV := Lib.hid (fun V (hV : BkB w g q g11 (XE.mk xk xn (.slice A1 xms.length c1) xms (.slice A2 xns.length c2) xns (.slice A3 xks.length c3) xks) (XE.mk yk yn (.slice B1 yms.length b1) yms (.slice B2 yns.length b2) yns (.slice B3 yks.length b3) yks) (XE.mk zk zn (.slice D1 zms.length j1) zms (.slice D2 zns.length j2) zns (.slice D3 zks.length j3) zks) V) (hU : XBox g23 9 vk vn F1 r1 vms F2 r2 vns F3 r3 vks V) => show Calls Tryd.prog 15 #[.agg #[.int .i64 vk, .int .i64 vn, .slice F1 vms.length r1, .slice F2 vns.length r2, .slice F3 vks.length r3], .agg #[.int .i64 xk, .int .i64 xn, .slice A1 xms.length c1, .slice A2 xns.length c2, .slice A3 xks.length c3]] V fun e w' => e = .returned (.bool true) ∧ Below V.heap.size V w' by
            have h := exprs_any 9 (XE.mk vk vn (.slice F1 vms.length r1) vms (.slice F2 vns.length r2) vns (.slice F3 vks.length r3) vks) (XE.mk xk xn (.slice A1 xms.length c1) xms (.slice A2 xns.length c2) xns (.slice A3 xks.length c3) xks) V hU.ok (okX_floors hV.p.ox 4) (by rw [HQV.out]; exact HBX.out.small)
            rw [eqPE_yes HQV.out] at h; exact h)
          have HRU := Lib.hid (fun V (hV : Below w.heap.size w V) => expr_runs V (tab_of HT.out hV))
          obtain ⟨x0, x1, x2, x3, x4⟩ := blk_cells5 HBK.out.p.bx
          simp only [XE.kd, XE.n, XE.mv, XE.nv, XE.kv] at x0 x1 x2 x3 x4
          obtain ⟨y0, y1, y2, y3, y4⟩ := blk_cells5 HU.out.blk
          go_wp2_with fail
          (with_reducible refine (HEU.out _ HBK.out HU.out).mono ?_); rintro e w11 ⟨rfl, hb⟩
          have HBK_n := Lib.hid (HBK.out.below hb); clear HBK; have HBK := HBK_n; clear HBK_n
          have HV_n := Lib.hid (HV.out.below hb); clear HV; have HV := HV_n; clear HV_n
          clear hb x0 x1 x2 x3 x4 y0 y1 y2 y3 y4
          obtain ⟨x0, x1, x2, x3, x4⟩ := blk_cells5 HBK.out.p.bx
          simp only [XE.kd, XE.n, XE.mv, XE.nv, XE.kv] at x0 x1 x2 x3 x4
          obtain ⟨y0, y1, y2, y3, y4⟩ := blk_cells5 HV.out.blk
          go_wp2_with fail
          (with_reducible refine (HEV.out _ HBK.out HV.out).mono ?_); rintro e w12 ⟨rfl, hb⟩
          have HBK_n := Lib.hid (HBK.out.below hb); clear HBK; have HBK := HBK_n; clear HBK_n
          clear hb x0 x1 x2 x3 x4 y0 y1 y2 y3 y4
          go_wp2_with fail
          (with_reducible refine (HRU.out _ HBK.out.p.bel).mono ?_); rintro e w13 ⟨rfl, hb⟩
          have HB := Lib.hid (HBK.out.p.bel.trans (hb.mono HBK.out.p.bel.size))
          clear hb
          go_wp2_with fail
          go_ret
          exact ⟨rfl, HB.out⟩
        | succ gg =>
          have hlt : i < n := by omega
          obtain ⟨ad, hkl, rfl, e0, e1, e2, e3⟩ := Sees.tok (HSE.out _ HBE.out) hlt
          have HOK := Lib.hid (HTS.out.ok ts[i] (List.getElem_mem hkl))
          have HN1 := Lib.hid (show Spelt (ts.take (i + 1)) (l ++ 32 :: tokL ts[i]) from by rw [List.take_succ_eq_append_getElem hkl]; exact .one _ HS.out.2)
          have HN2 := Lib.hid (show Spelt (ts.take (i + 1)) (l ++ 32 :: 10 :: 32 :: tokL ts[i]) from by rw [List.take_succ_eq_append_getElem hkl]; exact .two _ HS.out.2)
          have HS1 := Lib.hid HS.out.1
          clear HS
          generalize ts[i] = t at *
          obtain ⟨tk, tn, ta, tx⟩ := t
          simp only at e0 e1 e2 e3
          have HBT : Hid (Blk (wr.alloc (.cells #[.int .i64 tk, .int .i64 tn, .int .i64 ta, .string tx] 43)) wr.heap.size 43 [.int .i64 tk, .int .i64 tn, .int .i64 ta, .string tx]) := Lib.hid (Blk.mk (heap_alloc_new wr _))
          have HBE2 := Lib.hid (HBE.out.alloc HBE.out.size (.cells #[.int .i64 tk, .int .i64 tn, .int .i64 ta, .string tx] 43))
          clear hkl
          go_upto_region 13 with fail
          obtain ⟨g19, hg19⟩ : ∃ g, wr.heap.size = g := ⟨_, rfl⟩
          rw [hg19] at HBT ⊢
          clear hg19 e0 e1 e2 e3 HBE
          generalize wr.alloc (.cells #[.int .i64 tk, .int .i64 tn, .int .i64 ta, .string tx] 43) = W7 at *
          have HJN0 := Lib.hid (fun V (hV : Below w6.heap.size w6 V) => show Calls Tryd.prog 18 #[.slice (some ⟨V.heap.size, 0, none⟩) 1 1] (V.alloc (.cells #[.int .i64 tk, .int .i64 tn, .int .i64 ta, .string tx] 43)) fun e w' => e = .returned (.string ⟨(joinT [⟨tk, tn, ta, tx⟩]).toArray⟩) ∧ Below V.heap.size V w' by
            have hba := (Below.refl V.heap.size V).alloc (Nat.le_refl _) (.cells #[.int .i64 tk, .int .i64 tn, .int .i64 ta, .string tx] 43)
            have hbw : Below w.heap.size w V := HBK.out.p.bel.trans (hV.mono HBK.out.p.bel.size)
            exact (join_any (some ⟨V.heap.size, 0, none⟩) 1 1 [⟨tk, tn, ta, tx⟩] (V.alloc (.cells #[.int .i64 tk, .int .i64 tn, .int .i64 ta, .string tx] 43)).heap.size _ ((Blk.mk (heap_alloc_new V _) : Blk _ V.heap.size 43 [.int .i64 tk, .int .i64 tn, .int .i64 ta, .string tx]).sees rfl (List.prefix_refl _)) (Nat.le_refl _) (by decide) (fun t ht => by rw [List.mem_singleton] at ht; subst ht; exact okTok_small HOK.out) (tab_of HT.out (hbw.trans (hba.mono hbw.size)))).mono fun e w' h => ⟨h.1, hba.trans (h.2.mono hba.size)⟩)
          have hjt : (⟨(joinT [⟨tk, tn, ta, tx⟩]).toArray⟩ : ByteArray).data.toList = tokL ⟨tk, tn, ta, tx⟩ := by show joinT [⟨tk, tn, ta, tx⟩] = _; simp [joinT]
          have hjl := tokL_length_le (okTok_small HOK.out)
          obtain ⟨T, hT⟩ : ∃ T : ByteArray, (⟨(joinT [⟨tk, tn, ta, tx⟩]).toArray⟩ : ByteArray) = T := ⟨_, rfl⟩
          have HJN : Hid (∀ V : World, Below w6.heap.size w6 V → Calls Tryd.prog 18 #[.slice (some ⟨V.heap.size, 0, none⟩) 1 1] (V.alloc (.cells #[.int .i64 tk, .int .i64 tn, .int .i64 ta, .string tx] 43)) fun e w' => e = .returned (.string T) ∧ Below V.heap.size V w') := Lib.hid (by rw [← hT]; exact HJN0.out)
          rw [hT] at hjt
          have HTT := Lib.hid hjt
          have htz : T.size ≤ 2002 := by have h := ba_len T; rw [hjt] at h; omega
          clear hT hjt hjl HJN0
          have l1 : ¬ (9223372036854775807 < s.size + 1) := by omega
          have l2 : ¬ (9223372036854775807 < s.size + 1 + 2) := by omega
          have l3 : ¬ (9223372036854775807 < s.size + 1 + T.size) := by omega
          have l4 : ¬ (9223372036854775807 < s.size + 1 + 2 + T.size) := by omega
          obtain ⟨t0, t1, t2, t3⟩ : W7.cell? ⟨g19, 0, none⟩ = some (.int .i64 tk) ∧ W7.cell? ⟨g19, 1, none⟩ = some (.int .i64 tn) ∧ W7.cell? ⟨g19, 2, none⟩ = some (.int .i64 ta) ∧ W7.cell? ⟨g19, 3, none⟩ = some (.string tx) := ⟨HBT.out.cell 0, HBT.out.cell 1, HBT.out.cell 2, HBT.out.cell 3⟩
          by_cases hi0 : i < n0
          · obtain ⟨ad0, hzl, rfl, z0⟩ := (HZS.out _ (HBK.out.p.bel.trans (HBE2.out.mono HBK.out.p.bel.size))).int hi0
            generalize zs[i] = zi at *
            obtain ⟨bt, hbt⟩ : ∃ b, (bits BinOp.and IntKind.i64 zi 1 == 1) = b := ⟨_, rfl⟩
            cases bt with
            | true =>
              have HSN : Hid ((s ++ ⟨#[32]⟩ ++ ⟨#[10, 32]⟩ ++ T).data.toList = l ++ 32 :: 10 :: 32 :: tokL ⟨tk, tn, ta, tx⟩ ∧ Spelt (ts.take (i + 1)) (l ++ 32 :: 10 :: 32 :: tokL ⟨tk, tn, ta, tx⟩)) := Lib.hid ⟨by rw [ByteArray.data_append, ByteArray.data_append, ByteArray.data_append, Array.toList_append, Array.toList_append, Array.toList_append, HS1.out, HTT.out]; simp, HN2.out⟩
              clear HN1 HN2 HS1 HTT
              go_wp2_with fail
              (with_reducible refine (HJN.out _ HBE2.out).mono ?_); rintro e w8 ⟨rfl, hb⟩
              have HB3 := Lib.hid (HBE2.out.trans (hb.mono HBE2.out.size))
              clear hb HJN HBT
              go_wp2_with fail
              go_roundg gg
              case measure => omega
              case rel => exact ⟨i + 1, _, _, by omega, by go_num, rfl, HSN, HB3.out⟩
            | false =>
              have HSN : Hid ((s ++ ⟨#[32]⟩ ++ T).data.toList = l ++ 32 :: tokL ⟨tk, tn, ta, tx⟩ ∧ Spelt (ts.take (i + 1)) (l ++ 32 :: tokL ⟨tk, tn, ta, tx⟩)) := Lib.hid ⟨by rw [ByteArray.data_append, ByteArray.data_append, Array.toList_append, Array.toList_append, HS1.out, HTT.out]; simp, HN1.out⟩
              clear HN1 HN2 HS1 HTT
              go_wp2_with fail
              (with_reducible refine (HJN.out _ HBE2.out).mono ?_); rintro e w8 ⟨rfl, hb⟩
              have HB3 := Lib.hid (HBE2.out.trans (hb.mono HBE2.out.size))
              clear hb HJN HBT
              go_wp2_with fail
              go_roundg gg
              case measure => omega
              case rel => exact ⟨i + 1, _, _, by omega, by go_num, rfl, HSN, HB3.out⟩
          · have hi1 := hi0
            have HSN : Hid ((s ++ ⟨#[32]⟩ ++ T).data.toList = l ++ 32 :: tokL ⟨tk, tn, ta, tx⟩ ∧ Spelt (ts.take (i + 1)) (l ++ 32 :: tokL ⟨tk, tn, ta, tx⟩)) := Lib.hid ⟨by rw [ByteArray.data_append, ByteArray.data_append, Array.toList_append, Array.toList_append, HS1.out, HTT.out]; simp, HN1.out⟩
            clear HN1 HN2 HS1 HTT
            go_wp2_with fail
            (with_reducible refine (HJN.out _ HBE2.out).mono ?_); rintro e w8 ⟨rfl, hb⟩
            have HB3 := Lib.hid (HBE2.out.trans (hb.mono HBE2.out.size))
            clear hb HJN HBT
            go_wp2_with fail
            go_roundg gg
            case measure => omega
            case rel => exact ⟨i + 1, _, _, by omega, by go_num, rfl, HSN, HB3.out⟩
end Go.Proofs.YtnkbpcenkbihpaaDoor
