/- Law ExprTypes. -/
import Derived.Test.YtnkbpcenkbihpaaDoorPairX
namespace Go.Proofs.YtnkbpcenkbihpaaDoor
open Go.ChangeShapes Go.WideShapes Go.ChangeAt Go.RowKit
set_option linter.unusedVariables false
set_option linter.unusedSimpArgs false
set_option maxRecDepth 100000
/-- Two kids in a new row. -/
theorem okX_pair {d : Nat} {W : World} (kk : Int) {x y : XE} (hx : okX d x W) (hy : okX d y W) : okX (d + 1) (pairX kk W.heap.size x y) (W.alloc (.cells (kcells [x, y]).toArray 26)) := by
  have ha : Below W.heap.size W (W.alloc (.cells (kcells [x, y]).toArray 26)) := (Below.refl _ _).alloc (Nat.le_refl _) _
  have hbk : Blk (W.alloc (.cells (kcells [x, y]).toArray 26)) W.heap.size 26 (kcells [x, y]) := Blk.mk (heap_alloc_new W _)
  refine ⟨slc_nil' _ 3, slc_nil' _ 1, (FarS.slc (S := fun _ => False) (n := 2) (size := 5) hbk (fun h => h) rfl (by omega)).now, fun q hq => ?_⟩
  have hq : q ∈ [x, y] := hq
  rw [List.mem_cons, List.mem_singleton] at hq
  rcases hq with rfl | rfl
  · exact okX_below ha d _ hx
  · exact okX_below ha d _ hy
set_option maxHeartbeats 4000000 in
theorem two_call (d : Nat) (kk : Int) (gk : Nat) (xk xn : Int) (A1 : Option Addr) (c1 : Nat) (xms : List Mtc) (A2 : Option Addr) (c2 : Nat) (xns : List ByteArray) (A3 : Option Addr) (c3 : Nat) (xks : List XE) (yk yn : Int) (B1 : Option Addr) (b1 : Nat) (yms : List Mtc) (B2 : Option Addr) (b2 : Nat) (yns : List ByteArray) (B3 : Option Addr) (b3 : Nat) (yks : List XE)
    (w : World) (hx : okX d (XE.mk xk xn (.slice A1 xms.length c1) xms (.slice A2 xns.length c2) xns (.slice A3 xks.length c3) xks) w) (hy : okX d (XE.mk yk yn (.slice B1 yms.length b1) yms (.slice B2 yns.length b2) yns (.slice B3 yks.length b3) yks) w) (hsx : ((XE.mk xk xn (.slice A1 xms.length c1) xms (.slice A2 xns.length c2) xns (.slice A3 xks.length c3) xks)).pe.small) (hsy : ((XE.mk yk yn (.slice B1 yms.length b1) yms (.slice B2 yns.length b2) yns (.slice B3 yks.length b3) yks)).pe.small) (h1 : 3 ≤ kk) (h2 : kk ≤ 16) (hk : Blk w gk 3 [.int .i64 kk]) (t : Int) (ht : twoT kk [] [((XE.mk xk xn (.slice A1 xms.length c1) xms (.slice A2 xns.length c2) xns (.slice A3 xks.length c3) xks)).pe.ty, ((XE.mk yk yn (.slice B1 yms.length b1) yms (.slice B2 yns.length b2) yns (.slice B3 yks.length b3) yks)).pe.ty] = t) :
    Calls Tryd.prog 21 #[.agg #[.int .i64 xk, .int .i64 xn, .slice A1 xms.length c1, .slice A2 xns.length c2, .slice A3 xks.length c3], .agg #[.int .i64 yk, .int .i64 yn, .slice B1 yms.length b1, .slice B2 yns.length b2, .slice B3 yks.length b3], .pointer (some ⟨gk, 0, none⟩)] w fun e w' => e = .returned (.int .i64 t) ∧ Below w.heap.size w w' := by
  have ha1 : Below w.heap.size w ((w.alloc (.cells #[.int .i64 xk, .int .i64 xn, .slice A1 xms.length c1, .slice A2 xns.length c2, .slice A3 xks.length c3] 26)).alloc (.cells #[.int .i64 yk, .int .i64 yn, .slice B1 yms.length b1, .slice B2 yns.length b2, .slice B3 yks.length b3] 26)) := ((Below.refl _ _).alloc (Nat.le_refl _) _).alloc (by simp) _
  have hsz : (w.alloc (.cells #[.int .i64 xk, .int .i64 xn, .slice A1 xms.length c1, .slice A2 xns.length c2, .slice A3 xks.length c3] 26)).heap.size = w.heap.size + 1 := by simp
  have HK := Lib.hid (hk.below ha1 hk.lt)
  have HBX : Hid (Blk ((w.alloc (.cells #[.int .i64 xk, .int .i64 xn, .slice A1 xms.length c1, .slice A2 xns.length c2, .slice A3 xks.length c3] 26)).alloc (.cells #[.int .i64 yk, .int .i64 yn, .slice B1 yms.length b1, .slice B2 yns.length b2, .slice B3 yks.length b3] 26)) w.heap.size 26 [.int .i64 xk, .int .i64 xn, .slice A1 xms.length c1, .slice A2 xns.length c2, .slice A3 xks.length c3]) := Lib.hid ((Blk.mk (heap_alloc_new w _)).alloc _)
  have HBY : Hid (Blk ((w.alloc (.cells #[.int .i64 xk, .int .i64 xn, .slice A1 xms.length c1, .slice A2 xns.length c2, .slice A3 xks.length c3] 26)).alloc (.cells #[.int .i64 yk, .int .i64 yn, .slice B1 yms.length b1, .slice B2 yns.length b2, .slice B3 yks.length b3] 26)) (w.heap.size + 1) 26 [.int .i64 yk, .int .i64 yn, .slice B1 yms.length b1, .slice B2 yns.length b2, .slice B3 yks.length b3]) := Lib.hid (by have hh := (Blk.mk (heap_alloc_new (w.alloc (.cells #[.int .i64 xk, .int .i64 xn, .slice A1 xms.length c1, .slice A2 xns.length c2, .slice A3 xks.length c3] 26)) (.cells #[.int .i64 yk, .int .i64 yn, .slice B1 yms.length b1, .slice B2 yns.length b2, .slice B3 yks.length b3] 26)) : Blk _ (w.alloc (.cells #[.int .i64 xk, .int .i64 xn, .slice A1 xms.length c1, .slice A2 xns.length c2, .slice A3 xks.length c3] 26)).heap.size 26 [.int .i64 yk, .int .i64 yn, .slice B1 yms.length b1, .slice B2 yns.length b2, .slice B3 yks.length b3]); rw [hsz] at hh; exact hh)
  have HP := Lib.hid (fun (V : World) (h1 : okX d (XE.mk xk xn (.slice A1 xms.length c1) xms (.slice A2 xns.length c2) xns (.slice A3 xks.length c3) xks) V) (h2 : okX d (XE.mk yk yn (.slice B1 yms.length b1) yms (.slice B2 yns.length b2) yns (.slice B3 yks.length b3) yks) V) => okX_pair kk h1 h2)
  have HOX := Lib.hid (okX_below ha1 d _ hx); have HOY := Lib.hid (okX_below ha1 d _ hy)
  have HB := Lib.hid ha1
  have HTY := Lib.hid (fun (V : World) (hV : okX (d + 1) (pairX kk V.heap.size (XE.mk xk xn (.slice A1 xms.length c1) xms (.slice A2 xns.length c2) xns (.slice A3 xks.length c3) xks) (XE.mk yk yn (.slice B1 yms.length b1) yms (.slice B2 yns.length b2) yns (.slice B3 yks.length b3) yks)) (V.alloc (.cells #[.int .i64 xk, .int .i64 xn, .slice A1 xms.length c1, .slice A2 xns.length c2, .slice A3 xks.length c3, .int .i64 yk, .int .i64 yn, .slice B1 yms.length b1, .slice B2 yns.length b2, .slice B3 yks.length b3] 26))) => show Calls Tryd.prog 10 #[.agg #[.int .i64 kk, .int .i64 0, .slice none 0 0, .slice none 0 0, .slice (some ⟨V.heap.size, 0, none⟩) 2 2]] (V.alloc (.cells #[.int .i64 xk, .int .i64 xn, .slice A1 xms.length c1, .slice A2 xns.length c2, .slice A3 xks.length c3, .int .i64 yk, .int .i64 yn, .slice B1 yms.length b1, .slice B2 yns.length b2, .slice B3 yks.length b3] 26)) fun e w' => e = .returned (.int .i64 t) ∧ Below (V.alloc (.cells #[.int .i64 xk, .int .i64 xn, .slice A1 xms.length c1, .slice A2 xns.length c2, .slice A3 xks.length c3, .int .i64 yk, .int .i64 yn, .slice B1 yms.length b1, .slice B2 yns.length b2, .slice B3 yks.length b3] 26)).heap.size (V.alloc (.cells #[.int .i64 xk, .int .i64 xn, .slice A1 xms.length c1, .slice A2 xns.length c2, .slice A3 xks.length c3, .int .i64 yk, .int .i64 yn, .slice B1 yms.length b1, .slice B2 yns.length b2, .slice B3 yks.length b3] 26)) w' by
    have h := type_any (d + 1) _ _ (show (pairX kk V.heap.size (XE.mk xk xn (.slice A1 xms.length c1) xms (.slice A2 xns.length c2) xns (.slice A3 xks.length c3) xks) (XE.mk yk yn (.slice B1 yms.length b1) yms (.slice B2 yns.length b2) yns (.slice B3 yks.length b3) yks)).pe.small from by
      show PE.small (.mk kk 0 [] [] [_, _])
      unfold PE.small smallP smallP smallP
      exact ⟨by simp, by simp, by simp, hsx, hsy, trivial⟩) hV
    have e : (pairX kk V.heap.size (XE.mk xk xn (.slice A1 xms.length c1) xms (.slice A2 xns.length c2) xns (.slice A3 xks.length c3) xks) (XE.mk yk yn (.slice B1 yms.length b1) yms (.slice B2 yns.length b2) yns (.slice B3 yks.length b3) yks)).pe.ty = t := by
      show (PE.mk kk 0 [] [] [((XE.mk xk xn (.slice A1 xms.length c1) xms (.slice A2 xns.length c2) xns (.slice A3 xks.length c3) xks)).pe, ((XE.mk yk yn (.slice B1 yms.length b1) yms (.slice B2 yns.length b2) yns (.slice B3 yks.length b3) yks)).pe]).ty = t
      conv => lhs; unfold PE.ty
      rw [if_neg (by omega), if_neg (by omega), if_neg (by simp), word_none (by omega), if_neg (by simp), if_pos (sign_is h1 h2)]
      simp only [tysP]; exact ht
    rw [e] at h; exact h)
  have HG := Lib.hid (show ∃ g, w.heap.size = g from ⟨_, rfl⟩)
  have HG1 := Lib.hid (show ∃ g, w.heap.size + 1 = g from ⟨_, rfl⟩)
  clear ha1 hsz hx hy hk hsx hsy ht h1 h2
  go_enter Tryd.func21, Tryd.ntmps21
  go_upto_region 1 with fail
  obtain ⟨xb, hxb⟩ := HG1.out
  rw [hxb] at HBY ⊢
  obtain ⟨xa, hxa⟩ := HG.out
  rw [hxa] at HBX ⊢
  clear HG HG1 hxa hxb
  generalize (w.alloc (.cells #[.int .i64 xk, .int .i64 xn, .slice A1 xms.length c1, .slice A2 xns.length c2, .slice A3 xks.length c3] 26)).alloc (.cells #[.int .i64 yk, .int .i64 yn, .slice B1 yms.length b1, .slice B2 yns.length b2, .slice B3 yks.length b3] 26) = W at *
  obtain ⟨x0, x1, x2, x3, x4⟩ := blk_cells5 HBX.out
  obtain ⟨y0, y1, y2, y3, y4⟩ := blk_cells5 HBY.out
  have k0 := HK.out.cell 0
  simp only [List.getElem?_cons_zero] at k0
  have HC := Lib.hid (HTY.out W (HP.out W HOX.out HOY.out))
  go_wp2_with fail
  (with_reducible refine HC.out.mono ?_); rintro e w2 ⟨rfl, hb2⟩
  have HB2 := Lib.hid ((HB.out.alloc HB.out.size (.cells #[.int .i64 xk, .int .i64 xn, .slice A1 xms.length c1, .slice A2 xns.length c2, .slice A3 xks.length c3, .int .i64 yk, .int .i64 yn, .slice B1 yms.length b1, .slice B2 yns.length b2, .slice B3 yks.length b3] 26)).trans (hb2.mono (Nat.le_trans HB.out.size (by simp))))
  clear hb2
  go_wp2_with fail
  go_ret
  exact ⟨rfl, HB2.out⟩
theorem want_call (b : Bool) (t : Int) (w : World) : Calls Tryd.prog 22 #[.bool b, .int .i64 t] w fun e w' => e = .returned (.int .i64 (if b then t else 0)) ∧ w = w' := by
  cases b with
  | true =>
    go_enter Tryd.func22, Tryd.ntmps22
    go_wp2_with fail
    go_ret
    exact ⟨rfl, rfl⟩
  | false =>
    go_enter Tryd.func22, Tryd.ntmps22
    go_wp2_with fail
    go_ret
    exact ⟨rfl, rfl⟩
/-- Within the law: both expressions, the number, the kind. -/
structure TyB (w0 : World) (g q g13 g14 : Nat) (x y : XE) (n kk : Int) (W : World) : Prop where
  p : PairX w0 g q x y W
  one : Blk W g13 26 [.int .i64 1, .int .i64 n, .slice none 0 0, .slice none 0 0, .slice none 0 0]
  kd : Blk W g14 3 [.int .i64 kk]
theorem TyB.below {w0 W W' : World} {g q g13 g14 : Nat} {x y : XE} {n kk : Int} (h : TyB w0 g q g13 g14 x y n kk W) (hb : Below W.heap.size W W') : TyB w0 g q g13 g14 x y n kk W' :=
  ⟨h.p.below hb, h.one.below hb h.one.lt, h.kd.below hb h.kd.lt⟩
theorem okX_one (n : Int) (W : World) : okX 1 (.mk 1 n (.slice none 0 0) [] (.slice none 0 0) [] (.slice none 0 0) []) W := ⟨slc_nil' _ 3, slc_nil' _ 1, slc_nil' _ 5, fun k hk => absurd hk List.not_mem_nil⟩
theorem one_small (n : Int) : (XE.mk 1 n (.slice none 0 0) [] (.slice none 0 0) [] (.slice none 0 0) []).pe.small := by
  show PE.small (.mk 1 n [] [] [])
  unfold PE.small smallP; exact ⟨by simp, by simp, by simp, trivial⟩
theorem Tryd.infoExprT : (Tryd.prog.info? 26).map (fun i => (i.zero, i.size, i.bytes)) = some (some (.agg #[.int .i64 0, .int .i64 0, .slice none 0 0, .slice none 0 0, .slice none 0 0]), 5, 88) := by kernel_rfl
theorem kcells_one (l : List XE) (h : ∀ k ∈ l, ∃ A1 a1 c1 A2 a2 c2 A3 a3 c3, k.mv = .slice A1 a1 c1 ∧ k.nv = .slice A2 a2 c2 ∧ k.kv = .slice A3 a3 c3) : ∀ u ∈ kcells l, u.oneCell' = true := by
  intro u hu
  unfold kcells quint at hu
  rw [List.mem_flatMap] at hu
  obtain ⟨p, hp, hu⟩ := hu
  obtain ⟨k, hk, rfl⟩ := List.mem_map.1 hp
  obtain ⟨A1, a1, c1, A2, a2, c2, A3, a3, c3, e1, e2, e3⟩ := h k hk
  simp only [XE.cells, e1, e2, e3, List.mem_cons, List.not_mem_nil, or_false] at hu
  rcases hu with rfl | rfl | rfl | rfl | rfl <;> rfl
/-- The bad one in its box. -/
def BadAt (wb : World) (g19 : Nat) (W : World) : Prop := Below wb.heap.size wb W ∧ wb.heap.size ≤ g19 ∧ ∃ (xk xn : Int) (A1 : Option Addr) (c1 : Nat) (ms : List Mtc) (A2 : Option Addr) (c2 : Nat) (ns : List ByteArray) (A3 : Option Addr) (c3 : Nat) (ks : List XE),
  XBox g19 6 xk xn A1 c1 ms A2 c2 ns A3 c3 ks W ∧ (XE.mk xk xn (.slice A1 ms.length c1) ms (.slice A2 ns.length c2) ns (.slice A3 ks.length c3) ks).pe.ty = 0 ∧ (XE.mk xk xn (.slice A1 ms.length c1) ms (.slice A2 ns.length c2) ns (.slice A3 ks.length c3) ks).pe.small
theorem BadAt.below {wb W W' : World} {g19 : Nat} (h : BadAt wb g19 W) (hb : Below W.heap.size W W') : BadAt wb g19 W' := by
  obtain ⟨h1, h2, xk, xn, A1, c1, ms, A2, c2, ns, A3, c3, ks, h3, h4, h5⟩ := h
  exact ⟨h1.trans (hb.mono h1.size), h2, xk, xn, A1, c1, ms, A2, c2, ns, A3, c3, ks, h3.below hb, h4, h5⟩
theorem ty_extra {kk n : Int} {ms : List Mtc} {ns : List ByteArray} {ks : List PE} (h1 : 3 ≤ kk) (h2 : kk ≤ 16) (h : ¬ (ms.length = 0 ∧ n = 0) ∨ ns ≠ [] ∨ ks.length ≠ 2) : (PE.mk kk n ms ns ks).ty = 0 := by
  unfold PE.ty
  rw [if_neg (by omega), if_neg (by omega)]
  by_cases h3 : ms.length = 0 ∧ n = 0
  · rw [if_neg (by simpa using h3), word_none (by omega), if_neg (by simp), if_pos (sign_is h1 h2)]
    rcases h with h | h | h
    · exact absurd h3 h
    · unfold twoT
      cases ns with
      | nil => exact absurd rfl h
      | cons s l => rfl
    · unfold twoT
      have hl : (tysP ks).length = ks.length := by
        have : ∀ l : List PE, (tysP l).length = l.length := fun l => by
          induction l with
          | nil => rfl
          | cons a l ih => simp [tysP, ih]
        exact this ks
      split
      · rename_i a b he
        rw [he] at hl; simp at hl; omega
      · rfl
  · rw [if_pos h3]
set_option maxHeartbeats 8000000 in
theorem expr_types (k1 k2 : KSet) (kind n what : Int) (w : World) (o1 : k1.ok w.heap.size w) (o2 : k2.ok w.heap.size w) (w1 : I64 kind) (w2 : I64 n) (w3 : I64 what) (tab : Tab w) :
    Calls Tryd.prog 7 #[k1.val, k2.val, .int .i64 kind, .int .i64 n, .int .i64 what] w fun e w' => e = .returned (.bool true) ∧ Below w.heap.size w w' := by
  have HT := Lib.hid tab
  have hsz : (w.alloc (.cells #[.slice k1.A k1.n k1.c, .slice k1.A2 k1.n2 k1.c2] 35)).heap.size = w.heap.size + 1 := by simp
  have hb : Below w.heap.size w ((w.alloc (.cells #[.slice k1.A k1.n k1.c, .slice k1.A2 k1.n2 k1.c2] 35)).alloc (.cells #[.slice k2.A k2.n k2.c, .slice k2.A2 k2.n2 k2.c2] 35)) := ((Below.refl _ _).alloc (Nat.le_refl _) _).alloc (by simp) _
  have HP0 : Hid (∀ vs, PairI w k1 k2 w.heap.size (w.heap.size + 1) (fun _ => false) vs ((w.alloc (.cells #[.slice k1.A k1.n k1.c, .slice k1.A2 k1.n2 k1.c2] 35)).alloc (.cells #[.slice k2.A k2.n k2.c, .slice k2.A2 k2.n2 k2.c2] 35))) := Lib.hid (fun vs => PairI.start hb ((Blk.mk (heap_alloc_new w _)).alloc _) (by have hh := (Blk.mk (heap_alloc_new (w.alloc (.cells #[.slice k1.A k1.n k1.c, .slice k1.A2 k1.n2 k1.c2] 35)) (.cells #[.slice k2.A k2.n k2.c, .slice k2.A2 k2.n2 k2.c2] 35)) : Blk _ (w.alloc (.cells #[.slice k1.A k1.n k1.c, .slice k1.A2 k1.n2 k1.c2] 35)).heap.size 35 [.slice k2.A k2.n k2.c, .slice k2.A2 k2.n2 k2.c2]); rw [hsz] at hh; exact hh) (o1.below hb) (o2.below hb) vs)
  have HW := Lib.hid (fun V => within_any kind 3 16 V w1 (by omega) (by omega) (by omega))
  have HW2 := Lib.hid (fun V => within_any what 0 4 V w3 (by omega) (by omega) (by omega))
  have HI := Lib.hid w2
  clear hsz hb o1 o2 w1 w2 w3 tab
  unfold KSet.val
  have HG := Lib.hid (show ∃ g, w.heap.size = g from ⟨_, rfl⟩)
  have HG1 := Lib.hid (show ∃ g, w.heap.size + 1 = g from ⟨_, rfl⟩)
  go_enter Tryd.func7, Tryd.ntmps7
  go_upto_region 1 with fail
  obtain ⟨g2, hg2⟩ := HG1.out
  rw [hg2] at HP0 ⊢
  obtain ⟨g1, hg1⟩ := HG.out
  rw [hg1] at HP0 ⊢
  clear HG HG1 hg1 hg2
  generalize (w.alloc (.cells #[.slice k1.A k1.n k1.c, .slice k1.A2 k1.n2 k1.c2] 35)).alloc (.cells #[.slice k2.A k2.n k2.c, .slice k2.A2 k2.n2 k2.c2] 35) = W0 at *
  refine wp_region_inv_tail 6 (I := PairI w k1 k2 g1 g2) (by kernel_rfl) (by kernel_rfl) (by kernel_rfl) (by kernel_rfl) (by kernel_rfl) (by decide) (by kernel_rfl) ?hI ⟨?o0, ?o1, ?o2, ?o3, ?o4, ?o5, trivial⟩ ?hend
  case hI => exact fun vs => (HP0.out vs).below (Below.refl _ _).drew
  case o0 =>
    intro a w9 L hfr hI hs
    refine ⟨fun hw => ?_, fun hw => absurd hw (by simp [Region.wanted])⟩
    have sA : a.tmps.getD 5 undef = .pointer (some ⟨g1, 0, none⟩) := hfr.at 5 (by kernel_rfl)
    have z0 := hI.b1.cell 0
    have z1 := hI.b1.cell 1
    simp only [List.getElem?_cons_zero, List.getElem?_cons_succ] at z0 z1
    refine opi_yields k1.val ?_ hI.op0
    unfold KSet.val
    simp only [execOp, resolve, List.map_toArray, List.map_cons, List.map_nil, Act.eval, sA, z0, z1]; simp [go_sem, -Array.getD_eq_getD_getElem?, sA, z0, z1]
  case o2 =>
    intro a w9 L hfr hI hs
    refine ⟨fun hw => ?_, fun hw => absurd hw (by simp [Region.wanted])⟩
    have sA : a.tmps.getD 6 undef = .pointer (some ⟨g2, 0, none⟩) := hfr.at 6 (by kernel_rfl)
    have z0 := hI.b2.cell 0
    have z1 := hI.b2.cell 1
    simp only [List.getElem?_cons_zero, List.getElem?_cons_succ] at z0 z1
    refine opi_yields k2.val ?_ hI.op2
    unfold KSet.val
    simp only [execOp, resolve, List.map_toArray, List.map_cons, List.map_nil, Act.eval, sA, z0, z1]; simp [go_sem, -Array.getD_eq_getD_getElem?, sA, z0, z1]
  case o1 =>
    intro a w9 L hfr hI hs
    refine ⟨fun hw => ?_, fun hw => absurd hw (by simp [Region.wanted])⟩
    have sT : a.tmps.getD 21 undef = k1.val := hI.v0 (hs.done (by decide) 0 (by kernel_rfl))
    refine opi_calls2 ((expr_any k1 w9 (hI.o1.up hI.bel.size)).mono fun e' w' hh => ?_) ?_
    · obtain ⟨x, rfl, hk, hx, hb⟩ := hh; exact ⟨_, rfl, hI.op1 hb hk hx⟩
    · simp only [execOp, resolve, List.map_toArray, List.map_cons, List.map_nil, Act.eval, sT]; simp [go_sem, -Array.getD_eq_getD_getElem?, sT]
  case o3 =>
    intro a w9 L hfr hI hs
    refine ⟨fun hw => ?_, fun hw => absurd hw (by simp [Region.wanted])⟩
    have sT : a.tmps.getD 23 undef = k2.val := hI.v2 (hs.done (by decide) 2 (by kernel_rfl))
    refine opi_calls2 ((expr_any k2 w9 (hI.o2.up hI.bel.size)).mono fun e' w' hh => ?_) ?_
    · obtain ⟨x, rfl, hk, hx, hb⟩ := hh; exact ⟨_, rfl, hI.op3 hb hk hx⟩
    · simp only [execOp, resolve, List.map_toArray, List.map_cons, List.map_nil, Act.eval, sT]; simp [go_sem, -Array.getD_eq_getD_getElem?, sT]
  case o4 =>
    intro a w9 L hfr hI hs
    refine ⟨fun hw => ?_, fun hw => absurd hw (by simp [Region.wanted])⟩
    refine opi_yields (w' := w9.alloc (.cells #[.int .i64 0, .int .i64 0, .slice none 0 0, .slice none 0 0, .slice none 0 0] 26)) (.pointer (some ⟨w9.heap.size, 0, none⟩)) ?_ hI.op4
    simp only [execOp, resolve, List.map_toArray, List.map_cons, List.map_nil, Act.eval]; simp [go_sem, -Array.getD_eq_getD_getElem?]
  case o5 =>
    intro a w9 L hfr hI hs
    refine ⟨fun hw => ?_, fun hw => absurd hw (by simp [Region.wanted])⟩
    refine opi_yields (w' := w9.alloc (.cells #[.int .i64 0, .int .i64 0, .slice none 0 0, .slice none 0 0, .slice none 0 0] 26)) (.pointer (some ⟨w9.heap.size, 0, none⟩)) ?_ hI.op5
    simp only [execOp, resolve, List.map_toArray, List.map_cons, List.map_nil, Act.eval]; simp [go_sem, -Array.getD_eq_getD_getElem?]
  case hend =>
  intro vs w8 hI
  obtain ⟨g, q, x, y, ex, ey, eg, eq, kx, ky, ox, oy, bg, bq, hne, hfin⟩ := hI.fin rfl rfl rfl rfl
  obtain ⟨A1, c1, A2, c2, A3, c3, u1, u2, u3⟩ := okX_forms ox
  obtain ⟨B1, b1, B2, b2, B3, b3, t1, t2, t3⟩ := okX_forms oy
  obtain ⟨xk, xn, xmv, xms, xnv, xns, xkv, xks⟩ := x
  obtain ⟨yk, yn, ymv, yms, ynv, yns, ykv, yks⟩ := y
  simp only [XE.mv, XE.nv, XE.kv, XE.ms, XE.ns, XE.kids] at u1 u2 u3 t1 t2 t3
  subst u1; subst u2; subst u3; subst t1; subst t2; subst t3
  have HKX := Lib.hid kx; have HKY := Lib.hid ky
  obtain ⟨z0, z1, z2, z3, z4⟩ := blk_cells5 bg
  obtain ⟨f0, f1, f2, f3, f4⟩ := blk_fr bg
  obtain ⟨y0, y1, y2, y3, y4⟩ := blk_cells5 bq
  obtain ⟨h0, h1, h2, h3, h4⟩ := blk_fr bq
  have hne2 : q ≠ g := Ne.symm hne
  obtain ⟨Wf, hWf⟩ : ∃ V, set5W (set5W w8 g (.int .i64 xk) (.int .i64 xn) (.slice A1 xms.length c1) (.slice A2 xns.length c2) (.slice A3 xks.length c3)) q (.int .i64 yk) (.int .i64 yn) (.slice B1 yms.length b1) (.slice B2 yns.length b2) (.slice B3 yks.length b3) = V := ⟨_, rfl⟩
  have HX : Hid (PairX w g q (.mk xk xn (.slice A1 xms.length c1) xms (.slice A2 xns.length c2) xns (.slice A3 xks.length c3) xks) (.mk yk yn (.slice B1 yms.length b1) yms (.slice B2 yns.length b2) yns (.slice B3 yks.length b3) yks) Wf) := Lib.hid (by rw [← hWf]; exact hfin)
  unfold set5W at hWf
  have HWF := Lib.hid hWf
  unfold XE.val at ex ey
  simp only [XE.kd, XE.n, XE.mv, XE.nv, XE.kv] at ex ey
  clear hI hfin hWf kx ky ox oy bg bq HP0
  change wpList _ _ _ [_, _] (putAll vs 0 [_, _, _, _, _, _] _) _
  simp only [putAll, Act.put, ex, ey, eg, eq]
  clear ex ey eg eq
  go_simp
  go_upto_region 2 with fail
  rw [HWF.out]
  clear HWF z0 z1 z2 z3 z4 f0 f1 f2 f3 f4 y0 y1 y2 y3 y4 h0 h1 h2 h3 h4
  have HTYX := Lib.hid ((keepV_facts 5 _ HKX.out).ty); have HSMX := Lib.hid ((keepV_facts 5 _ HKX.out).small)
  have HTYY := Lib.hid ((keepV_facts 5 _ HKY.out).ty); have HSMY := Lib.hid ((keepV_facts 5 _ HKY.out).small)
  have hwl := HX.out.bel.size
  have HX1 := Lib.hid (HX.out.below ((Below.refl Wf.heap.size Wf).alloc (Nat.le_refl _) (.cells #[.int .i64 1, .int .i64 n, .slice none 0 0, .slice none 0 0, .slice none 0 0] 26)))
  have HON : Hid (Blk (Wf.alloc (.cells #[.int .i64 1, .int .i64 n, .slice none 0 0, .slice none 0 0, .slice none 0 0] 26)) Wf.heap.size 26 [.int .i64 1, .int .i64 n, .slice none 0 0, .slice none 0 0, .slice none 0 0]) := Lib.hid (Blk.mk (heap_alloc_new Wf _))
  clear HX HKX HKY hwl
  go_upto_region 3 with fail
  obtain ⟨g13, hg13⟩ : ∃ g, Wf.heap.size = g := ⟨_, rfl⟩
  rw [hg13] at HON ⊢
  clear hg13
  generalize Wf.alloc (.cells #[.int .i64 1, .int .i64 n, .slice none 0 0, .slice none 0 0, .slice none 0 0] 26) = W1 at *
  have HTO := Lib.hid (fun V => show Calls Tryd.prog 10 #[.agg #[.int .i64 1, .int .i64 n, .slice none 0 0, .slice none 0 0, .slice none 0 0]] V fun e w' => e = .returned (.int .i64 1) ∧ Below V.heap.size V w' from type_any 1 (XE.mk 1 n (.slice none 0 0) [] (.slice none 0 0) [] (.slice none 0 0) []) V (one_small n) (okX_one n V))
  have HTX := Lib.hid (fun V (hV : okX 5 (XE.mk xk xn (.slice A1 xms.length c1) xms (.slice A2 xns.length c2) xns (.slice A3 xks.length c3) xks) V) => show Calls Tryd.prog 10 #[.agg #[.int .i64 xk, .int .i64 xn, .slice A1 xms.length c1, .slice A2 xns.length c2, .slice A3 xks.length c3]] V fun e w' => e = .returned (.int .i64 2) ∧ Below V.heap.size V w' by
    have h := type_any 5 _ V HSMX.out hV
    rw [HTYX.out] at h; exact h)
  obtain ⟨z0, z1, z2, z3, z4⟩ := blk_cells5 HON.out
  go_wp2_with fail
  (with_reducible refine (HTO.out _).mono ?_); rintro e w2 ⟨rfl, hb⟩
  have HX1_n := Lib.hid (HX1.out.below hb); clear HX1; have HX1 := HX1_n; clear HX1_n
  have HON_n := Lib.hid (HON.out.below hb HON.out.lt); clear HON; have HON := HON_n; clear HON_n
  clear hb z0 z1 z2 z3 z4
  obtain ⟨x0, x1, x2, x3, x4⟩ := blk_cells5 HX1.out.bx
  simp only [XE.kd, XE.n, XE.mv, XE.nv, XE.kv] at x0 x1 x2 x3 x4
  go_wp2_with fail
  (with_reducible refine (HTX.out _ HX1.out.ox).mono ?_); rintro e w3 ⟨rfl, hb⟩
  have HX1_n := Lib.hid (HX1.out.below hb); clear HX1; have HX1 := HX1_n; clear HX1_n
  have HON_n := Lib.hid (HON.out.below hb HON.out.lt); clear HON; have HON := HON_n; clear HON_n
  clear hb x0 x1 x2 x3 x4
  obtain ⟨hk1, hk2⟩ := nWithin_in kind (lo := 3) (hi := 16) (by omega)
  obtain ⟨kk, hkk⟩ : ∃ k, nWithin kind 3 16 = k := ⟨_, rfl⟩
  rw [hkk] at HW hk1 hk2
  clear hkk
  go_wp2_with fail
  (with_reducible refine (HW.out _).mono ?_); rintro e w' ⟨rfl, rfl⟩
  have HTB : Hid (TyB w g q g13 w3.heap.size (XE.mk xk xn (.slice A1 xms.length c1) xms (.slice A2 xns.length c2) xns (.slice A3 xks.length c3) xks) (XE.mk yk yn (.slice B1 yms.length b1) yms (.slice B2 yns.length b2) yns (.slice B3 yks.length b3) yks) n kk (w3.alloc (.cells #[.int .i64 kk] 3))) := Lib.hid (by
    have ha := (Below.refl w3.heap.size w3).alloc (Nat.le_refl _) (.cells #[.int .i64 kk] 3)
    exact ⟨HX1.out.below ha, HON.out.below ha HON.out.lt, Blk.mk (heap_alloc_new w3 _)⟩)
  clear HX1 HON HW
  go_upto_region 6 with fail
  obtain ⟨g14, hg14⟩ : ∃ g, w3.heap.size = g := ⟨_, rfl⟩
  rw [hg14] at HTB ⊢
  clear hg14
  generalize w3.alloc (.cells #[.int .i64 kk] 3) = W4 at *
  obtain ⟨m, hm⟩ : ∃ m, decide (kk ≤ 7) = m := ⟨_, rfl⟩
  obtain ⟨c, hc⟩ : ∃ c, (decide (8 ≤ kk) && decide (kk ≤ 13)) = c := ⟨_, rfl⟩
  have HM := Lib.hid hm; have HC := Lib.hid hc
  have HK1 := Lib.hid hk1; have HK2 := Lib.hid hk2
  clear hm hc hk1 hk2
  go_upto_region 7 with fail
  have k0 := HTB.out.kd.cell 0
  simp only [List.getElem?_cons_zero] at k0
  go_cut [16, 17] from 38 to 45 (fun y16 y17 wx => y16 = .bool m ∧ y17 = .bool c ∧ TyB w g q g13 g14 (XE.mk xk xn (.slice A1 xms.length c1) xms (.slice A2 xns.length c2) xns (.slice A3 xks.length c3) xks) (XE.mk yk yn (.slice B1 yms.length b1) yms (.slice B2 yns.length b2) yns (.slice B3 yks.length b3) yks) n kk wx)
  case first => --done
    by_cases h7 : kk ≤ 7
    · have h8 : ¬ 8 ≤ kk := by omega
      have h8' : kk < 8 := by omega
      have e1 : m = true := by rw [← HM.out]; exact decide_eq_true h7
      have e2 : c = false := by rw [← HC.out, decide_eq_false h8]; rfl
      subst e1; subst e2
      go_quiet (fail)
      go_wp2_with fail
      go_meet
      exact ⟨rfl, rfl, HTB.out.below (below_dn _ _)⟩
    · have h8 : 8 ≤ kk := by omega
      have e1 : m = false := by rw [← HM.out]; exact decide_eq_false h7
      by_cases h13 : kk ≤ 13
      · have e2 : c = true := by rw [← HC.out, decide_eq_true h8, decide_eq_true h13]; rfl
        subst e1; subst e2
        go_quiet (fail)
        go_wp2_with fail
        go_meet
        exact ⟨rfl, rfl, HTB.out.below (below_dn _ _)⟩
      · have e2 : c = false := by rw [← HC.out, decide_eq_false h13, Bool.and_false]
        subst e1; subst e2
        go_quiet (fail)
        go_wp2_with fail
        go_meet
        exact ⟨rfl, rfl, HTB.out.below (below_dn _ _)⟩
  case rest =>
    obtain ⟨rfl, rfl, hat⟩ := hcut
    clear HTB k0
    have HTB := Lib.hid hat
    clear hat
    go_upto_region 9 with fail
    have HC1 := Lib.hid (fun (V : World) (hV : TyB w g q g13 g14 (XE.mk xk xn (.slice A1 xms.length c1) xms (.slice A2 xns.length c2) xns (.slice A3 xks.length c3) xks) (XE.mk yk yn (.slice B1 yms.length b1) yms (.slice B2 yns.length b2) yns (.slice B3 yks.length b3) yks) n kk V) (t : Int) (ht : twoT kk [] [2, 2] = t) => show Calls Tryd.prog 21 #[.agg #[.int .i64 xk, .int .i64 xn, .slice A1 xms.length c1, .slice A2 xns.length c2, .slice A3 xks.length c3], .agg #[.int .i64 yk, .int .i64 yn, .slice B1 yms.length b1, .slice B2 yns.length b2, .slice B3 yks.length b3], .pointer (some ⟨g14, 0, none⟩)] V fun e w' => e = .returned (.int .i64 t) ∧ Below V.heap.size V w' from two_call 5 kk g14 xk xn A1 c1 xms A2 c2 xns A3 c3 xks yk yn B1 b1 yms B2 b2 yns B3 b3 yks V hV.p.ox hV.p.oy HSMX.out HSMY.out HK1.out HK2.out hV.kd t (by rw [HTYX.out, HTYY.out]; exact ht))
    have HC2 := Lib.hid (fun (V : World) (hV : TyB w g q g13 g14 (XE.mk xk xn (.slice A1 xms.length c1) xms (.slice A2 xns.length c2) xns (.slice A3 xks.length c3) xks) (XE.mk yk yn (.slice B1 yms.length b1) yms (.slice B2 yns.length b2) yns (.slice B3 yks.length b3) yks) n kk V) (t : Int) (ht : twoT kk [] [2, 1] = t) => show Calls Tryd.prog 21 #[.agg #[.int .i64 xk, .int .i64 xn, .slice A1 xms.length c1, .slice A2 xns.length c2, .slice A3 xks.length c3], .agg #[.int .i64 1, .int .i64 n, .slice none 0 0, .slice none 0 0, .slice none 0 0], .pointer (some ⟨g14, 0, none⟩)] V fun e w' => e = .returned (.int .i64 t) ∧ Below V.heap.size V w' from two_call 5 kk g14 xk xn A1 c1 xms A2 c2 xns A3 c3 xks 1 n none 0 [] none 0 [] none 0 [] V hV.p.ox (okX_floors (okX_one n V) 4) HSMX.out (one_small n) HK1.out HK2.out hV.kd t (by rw [HTYX.out]; exact ht))
    have HC3 := Lib.hid (fun (V : World) (hV : TyB w g q g13 g14 (XE.mk xk xn (.slice A1 xms.length c1) xms (.slice A2 xns.length c2) xns (.slice A3 xks.length c3) xks) (XE.mk yk yn (.slice B1 yms.length b1) yms (.slice B2 yns.length b2) yns (.slice B3 yks.length b3) yks) n kk V) (t : Int) (ht : twoT kk [] [1, 2] = t) => show Calls Tryd.prog 21 #[.agg #[.int .i64 1, .int .i64 n, .slice none 0 0, .slice none 0 0, .slice none 0 0], .agg #[.int .i64 xk, .int .i64 xn, .slice A1 xms.length c1, .slice A2 xns.length c2, .slice A3 xks.length c3], .pointer (some ⟨g14, 0, none⟩)] V fun e w' => e = .returned (.int .i64 t) ∧ Below V.heap.size V w' from two_call 5 kk g14 1 n none 0 [] none 0 [] none 0 [] xk xn A1 c1 xms A2 c2 xns A3 c3 xks V (okX_floors (okX_one n V) 4) hV.p.ox (one_small n) HSMX.out HK1.out HK2.out hV.kd t (by rw [HTYX.out]; exact ht))
    have HC4 := Lib.hid (fun (V : World) (hV : TyB w g q g13 g14 (XE.mk xk xn (.slice A1 xms.length c1) xms (.slice A2 xns.length c2) xns (.slice A3 xks.length c3) xks) (XE.mk yk yn (.slice B1 yms.length b1) yms (.slice B2 yns.length b2) yns (.slice B3 yks.length b3) yks) n kk V) (t : Int) (ht : twoT kk [] [1, 1] = t) => show Calls Tryd.prog 21 #[.agg #[.int .i64 1, .int .i64 n, .slice none 0 0, .slice none 0 0, .slice none 0 0], .agg #[.int .i64 1, .int .i64 n, .slice none 0 0, .slice none 0 0, .slice none 0 0], .pointer (some ⟨g14, 0, none⟩)] V fun e w' => e = .returned (.int .i64 t) ∧ Below V.heap.size V w' from two_call 5 kk g14 1 n none 0 [] none 0 [] none 0 [] 1 n none 0 [] none 0 [] none 0 [] V (okX_floors (okX_one n V) 4) (okX_floors (okX_one n V) 4) (one_small n) (one_small n) HK1.out HK2.out hV.kd t (ht))
    go_cut [83] from 46 to 83 (fun y83 wx => y83 = .bool false ∧ TyB w g q g13 g14 (XE.mk xk xn (.slice A1 xms.length c1) xms (.slice A2 xns.length c2) xns (.slice A3 xks.length c3) xks) (XE.mk yk yn (.slice B1 yms.length b1) yms (.slice B2 yns.length b2) yns (.slice B3 yks.length b3) yks) n kk wx)
    case first => --done
      by_cases h7 : kk ≤ 7
      · obtain rfl : m = true := by rw [← HM.out]; exact decide_eq_true h7
        obtain rfl : c = false := by rw [← HC.out, decide_eq_false (show ¬ 8 ≤ kk by omega)]; rfl
        have C1 := Lib.hid (fun V hV => HC1.out V hV 2 (by unfold twoT; simp [h7]))
        have C2 := Lib.hid (fun V hV => HC2.out V hV 2 (by unfold twoT; simp [h7]))
        have C3 := Lib.hid (fun V hV => HC3.out V hV 2 (by unfold twoT; simp [h7]))
        have C4 := Lib.hid (fun V hV => HC4.out V hV 1 (by unfold twoT; simp [h7]))
        clear HC1 HC2 HC3 HC4
        obtain ⟨x0, x1, x2, x3, x4⟩ := blk_cells5 HTB.out.p.bx
        simp only [XE.kd, XE.n, XE.mv, XE.nv, XE.kv] at x0 x1 x2 x3 x4
        obtain ⟨y0, y1, y2, y3, y4⟩ := blk_cells5 HTB.out.p.by_
        simp only [XE.kd, XE.n, XE.mv, XE.nv, XE.kv] at y0 y1 y2 y3 y4
        go_wp2_with fail
        (with_reducible refine (C1.out _ HTB.out).mono ?_); rintro e w5 ⟨rfl, hb⟩
        have HTB_n := Lib.hid (HTB.out.below hb); clear HTB; have HTB := HTB_n; clear HTB_n
        clear hb x0 x1 x2 x3 x4 y0 y1 y2 y3 y4
        obtain ⟨x0, x1, x2, x3, x4⟩ := blk_cells5 HTB.out.p.bx
        simp only [XE.kd, XE.n, XE.mv, XE.nv, XE.kv] at x0 x1 x2 x3 x4
        obtain ⟨z0, z1, z2, z3, z4⟩ := blk_cells5 HTB.out.one
        go_wp2_with fail
        (with_reducible refine (C2.out _ HTB.out).mono ?_); rintro e w6 ⟨rfl, hb⟩
        have HTB_n := Lib.hid (HTB.out.below hb); clear HTB; have HTB := HTB_n; clear HTB_n
        clear hb x0 x1 x2 x3 x4 z0 z1 z2 z3 z4
        go_wp2_with fail
        (with_reducible refine (want_call true 2 _).mono ?_); rintro e w' ⟨rfl, rfl⟩
        obtain ⟨x0, x1, x2, x3, x4⟩ := blk_cells5 HTB.out.p.bx
        simp only [XE.kd, XE.n, XE.mv, XE.nv, XE.kv] at x0 x1 x2 x3 x4
        obtain ⟨z0, z1, z2, z3, z4⟩ := blk_cells5 HTB.out.one
        go_wp2_with fail
        (with_reducible refine (C3.out _ HTB.out).mono ?_); rintro e w7 ⟨rfl, hb⟩
        have HTB_n := Lib.hid (HTB.out.below hb); clear HTB; have HTB := HTB_n; clear HTB_n
        clear hb x0 x1 x2 x3 x4 z0 z1 z2 z3 z4
        go_wp2_with fail
        (with_reducible refine (want_call true 2 _).mono ?_); rintro e w' ⟨rfl, rfl⟩
        obtain ⟨z0, z1, z2, z3, z4⟩ := blk_cells5 HTB.out.one
        go_wp2_with fail
        (with_reducible refine (C4.out _ HTB.out).mono ?_); rintro e w8 ⟨rfl, hb⟩
        have HTB_n := Lib.hid (HTB.out.below hb); clear HTB; have HTB := HTB_n; clear HTB_n
        clear hb z0 z1 z2 z3 z4
        go_wp2_with fail
        (with_reducible refine (want_call true 1 _).mono ?_); rintro e w' ⟨rfl, rfl⟩
        go_wp2_with fail
        go_meet
        exact ⟨rfl, HTB.out⟩
      · obtain rfl : m = false := by rw [← HM.out]; exact decide_eq_false h7
        by_cases h13 : kk ≤ 13
        · obtain rfl : c = true := by rw [← HC.out, decide_eq_true (show 8 ≤ kk by omega), decide_eq_true h13]; rfl
          have h13' : ¬ 13 < kk := by omega
          have C1 := Lib.hid (fun V hV => HC1.out V hV 2 (by unfold twoT; simp [h7, h13, h13']))
          have C2 := Lib.hid (fun V hV => HC2.out V hV 2 (by unfold twoT; simp [h7, h13, h13']))
          have C3 := Lib.hid (fun V hV => HC3.out V hV 0 (by unfold twoT; simp [h7, h13, h13']))
          have C4 := Lib.hid (fun V hV => HC4.out V hV 0 (by unfold twoT; simp [h7, h13, h13']))
          clear HC1 HC2 HC3 HC4
          obtain ⟨x0, x1, x2, x3, x4⟩ := blk_cells5 HTB.out.p.bx
          simp only [XE.kd, XE.n, XE.mv, XE.nv, XE.kv] at x0 x1 x2 x3 x4
          obtain ⟨y0, y1, y2, y3, y4⟩ := blk_cells5 HTB.out.p.by_
          simp only [XE.kd, XE.n, XE.mv, XE.nv, XE.kv] at y0 y1 y2 y3 y4
          go_wp2_with fail
          (with_reducible refine (C1.out _ HTB.out).mono ?_); rintro e w5 ⟨rfl, hb⟩
          have HTB_n := Lib.hid (HTB.out.below hb); clear HTB; have HTB := HTB_n; clear HTB_n
          clear hb x0 x1 x2 x3 x4 y0 y1 y2 y3 y4
          obtain ⟨x0, x1, x2, x3, x4⟩ := blk_cells5 HTB.out.p.bx
          simp only [XE.kd, XE.n, XE.mv, XE.nv, XE.kv] at x0 x1 x2 x3 x4
          obtain ⟨z0, z1, z2, z3, z4⟩ := blk_cells5 HTB.out.one
          go_wp2_with fail
          (with_reducible refine (C2.out _ HTB.out).mono ?_); rintro e w6 ⟨rfl, hb⟩
          have HTB_n := Lib.hid (HTB.out.below hb); clear HTB; have HTB := HTB_n; clear HTB_n
          clear hb x0 x1 x2 x3 x4 z0 z1 z2 z3 z4
          go_wp2_with fail
          (with_reducible refine (want_call true 2 _).mono ?_); rintro e w' ⟨rfl, rfl⟩
          obtain ⟨x0, x1, x2, x3, x4⟩ := blk_cells5 HTB.out.p.bx
          simp only [XE.kd, XE.n, XE.mv, XE.nv, XE.kv] at x0 x1 x2 x3 x4
          obtain ⟨z0, z1, z2, z3, z4⟩ := blk_cells5 HTB.out.one
          go_wp2_with fail
          (with_reducible refine (C3.out _ HTB.out).mono ?_); rintro e w7 ⟨rfl, hb⟩
          have HTB_n := Lib.hid (HTB.out.below hb); clear HTB; have HTB := HTB_n; clear HTB_n
          clear hb x0 x1 x2 x3 x4 z0 z1 z2 z3 z4
          go_wp2_with fail
          (with_reducible refine (want_call false 2 _).mono ?_); rintro e w' ⟨rfl, rfl⟩
          obtain ⟨z0, z1, z2, z3, z4⟩ := blk_cells5 HTB.out.one
          go_wp2_with fail
          (with_reducible refine (C4.out _ HTB.out).mono ?_); rintro e w8 ⟨rfl, hb⟩
          have HTB_n := Lib.hid (HTB.out.below hb); clear HTB; have HTB := HTB_n; clear HTB_n
          clear hb z0 z1 z2 z3 z4
          go_wp2_with fail
          (with_reducible refine (want_call false 1 _).mono ?_); rintro e w' ⟨rfl, rfl⟩
          go_wp2_with fail
          go_meet
          exact ⟨rfl, HTB.out⟩
        · obtain rfl : c = false := by rw [← HC.out, decide_eq_false h13, Bool.and_false]
          have h13' : 13 < kk := by omega
          have C1 := Lib.hid (fun V hV => HC1.out V hV 2 (by unfold twoT; simp [h7, h13, h13']))
          have C2 := Lib.hid (fun V hV => HC2.out V hV 0 (by unfold twoT; simp [h7, h13, h13']))
          have C3 := Lib.hid (fun V hV => HC3.out V hV 0 (by unfold twoT; simp [h7, h13, h13']))
          have C4 := Lib.hid (fun V hV => HC4.out V hV 0 (by unfold twoT; simp [h7, h13, h13']))
          clear HC1 HC2 HC3 HC4
          obtain ⟨x0, x1, x2, x3, x4⟩ := blk_cells5 HTB.out.p.bx
          simp only [XE.kd, XE.n, XE.mv, XE.nv, XE.kv] at x0 x1 x2 x3 x4
          obtain ⟨y0, y1, y2, y3, y4⟩ := blk_cells5 HTB.out.p.by_
          simp only [XE.kd, XE.n, XE.mv, XE.nv, XE.kv] at y0 y1 y2 y3 y4
          go_wp2_with fail
          (with_reducible refine (C1.out _ HTB.out).mono ?_); rintro e w5 ⟨rfl, hb⟩
          have HTB_n := Lib.hid (HTB.out.below hb); clear HTB; have HTB := HTB_n; clear HTB_n
          clear hb x0 x1 x2 x3 x4 y0 y1 y2 y3 y4
          obtain ⟨x0, x1, x2, x3, x4⟩ := blk_cells5 HTB.out.p.bx
          simp only [XE.kd, XE.n, XE.mv, XE.nv, XE.kv] at x0 x1 x2 x3 x4
          obtain ⟨z0, z1, z2, z3, z4⟩ := blk_cells5 HTB.out.one
          go_wp2_with fail
          (with_reducible refine (C2.out _ HTB.out).mono ?_); rintro e w6 ⟨rfl, hb⟩
          have HTB_n := Lib.hid (HTB.out.below hb); clear HTB; have HTB := HTB_n; clear HTB_n
          clear hb x0 x1 x2 x3 x4 z0 z1 z2 z3 z4
          go_wp2_with fail
          (with_reducible refine (want_call false 2 _).mono ?_); rintro e w' ⟨rfl, rfl⟩
          obtain ⟨x0, x1, x2, x3, x4⟩ := blk_cells5 HTB.out.p.bx
          simp only [XE.kd, XE.n, XE.mv, XE.nv, XE.kv] at x0 x1 x2 x3 x4
          obtain ⟨z0, z1, z2, z3, z4⟩ := blk_cells5 HTB.out.one
          go_wp2_with fail
          (with_reducible refine (C3.out _ HTB.out).mono ?_); rintro e w7 ⟨rfl, hb⟩
          have HTB_n := Lib.hid (HTB.out.below hb); clear HTB; have HTB := HTB_n; clear HTB_n
          clear hb x0 x1 x2 x3 x4 z0 z1 z2 z3 z4
          go_wp2_with fail
          (with_reducible refine (want_call false 2 _).mono ?_); rintro e w' ⟨rfl, rfl⟩
          obtain ⟨z0, z1, z2, z3, z4⟩ := blk_cells5 HTB.out.one
          go_wp2_with fail
          (with_reducible refine (C4.out _ HTB.out).mono ?_); rintro e w8 ⟨rfl, hb⟩
          have HTB_n := Lib.hid (HTB.out.below hb); clear HTB; have HTB := HTB_n; clear HTB_n
          clear hb z0 z1 z2 z3 z4
          go_wp2_with fail
          (with_reducible refine (want_call false 1 _).mono ?_); rintro e w' ⟨rfl, rfl⟩
          go_wp2_with fail
          go_meet
          exact ⟨rfl, HTB.out⟩
    case rest =>
      obtain ⟨rfl, hat⟩ := hcut
      clear HTB HC1 HC2 HC3 HC4
      have HTB := Lib.hid hat
      clear hat HM HC HTO HTX
      have k0 := HTB.out.kd.cell 0
      simp only [List.getElem?_cons_zero] at k0
      obtain ⟨x0, x1, x2, x3, x4⟩ := blk_cells5 HTB.out.p.bx
      simp only [XE.kd, XE.n, XE.mv, XE.nv, XE.kv] at x0 x1 x2 x3 x4
      obtain ⟨y0, y1, y2, y3, y4⟩ := blk_cells5 HTB.out.p.by_
      simp only [XE.kd, XE.n, XE.mv, XE.nv, XE.kv] at y0 y1 y2 y3 y4
      have HOK : Hid (okX 6 (pairX kk wc.heap.size (XE.mk xk xn (.slice A1 xms.length c1) xms (.slice A2 xns.length c2) xns (.slice A3 xks.length c3) xks) (XE.mk yk yn (.slice B1 yms.length b1) yms (.slice B2 yns.length b2) yns (.slice B3 yks.length b3) yks)) (wc.alloc (.cells #[.int .i64 xk, .int .i64 xn, .slice A1 xms.length c1, .slice A2 xns.length c2, .slice A3 xks.length c3, .int .i64 yk, .int .i64 yn, .slice B1 yms.length b1, .slice B2 yns.length b2, .slice B3 yks.length b3] 26))) := Lib.hid (okX_pair kk HTB.out.p.ox HTB.out.p.oy)
      have HBK : Hid (Blk (wc.alloc (.cells #[.int .i64 xk, .int .i64 xn, .slice A1 xms.length c1, .slice A2 xns.length c2, .slice A3 xks.length c3, .int .i64 yk, .int .i64 yn, .slice B1 yms.length b1, .slice B2 yns.length b2, .slice B3 yks.length b3] 26)) wc.heap.size 26 (kcells [(XE.mk xk xn (.slice A1 xms.length c1) xms (.slice A2 xns.length c2) xns (.slice A3 xks.length c3) xks), (XE.mk yk yn (.slice B1 yms.length b1) yms (.slice B2 yns.length b2) yns (.slice B3 yks.length b3) yks)])) := Lib.hid (Blk.mk (heap_alloc_new wc _))
      have HS1 := Lib.hid (show (wc.alloc (.cells #[.int .i64 xk, .int .i64 xn, .slice A1 xms.length c1, .slice A2 xns.length c2, .slice A3 xks.length c3, .int .i64 yk, .int .i64 yn, .slice B1 yms.length b1, .slice B2 yns.length b2, .slice B3 yks.length b3] 26)).heap.size = wc.heap.size + 1 by simp)
      go_upto_region 12 with fail
      obtain ⟨gk, hgk⟩ : ∃ g, wc.heap.size = g := ⟨_, rfl⟩
      have HWB := Lib.hid hgk
      rw [hgk] at HOK HBK HS1 ⊢
      clear hgk k0 x0 x1 x2 x3 x4 y0 y1 y2 y3 y4
      have HBL : Hid (Below wc.heap.size wc (wc.alloc (.cells #[.int .i64 xk, .int .i64 xn, .slice A1 xms.length c1, .slice A2 xns.length c2, .slice A3 xks.length c3, .int .i64 yk, .int .i64 yn, .slice B1 yms.length b1, .slice B2 yns.length b2, .slice B3 yks.length b3] 26))) := Lib.hid ((Below.refl _ _).alloc (Nat.le_refl _) _)
      obtain ⟨Wk, hWk⟩ : ∃ V, wc.alloc (.cells #[.int .i64 xk, .int .i64 xn, .slice A1 xms.length c1, .slice A2 xns.length c2, .slice A3 xks.length c3, .int .i64 yk, .int .i64 yn, .slice B1 yms.length b1, .slice B2 yns.length b2, .slice B3 yks.length b3] 26) = V := ⟨_, rfl⟩
      rw [hWk] at HOK HBK HS1 HBL ⊢
      clear hWk
      have HN19 : Hid (Blk (Wk.alloc (.cells #[.int .i64 kk, .int .i64 0, .slice none 0 0, .slice none 0 0, .slice (some ⟨gk, 0, none⟩) 2 2] 26)) Wk.heap.size 26 [.int .i64 kk, .int .i64 0, .slice none 0 0, .slice none 0 0, .slice (some ⟨gk, 0, none⟩) 2 2]) := Lib.hid (Blk.mk (heap_alloc_new Wk _))
      have HBL2 : Hid (Below Wk.heap.size Wk (Wk.alloc (.cells #[.int .i64 kk, .int .i64 0, .slice none 0 0, .slice none 0 0, .slice (some ⟨gk, 0, none⟩) 2 2] 26))) := Lib.hid ((Below.refl _ _).alloc (Nat.le_refl _) _)
      rw [HS1.out] at HN19
      obtain ⟨g19, hg19⟩ : ∃ g, gk + 1 = g := ⟨_, rfl⟩
      have hl19 : g19 = gk + 1 := hg19.symm
      rw [hg19] at HN19 ⊢
      clear hg19
      generalize Wk.alloc (.cells #[.int .i64 kk, .int .i64 0, .slice none 0 0, .slice none 0 0, .slice (some ⟨gk, 0, none⟩) 2 2] 26) = W5 at *
      have HL19 := Lib.hid hl19
      clear hl19
      have HBW : Hid (Below wc.heap.size wc W5) := Lib.hid (HBL.out.trans (HBL2.out.mono HBL.out.size))
      have HO5 : Hid (okX 6 (pairX kk gk (XE.mk xk xn (.slice A1 xms.length c1) xms (.slice A2 xns.length c2) xns (.slice A3 xks.length c3) xks) (XE.mk yk yn (.slice B1 yms.length b1) yms (.slice B2 yns.length b2) yns (.slice B3 yks.length b3) yks)) W5) := Lib.hid (okX_below HBL2.out 6 _ HOK.out)
      have HK5 : Hid (Blk W5 gk 26 (kcells [(XE.mk xk xn (.slice A1 xms.length c1) xms (.slice A2 xns.length c2) xns (.slice A3 xks.length c3) xks), (XE.mk yk yn (.slice B1 yms.length b1) yms (.slice B2 yns.length b2) yns (.slice B3 yks.length b3) yks)])) := Lib.hid (HBK.out.below HBL2.out HBK.out.lt)
      have hs5 : g19 < W5.heap.size := HN19.out.lt
      have HWK : Hid (Below Wk.heap.size Wk W5) := HBL2
      have HBC := HBL
      clear HBK HBL HBL2
      obtain ⟨hw1, hw2⟩ := nWithin_in what (lo := 0) (hi := 4) (by omega)
      obtain ⟨wh, hwh⟩ : ∃ k, nWithin what 0 4 = k := ⟨_, rfl⟩
      rw [hwh] at HW2 hw1 hw2
      clear hwh
      go_wp2_with fail
      (with_reducible refine (HW2.out _).mono ?_); rintro e w' ⟨rfl, rfl⟩
      obtain ⟨b0, b1', b2', b3', b4⟩ := blk_cells5 HN19.out
      obtain ⟨r0, r1, r2, r3, r4⟩ := blk_fr HN19.out
      go_upto_block 0 with fail
      go_cut [] from 91 to 114 (fun wx => BadAt wc g19 wx)
      case first =>
        have HIN := Lib.hid (show ∀ V, Below Wk.heap.size Wk V → okX 6 (pairX kk gk (XE.mk xk xn (.slice A1 xms.length c1) xms (.slice A2 xns.length c2) xns (.slice A3 xks.length c3) xks) (XE.mk yk yn (.slice B1 yms.length b1) yms (.slice B2 yns.length b2) yns (.slice B3 yks.length b3) yks)) V from fun V hV => okX_below hV 6 _ HOK.out)
        have HWB2 := Lib.hid (show ∀ V, Below Wk.heap.size Wk V → Below wc.heap.size wc V from fun V hV => by
          have hl : wc.heap.size ≤ Wk.heap.size := by rw [HS1.out, ← HWB.out]; omega
          exact HBC.out.trans (hV.mono hl))
        have HLW := Lib.hid (show wc.heap.size ≤ g19 by have := HWB.out; have := HL19.out; omega)
        have HLK := Lib.hid (show Wk.heap.size ≤ g19 by have := HS1.out; have := HL19.out; omega)
        have HSY : Hid (∀ n', ([(XE.mk xk xn (.slice A1 xms.length c1) xms (.slice A2 xns.length c2) xns (.slice A3 xks.length c3) xks), (XE.mk yk yn (.slice B1 yms.length b1) yms (.slice B2 yns.length b2) yns (.slice B3 yks.length b3) yks)].map XE.pe).length = n' → True) := Lib.hid (fun _ _ => trivial)
        by_cases h0 : wh = 0
        · subst h0
          have HR : Hid (BadAt wc g19 (W5.setCell ⟨g19, 1, none⟩ (.int .i64 1))) := Lib.hid (by
            have hset : Below Wk.heap.size Wk (W5.setCell ⟨g19, 1, none⟩ (.int .i64 1)) := HWK.out.setCell (p := ⟨g19, 1, none⟩) HLK.out _
            have hin := HIN.out _ hset
            exact ⟨HWB2.out _ hset, HLW.out, kk, 1, none, 0, [], none, 0, [], some ⟨gk, 0, none⟩, 2, [(XE.mk xk xn (.slice A1 xms.length c1) xms (.slice A2 xns.length c2) xns (.slice A3 xks.length c3) xks), (XE.mk yk yn (.slice B1 yms.length b1) yms (.slice B2 yns.length b2) yns (.slice B3 yks.length b3) yks)], ⟨HN19.out.set 1 _, hin⟩, ty_extra HK1.out HK2.out (.inl (by simp)), (by
              show PE.small (.mk kk 1 [] [] [_, _])
              unfold PE.small smallP smallP smallP; exact ⟨by simp, by simp, by simp, HSMX.out, HSMY.out, trivial⟩)⟩)
          clear hw1 hw2
          go_wp2_with fail
          go_meet
          exact HR.out
        · have t0 : (wh == 0) = false := by rw [beq_eq_false_iff_ne]; exact h0
          by_cases h1 : wh = 1
          · subst h1
            have HR : Hid (BadAt wc g19 ((W5.setCell ⟨g19, 3, none⟩ (.slice (some ⟨W5.heap.size, 0, none⟩) 1 1)).alloc (.cells #[.string ⟨#[97]⟩] 9))) := Lib.hid (by
              have hset : Below Wk.heap.size Wk (W5.setCell ⟨g19, 3, none⟩ (.slice (some ⟨W5.heap.size, 0, none⟩) 1 1)) := HWK.out.setCell (p := ⟨g19, 3, none⟩) HLK.out _
              have hsz : (W5.setCell ⟨g19, 3, none⟩ (.slice (some ⟨W5.heap.size, 0, none⟩) 1 1)).heap.size = W5.heap.size := by simp
              have hal := hset.alloc hset.size (.cells #[.string ⟨#[97]⟩] 9)
              have hin := HIN.out _ hal
              have hbk : Blk ((W5.setCell ⟨g19, 3, none⟩ (.slice (some ⟨W5.heap.size, 0, none⟩) 1 1)).alloc (.cells #[.string ⟨#[97]⟩] 9)) W5.heap.size 9 (strs [⟨#[97]⟩]) := by
                have h := (Blk.mk (heap_alloc_new (W5.setCell ⟨g19, 3, none⟩ (.slice (some ⟨W5.heap.size, 0, none⟩) 1 1)) (.cells #[.string ⟨#[97]⟩] 9)) : Blk _ (W5.setCell ⟨g19, 3, none⟩ (.slice (some ⟨W5.heap.size, 0, none⟩) 1 1)).heap.size 9 [.string ⟨#[97]⟩])
                rw [hsz] at h; exact h
              have hsl := (FarS.slc (S := fun _ => False) (n := 1) (size := 1) hbk (fun h => h) rfl (by omega)).now
              exact ⟨HWB2.out _ hal, HLW.out, kk, 0, none, 0, [], some ⟨W5.heap.size, 0, none⟩, 1, [⟨#[97]⟩], some ⟨gk, 0, none⟩, 2, [(XE.mk xk xn (.slice A1 xms.length c1) xms (.slice A2 xns.length c2) xns (.slice A3 xks.length c3) xks), (XE.mk yk yn (.slice B1 yms.length b1) yms (.slice B2 yns.length b2) yns (.slice B3 yks.length b3) yks)], ⟨(HN19.out.set 3 _).alloc _, ⟨hin.1, hsl, hin.2.2.1, hin.2.2.2⟩⟩, ty_extra HK1.out HK2.out (.inr (.inl (by simp))), (by
                show PE.small (.mk kk 0 [] [_] [_, _])
                unfold PE.small smallP smallP smallP; exact ⟨by simp, by simp, by simp, HSMX.out, HSMY.out, trivial⟩)⟩)
            clear hw1 hw2 h0
            go_wp2_with fail
            go_meet
            exact HR.out
          · have t1 : (wh == 1) = false := by rw [beq_eq_false_iff_ne]; exact h1
            by_cases h2 : wh = 2
            · subst h2
              have HR : Hid (BadAt wc g19 ((W5.setCell ⟨g19, 2, none⟩ (.slice (some ⟨W5.heap.size, 0, none⟩) 1 1)).alloc (.cells #[.string ⟨#[97]⟩, .string ⟨#[]⟩, .int .i64 1] 54))) := Lib.hid (by
                have hset : Below Wk.heap.size Wk (W5.setCell ⟨g19, 2, none⟩ (.slice (some ⟨W5.heap.size, 0, none⟩) 1 1)) := HWK.out.setCell (p := ⟨g19, 2, none⟩) HLK.out _
                have hsz : (W5.setCell ⟨g19, 2, none⟩ (.slice (some ⟨W5.heap.size, 0, none⟩) 1 1)).heap.size = W5.heap.size := by simp
                have hal := hset.alloc hset.size (.cells #[.string ⟨#[97]⟩, .string ⟨#[]⟩, .int .i64 1] 54)
                have hin := HIN.out _ hal
                have hbk : Blk ((W5.setCell ⟨g19, 2, none⟩ (.slice (some ⟨W5.heap.size, 0, none⟩) 1 1)).alloc (.cells #[.string ⟨#[97]⟩, .string ⟨#[]⟩, .int .i64 1] 54)) W5.heap.size 54 (mtcs [(⟨#[97]⟩, ⟨#[]⟩, 1)]) := by
                  have h := (Blk.mk (heap_alloc_new (W5.setCell ⟨g19, 2, none⟩ (.slice (some ⟨W5.heap.size, 0, none⟩) 1 1)) (.cells #[.string ⟨#[97]⟩, .string ⟨#[]⟩, .int .i64 1] 54)) : Blk _ (W5.setCell ⟨g19, 2, none⟩ (.slice (some ⟨W5.heap.size, 0, none⟩) 1 1)).heap.size 54 [.string ⟨#[97]⟩, .string ⟨#[]⟩, .int .i64 1])
                  rw [hsz] at h; exact h
                have hsl := (FarS.slc (S := fun _ => False) (n := 1) (size := 3) hbk (fun h => h) rfl (by omega)).now
                exact ⟨HWB2.out _ hal, HLW.out, kk, 0, some ⟨W5.heap.size, 0, none⟩, 1, [(⟨#[97]⟩, ⟨#[]⟩, 1)], none, 0, [], some ⟨gk, 0, none⟩, 2, [(XE.mk xk xn (.slice A1 xms.length c1) xms (.slice A2 xns.length c2) xns (.slice A3 xks.length c3) xks), (XE.mk yk yn (.slice B1 yms.length b1) yms (.slice B2 yns.length b2) yns (.slice B3 yks.length b3) yks)], ⟨(HN19.out.set 2 _).alloc _, ⟨hsl, hin.2.1, hin.2.2.1, hin.2.2.2⟩⟩, ty_extra HK1.out HK2.out (.inl (by simp)), (by
                  show PE.small (.mk kk 0 [_] [] [_, _])
                  unfold PE.small smallP smallP smallP; exact ⟨by simp, by simp, by simp, HSMX.out, HSMY.out, trivial⟩)⟩)
              clear hw1 hw2 h0 h1
              go_wp2_with fail
              go_meet
              exact HR.out
            · have t2 : (wh == 2) = false := by rw [beq_eq_false_iff_ne]; exact h2
              by_cases h3 : wh = 3
              · subst h3
                have HT5 := Lib.hid (HTB.out.below HBW.out)
                obtain ⟨y0, y1, y2, y3, y4⟩ := blk_cells5 HT5.out.p.by_
                simp only [XE.kd, XE.n, XE.mv, XE.nv, XE.kv] at y0 y1 y2 y3 y4
                obtain ⟨i0, hi, hz0, hz1, hz2⟩ := info_parts Tryd.infoExprT
                have HOWN : Hid ((W5.alloc (.cells #[.int .i64 yk, .int .i64 yn, .slice B1 yms.length b1, .slice B2 yns.length b2, .slice B3 yks.length b3] 26)).ownsRow gk 26 5 (.slice (some ⟨gk, 0, none⟩) 2 2) 2 (kcells [(XE.mk xk xn (.slice A1 xms.length c1) xms (.slice A2 xns.length c2) xns (.slice A3 xks.length c3) xks), (XE.mk yk yn (.slice B1 yms.length b1) yms (.slice B2 yns.length b2) yns (.slice B3 yks.length b3) yks)])) := Lib.hid ((HK5.out.alloc (.cells #[.int .i64 yk, .int .i64 yn, .slice B1 yms.length b1, .slice B2 yns.length b2, .slice B3 yks.length b3] 26)).owns (n := 2) (cap := 2) (Nat.le_refl _) (Nat.le_refl _) (by decide) rfl)
                have HSEE : Hid (Sees (W5.alloc (.cells #[.int .i64 yk, .int .i64 yn, .slice B1 yms.length b1, .slice B2 yns.length b2, .slice B3 yks.length b3] 26)) (W5.alloc (.cells #[.int .i64 yk, .int .i64 yn, .slice B1 yms.length b1, .slice B2 yns.length b2, .slice B3 yks.length b3] 26)).heap.size 5 (some ⟨W5.heap.size, 0, none⟩) 1 (kcells [(XE.mk yk yn (.slice B1 yms.length b1) yms (.slice B2 yns.length b2) yns (.slice B3 yks.length b3) yks)])) := Lib.hid ((Blk.mk (heap_alloc_new W5 _) : Blk (W5.alloc (.cells #[.int .i64 yk, .int .i64 yn, .slice B1 yms.length b1, .slice B2 yns.length b2, .slice B3 yks.length b3] 26)) W5.heap.size 26 (kcells [(XE.mk yk yn (.slice B1 yms.length b1) yms (.slice B2 yns.length b2) yns (.slice B3 yks.length b3) yks)])).sees rfl (List.prefix_refl _))
                have HONE := Lib.hid (kcells_one [(XE.mk yk yn (.slice B1 yms.length b1) yms (.slice B2 yns.length b2) yns (.slice B3 yks.length b3) yks)] (fun k hk => by
                  rw [List.mem_singleton] at hk; subst hk
                  exact ⟨B1, yms.length, b1, B2, yns.length, b2, B3, yks.length, b3, rfl, rfl, rfl⟩))
                have hgs : gk ≤ (W5.alloc (.cells #[.int .i64 yk, .int .i64 yn, .slice B1 yms.length b1, .slice B2 yns.length b2, .slice B3 yks.length b3] 26)).heap.size := by have := HL19.out; simp; omega
                have HN6 := Lib.hid (HN19.out.alloc (.cells #[.int .i64 yk, .int .i64 yn, .slice B1 yms.length b1, .slice B2 yns.length b2, .slice B3 yks.length b3] 26))
                have HB6 := Lib.hid (HBW.out.alloc HBW.out.size (.cells #[.int .i64 yk, .int .i64 yn, .slice B1 yms.length b1, .slice B2 yns.length b2, .slice B3 yks.length b3] 26))
                clear hw1 hw2 h0 h1 h2
                go_wp2_with (at_builtin; refine wpList_append_sees rfl (.tmp 110) (.tmp 112) 24 rfl gk 26 i0 (.agg #[.int .i64 0, .int .i64 0, .slice none 0 0, .slice none 0 0, .slice none 0 0]) 5 88 Tryd.underlying24 hi hz0 hz1 hz2 rfl (by decide) (.slice (some ⟨gk, 0, none⟩) 2 2) 2 (kcells [(XE.mk xk xn (.slice A1 xms.length c1) xms (.slice A2 xns.length c2) xns (.slice A3 xks.length c3) xks), (XE.mk yk yn (.slice B1 yms.length b1) yms (.slice B2 yns.length b2) yns (.slice B3 yks.length b3) yks)]) rfl HOWN.out _ _ 1 1 (kcells [(XE.mk yk yn (.slice B1 yms.length b1) yms (.slice B2 yns.length b2) yns (.slice B3 yks.length b3) yks)]) rfl HSEE.out HONE.out (by unfold maxLen; omega) (by omega) hgs ?_)
                intro v9 w9 hown9 hgr9
                replace hgr9 : (W5.alloc (.cells #[.int .i64 yk, .int .i64 yn, .slice B1 yms.length b1, .slice B2 yns.length b2, .slice B3 yks.length b3] 26)).grownBy w9 (some gk) := hgr9
                have hn9 := HN6.out.grown hgr9 (fun e => by injection e with e; have := HL19.out; omega)
                have hb9 := HB6.out.grown hgr9 HB6.out.size (fun k hk => by injection hk with hk; have := HWB.out; omega)
                obtain ⟨A9, c9, rfl, hc9, hm9⟩ := own_slice hown9
                have hne9 : ∀ r, (Value.slice A9 3 c9).ownBlock = some r → r ≠ g19 := fun r hr e => by
                  rcases hown9.2 with ⟨h1, _⟩ | ⟨r', cap, cur, hv, _, hh, hle, _, hcs, _⟩
                  · cases h1
                  · injection hv with e1 e2 e3
                    subst e1
                    injection hr with hr
                    have hq := hn9.eq
                    rw [← e, ← hr, hh] at hq
                    injection hq with hq; injection hq with hq
                    rw [hq] at hcs
                    simp at hcs; omega
                have HR : Hid (BadAt wc g19 (w9.setCell ⟨g19, 4, none⟩ (.slice A9 3 c9))) := Lib.hid (by
                  have hset : Below wc.heap.size wc (w9.setCell ⟨g19, 4, none⟩ (.slice A9 3 c9)) := hb9.setCell (p := ⟨g19, 4, none⟩) HLW.out _
                  have hown10 := own_grown hown9 (only_setCell (World.grownBy.refl w9 (some g19)) (p := ⟨g19, 4, none⟩) (.inl rfl) (.slice A9 3 c9)) (fun r hr e => by injection e with e; exact hne9 r hr e.symm)
                  have hsl : Slc (w9.setCell ⟨g19, 4, none⟩ (.slice A9 3 c9)) 5 (.slice A9 3 c9) 3 (kcells [(XE.mk xk xn (.slice A1 xms.length c1) xms (.slice A2 xns.length c2) xns (.slice A3 xks.length c3) xks), (XE.mk yk yn (.slice B1 yms.length b1) yms (.slice B2 yns.length b2) yns (.slice B3 yks.length b3) yks), (XE.mk yk yn (.slice B1 yms.length b1) yms (.slice B2 yns.length b2) yns (.slice B3 yks.length b3) yks)]) := ⟨A9, c9, rfl, Sees.of_own hown10, hc9, hm9⟩
                  exact ⟨hset, HLW.out, kk, 0, none, 0, [], none, 0, [], A9, c9, [(XE.mk xk xn (.slice A1 xms.length c1) xms (.slice A2 xns.length c2) xns (.slice A3 xks.length c3) xks), (XE.mk yk yn (.slice B1 yms.length b1) yms (.slice B2 yns.length b2) yns (.slice B3 yks.length b3) yks), (XE.mk yk yn (.slice B1 yms.length b1) yms (.slice B2 yns.length b2) yns (.slice B3 yks.length b3) yks)], ⟨hn9.set 4 _, ⟨slc_nil' _ 3, slc_nil' _ 1, hsl, fun k hk => by
                    have hk : k ∈ [(XE.mk xk xn (.slice A1 xms.length c1) xms (.slice A2 xns.length c2) xns (.slice A3 xks.length c3) xks), (XE.mk yk yn (.slice B1 yms.length b1) yms (.slice B2 yns.length b2) yns (.slice B3 yks.length b3) yks), (XE.mk yk yn (.slice B1 yms.length b1) yms (.slice B2 yns.length b2) yns (.slice B3 yks.length b3) yks)] := hk
                    simp only [List.mem_cons, List.not_mem_nil, or_false] at hk
                    rcases hk with rfl | rfl | rfl
                    · exact okX_below hset 5 _ HTB.out.p.ox
                    · exact okX_below hset 5 _ HTB.out.p.oy
                    · exact okX_below hset 5 _ HTB.out.p.oy⟩⟩, ty_extra HK1.out HK2.out (.inr (.inr (by simp [pesX]))), (by
                    show PE.small (.mk kk 0 [] [] [_, _, _])
                    unfold PE.small smallP smallP smallP smallP; exact ⟨by simp, by simp, by simp, HSMX.out, HSMY.out, HSMY.out, trivial⟩)⟩)
                obtain ⟨b0, b1', b2', b3', b4⟩ := blk_cells5 hn9
                obtain ⟨r0, r1, r2, r3, r4⟩ := blk_fr hn9
                clear hown9 hgr9 hn9 hb9 hne9
                go_wp2_with fail
                go_meet
                exact HR.out
              · have t3 : (wh == 3) = false := by rw [beq_eq_false_iff_ne]; exact h3
                have HR : Hid (BadAt wc g19 (W5.setCell ⟨g19, 4, none⟩ (.slice (some ⟨gk, 0, none⟩) 1 2))) := Lib.hid (by
                  have hset : Below Wk.heap.size Wk (W5.setCell ⟨g19, 4, none⟩ (.slice (some ⟨gk, 0, none⟩) 1 2)) := HWK.out.setCell (p := ⟨g19, 4, none⟩) HLK.out _
                  have hin := HIN.out _ hset
                  have hsl : Slc (W5.setCell ⟨g19, 4, none⟩ (.slice (some ⟨gk, 0, none⟩) 1 2)) 5 (.slice (some ⟨gk, 0, none⟩) 1 2) 1 (kcells [(XE.mk xk xn (.slice A1 xms.length c1) xms (.slice A2 xns.length c2) xns (.slice A3 xks.length c3) xks)]) := by
                    obtain ⟨A', c', e, h1, h2, h3⟩ := hin.2.2.1
                    injection e with e1 e2 e3
                    subst e1
                    have h := h1.take (k := 1) (by show 1 ≤ 2; omega)
                    exact ⟨_, 2, rfl, h, by omega, by omega⟩
                  exact ⟨HWB2.out _ hset, HLW.out, kk, 0, none, 0, [], none, 0, [], some ⟨gk, 0, none⟩, 2, [(XE.mk xk xn (.slice A1 xms.length c1) xms (.slice A2 xns.length c2) xns (.slice A3 xks.length c3) xks)], ⟨HN19.out.set 4 _, ⟨hin.1, hin.2.1, hsl, fun k hk => hin.2.2.2 k (by
                    have hk : k ∈ [(XE.mk xk xn (.slice A1 xms.length c1) xms (.slice A2 xns.length c2) xns (.slice A3 xks.length c3) xks)] := hk
                    rw [List.mem_singleton] at hk; subst hk; exact List.mem_cons_self)⟩⟩, ty_extra HK1.out HK2.out (.inr (.inr (by simp [pesX]))), (by
                    show PE.small (.mk kk 0 [] [] [_])
                    unfold PE.small smallP smallP; exact ⟨by simp, by simp, by simp, HSMX.out, trivial⟩)⟩)
                clear hw1 hw2 h0 h1 h2 h3
                go_wp2_with fail
                go_meet
                exact HR.out
      case rest =>
        have HBA := Lib.hid hcut
        have HTN := Lib.hid (HTB.out.below hcut.1)
        have HBN := Lib.hid (HTB.out.p.bel.trans (hcut.1.mono HTB.out.p.bel.size))
        clear hcut HTB
        obtain ⟨W9, hW9⟩ : ∃ V, V = wc := ⟨_, rfl⟩
        subst hW9
        obtain ⟨x0, x1, x2, x3, x4⟩ := blk_cells5 HTN.out.p.bx
        simp only [XE.kd, XE.n, XE.mv, XE.nv, XE.kv] at x0 x1 x2 x3 x4
        have hgl := HTN.out.p.bx.lt
        have HO : Hid (∃ g20, XBox g20 6 17 0 none 0 [] (some ⟨W9.heap.size, 0, none⟩) 2 [⟨#[97]⟩, ⟨#[97]⟩] (some ⟨W9.heap.size + 1, 0, none⟩) 1 [(XE.mk xk xn (.slice A1 xms.length c1) xms (.slice A2 xns.length c2) xns (.slice A3 xks.length c3) xks)] (((W9.alloc (.cells #[.string ⟨#[97]⟩, .string ⟨#[97]⟩] 9)).alloc (.cells #[.int .i64 xk, .int .i64 xn, .slice A1 xms.length c1, .slice A2 xns.length c2, .slice A3 xks.length c3] 26)).alloc (.cells #[.int .i64 17, .int .i64 0, .slice none 0 0, .slice (some ⟨W9.heap.size, 0, none⟩) 2 2, .slice (some ⟨W9.heap.size + 1, 0, none⟩) 1 1] 26)) ∧ g20 = W9.heap.size + 1 + 1) := Lib.hid (by
          have hs1 : (W9.alloc (.cells #[.string ⟨#[97]⟩, .string ⟨#[97]⟩] 9)).heap.size = W9.heap.size + 1 := by simp
          have hs2 : ((W9.alloc (.cells #[.string ⟨#[97]⟩, .string ⟨#[97]⟩] 9)).alloc (.cells #[.int .i64 xk, .int .i64 xn, .slice A1 xms.length c1, .slice A2 xns.length c2, .slice A3 xks.length c3] 26)).heap.size = W9.heap.size + 1 + 1 := by simp
          have ha1 : Below W9.heap.size W9 ((W9.alloc (.cells #[.string ⟨#[97]⟩, .string ⟨#[97]⟩] 9)).alloc (.cells #[.int .i64 xk, .int .i64 xn, .slice A1 xms.length c1, .slice A2 xns.length c2, .slice A3 xks.length c3] 26)) := ((Below.refl _ _).alloc (Nat.le_refl _) _).alloc (by simp) _
          have hbn : Blk ((W9.alloc (.cells #[.string ⟨#[97]⟩, .string ⟨#[97]⟩] 9)).alloc (.cells #[.int .i64 xk, .int .i64 xn, .slice A1 xms.length c1, .slice A2 xns.length c2, .slice A3 xks.length c3] 26)) W9.heap.size 9 (strs [⟨#[97]⟩, ⟨#[97]⟩]) := (Blk.mk (heap_alloc_new W9 _)).alloc _
          have hbk : Blk ((W9.alloc (.cells #[.string ⟨#[97]⟩, .string ⟨#[97]⟩] 9)).alloc (.cells #[.int .i64 xk, .int .i64 xn, .slice A1 xms.length c1, .slice A2 xns.length c2, .slice A3 xks.length c3] 26)) (W9.heap.size + 1) 26 (kcells [(XE.mk xk xn (.slice A1 xms.length c1) xms (.slice A2 xns.length c2) xns (.slice A3 xks.length c3) xks)]) := by
            have h := (Blk.mk (heap_alloc_new (W9.alloc (.cells #[.string ⟨#[97]⟩, .string ⟨#[97]⟩] 9)) (.cells #[.int .i64 xk, .int .i64 xn, .slice A1 xms.length c1, .slice A2 xns.length c2, .slice A3 xks.length c3] 26)) : Blk _ (W9.alloc (.cells #[.string ⟨#[97]⟩, .string ⟨#[97]⟩] 9)).heap.size 26 (kcells [(XE.mk xk xn (.slice A1 xms.length c1) xms (.slice A2 xns.length c2) xns (.slice A3 xks.length c3) xks)]))
            rw [hs1] at h; exact h
          have hok : okX 6 (.mk 17 0 (.slice none 0 0) [] (.slice (some ⟨W9.heap.size, 0, none⟩) 2 2) [⟨#[97]⟩, ⟨#[97]⟩] (.slice (some ⟨W9.heap.size + 1, 0, none⟩) 1 1) [(XE.mk xk xn (.slice A1 xms.length c1) xms (.slice A2 xns.length c2) xns (.slice A3 xks.length c3) xks)]) ((W9.alloc (.cells #[.string ⟨#[97]⟩, .string ⟨#[97]⟩] 9)).alloc (.cells #[.int .i64 xk, .int .i64 xn, .slice A1 xms.length c1, .slice A2 xns.length c2, .slice A3 xks.length c3] 26)) := ⟨slc_nil' _ 3, (FarS.slc (S := fun _ => False) (n := 2) (size := 1) hbn (fun h => h) rfl (by omega)).now, (FarS.slc (S := fun _ => False) (n := 1) (size := 5) hbk (fun h => h) rfl (by omega)).now, fun k hk => by
            have hk : k ∈ [(XE.mk xk xn (.slice A1 xms.length c1) xms (.slice A2 xns.length c2) xns (.slice A3 xks.length c3) xks)] := hk
            rw [List.mem_singleton] at hk; subst hk
            exact okX_below ha1 5 _ HTN.out.p.ox⟩
          exact ⟨_, XBox.new hok, by rw [hs2]⟩)
        have HAL : Hid (Below W9.heap.size W9 (((W9.alloc (.cells #[.string ⟨#[97]⟩, .string ⟨#[97]⟩] 9)).alloc (.cells #[.int .i64 xk, .int .i64 xn, .slice A1 xms.length c1, .slice A2 xns.length c2, .slice A3 xks.length c3] 26)).alloc (.cells #[.int .i64 17, .int .i64 0, .slice none 0 0, .slice (some ⟨W9.heap.size, 0, none⟩) 2 2, .slice (some ⟨W9.heap.size + 1, 0, none⟩) 1 1] 26))) := Lib.hid ((((Below.refl _ _).alloc (Nat.le_refl _) _).alloc (by simp) _).alloc (by simp; omega) _)
        have hodt : (XE.mk 17 0 (.slice none 0 0) [] (.slice (some ⟨W9.heap.size, 0, none⟩) 2 2) [⟨#[97]⟩, ⟨#[97]⟩] (.slice (some ⟨W9.heap.size + 1, 0, none⟩) 1 1) [(XE.mk xk xn (.slice A1 xms.length c1) xms (.slice A2 xns.length c2) xns (.slice A3 xks.length c3) xks)]).pe.ty = 0 := by
          show (PE.mk 17 0 [] [⟨#[97]⟩, ⟨#[97]⟩] [_]).ty = 0
          unfold PE.ty
          rw [if_neg (by decide), if_neg (by decide), if_neg (by simp), if_pos (by decide)]
          unfold oneT
          rw [if_neg (fun h => by have h1 := h.1; revert h1; decide)]
        have hods : (XE.mk 17 0 (.slice none 0 0) [] (.slice (some ⟨W9.heap.size, 0, none⟩) 2 2) [⟨#[97]⟩, ⟨#[97]⟩] (.slice (some ⟨W9.heap.size + 1, 0, none⟩) 1 1) [(XE.mk xk xn (.slice A1 xms.length c1) xms (.slice A2 xns.length c2) xns (.slice A3 xks.length c3) xks)]).pe.small := by
          show PE.small (.mk 17 0 [] [⟨#[97]⟩, ⟨#[97]⟩] [_])
          unfold PE.small smallP smallP; exact ⟨by simp, by simp, by simp, HSMX.out, trivial⟩
        have HODT := Lib.hid hodt; have HODS := Lib.hid hods
        have HBA2 := Lib.hid (HBA.out.below HAL.out)
        have HBN2 := Lib.hid (HBN.out.trans (HAL.out.mono HBN.out.size))
        clear hodt hods
        go_upto_region 23 with fail
        obtain ⟨g20, hbx20, hg20⟩ := HO.out
        have HX20 := Lib.hid hbx20
        clear hbx20 HO HAL HBA HBN HTN x0 x1 x2 x3 x4
        rw [← hg20]
        clear hg20
        obtain ⟨gn, hgn⟩ : ∃ r, W9.heap.size = r := ⟨_, rfl⟩
        rw [hgn] at HX20 HODT HODS HBA2 HBN2 ⊢
        clear hgn
        generalize ((W9.alloc (.cells #[.string ⟨#[97]⟩, .string ⟨#[97]⟩] 9)).alloc (.cells #[.int .i64 xk, .int .i64 xn, .slice A1 xms.length c1, .slice A2 xns.length c2, .slice A3 xks.length c3] 26)).alloc (.cells #[.int .i64 17, .int .i64 0, .slice none 0 0, .slice (some ⟨gn, 0, none⟩) 2 2, .slice (some ⟨gn + 1, 0, none⟩) 1 1] 26) = V9 at *
        obtain ⟨_, _, bk, bn, D1, d1, bms, D2, d2, bns, D3, d3, bks, hbx, hbt, hbs⟩ := HBA2.out
        have HBX := Lib.hid hbx
        have HC1 := Lib.hid (show Calls Tryd.prog 10 #[.agg #[.int .i64 bk, .int .i64 bn, .slice D1 bms.length d1, .slice D2 bns.length d2, .slice D3 bks.length d3]] V9 fun e w' => e = .returned (.int .i64 0) ∧ Below V9.heap.size V9 w' by
          have h := type_any 6 _ V9 hbs hbx.ok
          rw [hbt] at h; exact h)
        clear hbx hbt hbs HBA2
        have HC2 := Lib.hid (fun V (hV : XBox g20 6 17 0 none 0 [] (some ⟨gn, 0, none⟩) 2 [⟨#[97]⟩, ⟨#[97]⟩] (some ⟨gn + 1, 0, none⟩) 1 [(XE.mk xk xn (.slice A1 xms.length c1) xms (.slice A2 xns.length c2) xns (.slice A3 xks.length c3) xks)] V) => show Calls Tryd.prog 10 #[.agg #[.int .i64 17, .int .i64 0, .slice none 0 0, .slice (some ⟨gn, 0, none⟩) 2 2, .slice (some ⟨gn + 1, 0, none⟩) 1 1]] V fun e w' => e = .returned (.int .i64 0) ∧ Below V.heap.size V w' by
          have h := type_any 6 _ V HODS.out hV.ok
          rw [HODT.out] at h; exact h)
        have HC3 := Lib.hid (fun V => show Calls Tryd.prog 10 #[.agg #[.int .i64 0, .int .i64 0, .slice none 0 0, .slice none 0 0, .slice none 0 0]] V fun e w' => e = .returned (.int .i64 0) ∧ Below V.heap.size V w' from type_any 1 zeroXE V zeroPE_small ⟨slc_nil' _ 3, slc_nil' _ 1, slc_nil' _ 5, fun k hk => absurd hk List.not_mem_nil⟩)
        have HC4 := Lib.hid (fun V (hV : Below w.heap.size w V) => expr_runs V (tab_of HT.out hV))
        obtain ⟨b0, b1', b2', b3', b4⟩ := blk_cells5 HBX.out.blk
        go_wp2_with fail
        (with_reducible refine HC1.out.mono ?_); rintro e w5 ⟨rfl, hb⟩
        have HX20_n := Lib.hid (HX20.out.below hb); clear HX20; have HX20 := HX20_n; clear HX20_n
        have HBN2_n := Lib.hid (HBN2.out.trans (hb.mono HBN2.out.size)); clear HBN2; have HBN2 := HBN2_n; clear HBN2_n
        clear hb b0 b1' b2' b3' b4
        obtain ⟨b0, b1', b2', b3', b4⟩ := blk_cells5 HX20.out.blk
        simp only [List.length_cons, List.length_nil] at b2' b3' b4
        go_wp2_with fail
        (with_reducible refine (HC2.out _ HX20.out).mono ?_); rintro e w6 ⟨rfl, hb⟩
        have HBN2_n := Lib.hid (HBN2.out.trans (hb.mono HBN2.out.size)); clear HBN2; have HBN2 := HBN2_n; clear HBN2_n
        clear hb b0 b1' b2' b3' b4
        go_wp2_with fail
        (with_reducible refine (HC3.out _).mono ?_); rintro e w7 ⟨rfl, hb⟩
        have HBN2_n := Lib.hid (HBN2.out.trans (hb.mono HBN2.out.size)); clear HBN2; have HBN2 := HBN2_n; clear HBN2_n
        clear hb
        go_wp2_with fail
        (with_reducible refine (HC4.out _ HBN2.out).mono ?_); rintro e w8 ⟨rfl, hb⟩
        have HBN2_n := Lib.hid (HBN2.out.trans (hb.mono HBN2.out.size)); clear HBN2; have HBN2 := HBN2_n; clear HBN2_n
        clear hb
        go_wp2_with fail
        go_ret
        exact ⟨rfl, HBN2.out⟩
end Go.Proofs.YtnkbpcenkbihpaaDoor
