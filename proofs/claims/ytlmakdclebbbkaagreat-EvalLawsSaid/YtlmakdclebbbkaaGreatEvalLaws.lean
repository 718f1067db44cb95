/- Pruned. -/
import Derived.Test.YtlmakdclebbbkaaGreatBase50
import Derived.Test.YtlmakdclebbbkaaGreatBase51
namespace Go.Proofs.YtlmakdclebbbkaaGreat
open Go.ChangeShapes Go.WideShapes Go.ChangeAt Go.RowKit Go.Lib
set_option linter.unusedVariables false
set_option linter.unusedSimpArgs false
set_option maxRecDepth 100000
def FormX (X : XE) (xk xn : Int) (A1 A2 A3 : Option Addr) (l1 c1 l2 c2 l3 c3 : Nat) : Prop := X.kd = xk ∧ X.n = xn ∧ X.mv = .slice A1 l1 c1 ∧ X.nv = .slice A2 l2 c2 ∧ X.kv = .slice A3 l3 c3
theorem FormX.val {X : XE} {xk xn : Int} {A1 A2 A3 : Option Addr} {l1 c1 l2 c2 l3 c3 : Nat} (h : FormX X xk xn A1 A2 A3 l1 c1 l2 c2 l3 c3) : X.val = .agg #[.int .i64 xk, .int .i64 xn, .slice A1 l1 c1, .slice A2 l2 c2, .slice A3 l3 c3] := by
  obtain ⟨h1, h2, h3, h4, h5⟩ := h
  unfold XE.val; rw [h1, h2, h3, h4, h5]
theorem FormX.two {X : XE} {xk xn : Int} {A1 A2 A3 : Option Addr} {l1 c1 l2 c2 l3 c3 : Nat} (h : FormX X xk xn A1 A2 A3 l1 c1 l2 c2 l3 c3) : kcells [X, X] = (#[.int .i64 xk, .int .i64 xn, .slice A1 l1 c1, .slice A2 l2 c2, .slice A3 l3 c3, .int .i64 xk, .int .i64 xn, .slice A1 l1 c1, .slice A2 l2 c2, .slice A3 l3 c3]).toList := by
  show [.int .i64 X.kd, .int .i64 X.n, X.mv, X.nv, X.kv, .int .i64 X.kd, .int .i64 X.n, X.mv, X.nv, X.kv] = _
  obtain ⟨h1, h2, h3, h4, h5⟩ := h
  rw [h1, h2, h3, h4, h5]
def dX (c : Int) (bk : Nat) (X : XE) : XE := .mk c 0 (.slice none 0 0) [] (.slice none 0 0) [] (.slice (some ⟨bk, 0, none⟩) 2 2) [X, X]
theorem slc_nilL (w : World) (size : Nat) : Slc w size (.slice none 0 0) 0 [] := ⟨none, 0, rfl, Sees.nil, Nat.le_refl _, by omega⟩
theorem dX_ok {W : World} {c : Int} {bk : Nat} {X : XE} (hk : Sees W W.heap.size 5 (some ⟨bk, 0, none⟩) 2 (kcells [X, X])) (hx : okX 5 X W) : okX 6 (dX c bk X) W := by
  refine ⟨slc_nilL _ _, slc_nilL _ _, ⟨_, 2, rfl, hk, Nat.le_refl _, by omega⟩, fun q hq => ?_⟩
  have hq : q ∈ [X, X] := hq
  rcases List.mem_cons.1 hq with rfl | hq
  · exact hx
  · rw [List.mem_singleton] at hq; subst hq; exact hx
structure LvAt (u : World) (gs : Nat) (v : Value) (D : List SK) (sb eb : Nat) (X : XE) (cs : List Value) (W : World) : Prop where
  sto : Sto u gs v D W
  bs : Blk W sb 22 [.pointer (some ⟨gs, 0, none⟩)]
  be : Blk W eb 37 cs
  ok : okX 5 X W
theorem LvAt.below {u W W' : World} {gs : Nat} {v : Value} {D : List SK} {sb eb : Nat} {X : XE} {cs : List Value} (h : LvAt u gs v D sb eb X cs W) (hb : Below W.heap.size W W') : LvAt u gs v D sb eb X cs W' :=
  ⟨h.sto.below hb, h.bs.below hb h.bs.lt, h.be.below hb h.be.lt, okX_below hb _ _ h.ok⟩
structure LwAt (u : World) (gs : Nat) (v : Value) (D : List SK) (sb eb ab : Nat) (tm : Int) (X : XE) (cs : List Value) (W : World) : Prop where
  lv : LvAt u gs v D sb eb X cs W
  ba : Blk W ab 3 [.int .i64 tm]
theorem LwAt.below {u W W' : World} {gs : Nat} {v : Value} {D : List SK} {sb eb ab : Nat} {tm : Int} {X : XE} {cs : List Value} (h : LwAt u gs v D sb eb ab tm X cs W) (hb : Below W.heap.size W W') : LwAt u gs v D sb eb ab tm X cs W' :=
  ⟨h.lv.below hb, h.ba.below hb h.ba.lt⟩
theorem lim_keepL (k : KStore) : lim (fillF k) 6 ≤ 500 := by
  have h := fill_len k
  simp only [lim]; omega
theorem evalR_goodL {D : List SK} (hD : DOk D) (hv : VOk D) (t : Int) (d : Nat) (x : PE) (hf : x.fits) (hl : lim D d ≤ 500) : Fine (evalR D t d x).1 ∧ (evalR D t d x).1.length ≤ 500 := by
  unfold evalR
  split
  · obtain ⟨h1, h2, _⟩ := comF_good hD hv t d x hf (by omega)
    exact ⟨h1.fine, Nat.le_trans h2 hl⟩
  · exact ⟨Fine.nil, Nat.zero_le _⟩
theorem two_self {D : List SK} {t c : Int} {x : PE} {P : List Pt} {e : Int} (h1 : 3 ≤ c) (h2 : c ≤ 16) (hx : KeepT 5 2 x) (hp : evalR D t 5 x = (P, e)) : evalR D t 6 (.mk c 0 [] [] [x, x]) = if e ≠ 0 then ([], e) else wantR c P P := by
  rw [parts_eval h1 h2 hx hx hp hp]
  by_cases h : e ≠ 0
  · rw [if_pos h, if_pos h]
  · rw [if_neg h, if_neg h]
theorem VAt.num {ps : List Pt} {A : Option Addr} {n c : Nat} {W : World} (h : VAt ps (.slice A n c) W) : n = ps.length := by
  obtain ⟨A2, c2, rows, e, hr, _⟩ := h
  injection e with e1 e2 e3
  rw [e2, ← hr]; simp [ptsOf]
section
variable {u W : World} {gs : Nat} {v : Value} {k : KStore} {sb eb ab : Nat} {tm : Int} {X : XE} {xk xn : Int} {A1 A2 A3 : Option Addr} {l1 c1 l2 c2 l3 c3 : Nat}
theorem LvAt.deep (h : LvAt u gs v (fillF k) sb eb X ([.int .i64 xk, .int .i64 xn, .slice A1 l1 c1, .slice A2 l2 c2, .slice A3 l3 c3]) W) (hF : FormX X xk xn A1 A2 A3 l1 c1 l2 c2 l3 c3) : Calls Tryz.prog 21 #[.agg #[.int .i64 xk, .int .i64 xn, .slice A1 l1 c1, .slice A2 l2 c2, .slice A3 l3 c3]] W fun e w' => e = .returned (.int .i64 (X.pe.deep : Nat)) ∧ Below W.heap.size W w' := by
  have := deep_any 5 X W h.ok (by omega); rwa [hF.val] at this
theorem LvAt.right (h : LvAt u gs v (fillF k) sb eb X ([.int .i64 xk, .int .i64 xn, .slice A1 l1 c1, .slice A2 l2 c2, .slice A3 l3 c3]) W) (hF : FormX X xk xn A1 A2 A3 l1 c1 l2 c2 l3 c3) (hK : KeepT 5 2 X.pe) : Calls Tryz.prog 22 #[.agg #[.int .i64 xk, .int .i64 xn, .slice A1 l1 c1, .slice A2 l2 c2, .slice A3 l3 c3]] W fun e w' => e = .returned (.bool true) ∧ Below W.heap.size W w' := by
  have := right_x 5 (by omega) X W hK.small h.ok; rwa [hF.val, keepT_right5 hK] at this
theorem LwAt.at (h : LwAt u gs v (fillF k) sb eb ab tm X ([.int .i64 xk, .int .i64 xn, .slice A1 l1 c1, .slice A2 l2 c2, .slice A3 l3 c3]) W) (hF : FormX X xk xn A1 A2 A3 l1 c1 l2 c2 l3 c3) (hK : KeepT 5 2 X.pe) (ht : TOk tm) {P : List Pt} {er : Int} (hp : evalR (fillF k) tm 5 X.pe = (P, er)) :
    Calls Tryz.prog 10 #[.agg #[.int .i64 xk, .int .i64 xn, .slice A1 l1 c1, .slice A2 l2 c2, .slice A3 l3 c3], .pointer (some ⟨gs, 0, none⟩), .int .i64 tm] W (VAnsE P er W) := by
  have := at_x 5 (by omega) X u W gs v (fillF k) tm hK.small h.lv.ok (fun _ => ⟨h.lv.ok, hK.small, hK.fits, h.lv.sto, vok_fill k, lim_keep k 5 (by omega), ht⟩)
  rwa [hF.val, hp] at this
set_option maxHeartbeats 4000000 in
theorem laws_two (h : LwAt u gs v (fillF k) sb eb ab tm X ([.int .i64 xk, .int .i64 xn, .slice A1 l1 c1, .slice A2 l2 c2, .slice A3 l3 c3]) W) (hF : FormX X xk xn A1 A2 A3 l1 c1 l2 c2 l3 c3) (hK : KeepT 5 2 X.pe) (ht : TOk tm) (kd : Int) (h1 : 3 ≤ kd) (h2 : kd ≤ 16) {P : List Pt} {er : Int}
    (hz : evalR (fillF k) tm 6 (.mk kd 0 [] [] [X.pe, X.pe]) = (P, er)) :
    Calls Tryz.prog 23 #[.int .i64 kd, .pointer (some ⟨eb, 0, none⟩), .pointer (some ⟨sb, 0, none⟩), .pointer (some ⟨ab, 0, none⟩)] W (VAnsE P er W) := by
  have z0 := h.lv.be.cell 0
  have z1 := h.lv.be.cell 1
  have z2 := h.lv.be.cell 2
  have z3 := h.lv.be.cell 3
  have z4 := h.lv.be.cell 4
  simp only [List.getElem?_cons_zero, List.getElem?_cons_succ] at z0 z1 z2 z3 z4
  have hb : Below W.heap.size W (W.alloc (.cells #[.int .i64 xk, .int .i64 xn, .slice A1 l1 c1, .slice A2 l2 c2, .slice A3 l3 c3, .int .i64 xk, .int .i64 xn, .slice A1 l1 c1, .slice A2 l2 c2, .slice A3 l3 c3] 37)) := (Below.refl _ _).alloc (Nat.le_refl _) _
  have hl := h.below hb
  have y0 := hl.lv.bs.cell 0
  have x0 := hl.ba.cell 0
  simp only [List.getElem?_cons_zero, List.getElem?_cons_succ] at y0 x0
  have hq : Blk (W.alloc (.cells #[.int .i64 xk, .int .i64 xn, .slice A1 l1 c1, .slice A2 l2 c2, .slice A3 l3 c3, .int .i64 xk, .int .i64 xn, .slice A1 l1 c1, .slice A2 l2 c2, .slice A3 l3 c3] 37)) W.heap.size 37 (#[.int .i64 xk, .int .i64 xn, .slice A1 l1 c1, .slice A2 l2 c2, .slice A3 l3 c3, .int .i64 xk, .int .i64 xn, .slice A1 l1 c1, .slice A2 l2 c2, .slice A3 l3 c3]).toList := Blk.mk (heap_alloc_new W _)
  have hks : Sees (W.alloc (.cells #[.int .i64 xk, .int .i64 xn, .slice A1 l1 c1, .slice A2 l2 c2, .slice A3 l3 c3, .int .i64 xk, .int .i64 xn, .slice A1 l1 c1, .slice A2 l2 c2, .slice A3 l3 c3] 37)) (W.alloc (.cells #[.int .i64 xk, .int .i64 xn, .slice A1 l1 c1, .slice A2 l2 c2, .slice A3 l3 c3, .int .i64 xk, .int .i64 xn, .slice A1 l1 c1, .slice A2 l2 c2, .slice A3 l3 c3] 37)).heap.size 5 (some ⟨W.heap.size, 0, none⟩) 2 (kcells [X, X]) := by
    rw [hF.two]; exact hq.sees (size := 5) (n := 2) rfl (List.prefix_refl _)
  have hat := at_x 6 (by omega) (dX kd W.heap.size X) u _ gs v (fillF k) tm (parts_keepT h1 h2 hK hK).small (dX_ok hks hl.lv.ok)
    (fun _ => ⟨dX_ok hks hl.lv.ok, (parts_keepT h1 h2 hK hK).small, (parts_keepT h1 h2 hK hK).fits, hl.lv.sto, vok_fill k, lim_keepL k, ht⟩)
  rw [show (dX kd W.heap.size X).pe = .mk kd 0 [] [] [X.pe, X.pe] from rfl, hz] at hat
  have HAT2 : Hid (Calls Tryz.prog 10 #[.agg #[.int .i64 kd, .int .i64 0, .slice none 0 0, .slice none 0 0, .slice (some ⟨W.heap.size, 0, none⟩) 2 2], .pointer (some ⟨gs, 0, none⟩), .int .i64 tm] (W.alloc (.cells #[.int .i64 xk, .int .i64 xn, .slice A1 l1 c1, .slice A2 l2 c2, .slice A3 l3 c3, .int .i64 xk, .int .i64 xn, .slice A1 l1 c1, .slice A2 l2 c2, .slice A3 l3 c3] 37)) (VAnsE P er (W.alloc (.cells #[.int .i64 xk, .int .i64 xn, .slice A1 l1 c1, .slice A2 l2 c2, .slice A3 l3 c3, .int .i64 xk, .int .i64 xn, .slice A1 l1 c1, .slice A2 l2 c2, .slice A3 l3 c3] 37)))) := Lib.hid hat
  have HB := Lib.hid hb
  clear h hF hK hat hks hq hl hz hb
  go_enter Tryz.func23, Tryz.ntmps23
  go_wp2_with fail
  (with_reducible refine HAT2.out.mono ?_); rintro e W2 ⟨sv, rfl, hsv, hb2⟩
  obtain ⟨A9, n9, c9, rfl⟩ := hsv.form
  have HV := Lib.hid hsv
  have HB2 := Lib.hid (HB.out.trans (hb2.mono HB.out.size))
  clear hsv hb2
  go_wp2_with fail
  go_ret2
  exact ⟨_, rfl, HV.out, HB2.out⟩
end
set_option maxHeartbeats 8000000 in
theorem eval_laws (k : KStore) (x : KSet) (t0 : Int) (w : World) (hk : k.ok w.heap.size w) (hx : x.ok w.heap.size w) (wt : I64 t0) :
    Calls Tryz.prog 6 #[k.val, x.val, .int .i64 t0] w fun e w' => e = .returned (.bool true) ∧ Below w.heap.size w w' := by
  have HE0 := Lib.hid (EsAt.start w k x hk hx)
  have HG := Lib.hid (show ∃ g h, w.heap.size = g ∧ w.heap.size + 1 = h from ⟨_, _, rfl, rfl⟩)
  clear hk hx
  unfold KStore.val KSet.val
  go_enter Tryz.func6, Tryz.ntmps6
  go_upto_region 1 with fail
  obtain ⟨kb, xb, hkb, hxb⟩ := HG.out
  obtain ⟨W1, hW1⟩ : ∃ V, (w.alloc (.cells #[.slice k.A k.qs.length k.c, .slice k.A2 k.rs.length k.c2] 51)).alloc (.cells #[.slice x.A x.n x.c, .slice x.A2 x.n2 x.c2] 53) = V := ⟨_, rfl⟩
  have HE1 := Lib.hid (show EsAt w kb xb k x W1 by rw [← hkb, ← hxb, ← hW1]; exact HE0.out)
  rw [hW1, hxb, hkb]
  have HKB := Lib.hid hkb
  clear HE0 HG hkb hxb hW1
  go_wp2_with fail
  (with_reducible refine (snew_any W1).mono ?_); rintro e w1 ⟨rfl, rfl⟩
  have HS1 := Lib.hid (Sto.new (w0 := w) HE1.out.bel)
  obtain ⟨g1, hg1⟩ : ∃ g, W1.heap.size = g := ⟨_, rfl⟩
  obtain ⟨W2, hW2⟩ : ∃ V, W1.alloc (.cells #[.slice none 0 0] 81) = V := ⟨_, rfl⟩
  have hb2 : Below W1.heap.size W1 W2 := by rw [← hW2]; exact (Below.refl _ _).alloc (Nat.le_refl _) _
  rw [hW2] at HS1 ⊢
  have HS2 : Hid (Sto w g1 (.slice none 0 0) [] W2) := Lib.hid (by rw [← hg1]; exact HS1.out)
  rw [hg1]
  have HE2 := Lib.hid (HE1.out.below hb2)
  clear hW2 HS1 hg1 hb2 HE1
  go_upto_region 2 with fail
  obtain ⟨sb, hsb⟩ : ∃ b, W2.heap.size = b := ⟨_, rfl⟩
  obtain ⟨W3, hW3⟩ : ∃ V, W2.alloc (.cells #[.pointer (some ⟨g1, 0, none⟩)] 22) = V := ⟨_, rfl⟩
  have hb3 : Below W2.heap.size W2 W3 := by rw [← hW3]; exact (Below.refl _ _).alloc (Nat.le_refl _) _
  have HSB := Lib.hid (show Blk W3 sb 22 [.pointer (some ⟨g1, 0, none⟩)] by rw [← hW3, ← hsb]; exact Blk.mk (heap_alloc_new W2 _))
  have HS3 := Lib.hid (HS2.out.below hb3)
  have HE3 := Lib.hid (HE2.out.below hb3)
  rw [hW3, hsb]
  clear hb3 HS2 HE2 hsb hW3
  have z0 := HE3.out.kbx.cell 0
  have z1 := HE3.out.kbx.cell 1
  have y0 := HSB.out.cell 0
  simp only [List.getElem?_cons_zero, List.getElem?_cons_succ] at z0 z1 y0
  have hmf : ∀ (fn : Fn) (first cap : Array Value) (w : World), (Instr.makeFunc fn first cap).run Tryz.prog w = .ok (.func fn first cap) w := fun _ _ _ _ => rfl
  have HFI := Lib.hid (fill_any k w g1 (.slice none 0 0) W3 HS3.out HE3.out.ko)
  unfold KStore.val at HFI
  go_wp2_with fail
  (with_reducible refine HFI.out.mono ?_); rintro e W4 ⟨v1, rfl, hS4, hT4, hw4⟩
  have HS4 := Lib.hid hS4
  have HSB4 := Lib.hid (HS3.out.blk hT4 HSB.out (by decide) (by decide))
  have HXB := Lib.hid (HS3.out.blk hT4 HE3.out.xbx (by decide) (by decide))
  have hxo := HE3.out.xo.below (HS3.out.turned hT4)
  have HXO := Lib.hid (show x.ok W4.heap.size W4 from ⟨hxo.has_.more hS4.bel.size, hxo.hasI, hxo.n_, hxo.vals_.more hS4.bel.size, hxo.valsI, hxo.n2_⟩)
  clear hxo
  clear hS4 hT4 hw4 HS3 HE3 HFI z0 z1 y0 HSB
  have z0 := HXB.out.cell 0
  have z1 := HXB.out.cell 1
  simp only [List.getElem?_cons_zero, List.getElem?_cons_succ] at z0 z1
  have HXA := Lib.hid (expr_any x W4 HXO.out)
  unfold KSet.val at HXA
  go_wp2_with fail
  (with_reducible refine HXA.out.mono ?_); rintro e W5 ⟨X, rfl, hkv, hxok, hb5⟩
  have HKT := Lib.hid (keepV_factsT 5 X hkv)
  obtain ⟨B1, b1, B2, b2, B3, b3, hv1, hv2, hv3⟩ := okX_forms hxok
  have HFX := Lib.hid (show FormX X X.kd X.n B1 B2 B3 X.ms.length b1 X.ns.length b2 X.kids.length b3 from ⟨rfl, rfl, hv1, hv2, hv3⟩)
  have HO5 := Lib.hid hxok; have HS5 := Lib.hid (HS4.out.below hb5); have HSB5 := Lib.hid (HSB4.out.below hb5 HSB4.out.lt)
  unfold XE.val
  rw [hv1, hv2, hv3]
  clear hv1 hv2 hv3 hkv hxok hb5 HXA HXO HXB HS4 HSB4 z0 z1
  generalize X.kd = xk at *
  generalize X.n = xn at *
  generalize X.ms.length = l1 at *
  generalize X.ns.length = l2 at *
  generalize X.kids.length = l3 at *
  go_upto_region 5 with fail
  obtain ⟨eb, heb⟩ : ∃ b, W5.heap.size = b := ⟨_, rfl⟩
  obtain ⟨W6, hW6⟩ : ∃ V, W5.alloc (.cells #[.int .i64 xk, .int .i64 xn, .slice B1 l1 b1, .slice B2 l2 b2, .slice B3 l3 b3] 37) = V := ⟨_, rfl⟩
  have HL6 := Lib.hid (show LvAt w g1 v1 (fillF k) sb eb X [.int .i64 xk, .int .i64 xn, .slice B1 l1 b1, .slice B2 l2 b2, .slice B3 l3 b3] W6 by
    have hb6 : Below W5.heap.size W5 W6 := by rw [← hW6]; exact (Below.refl _ _).alloc (Nat.le_refl _) _
    exact ⟨HS5.out.below hb6, HSB5.out.below hb6 HSB5.out.lt, by rw [← hW6, ← heb]; exact Blk.mk (heap_alloc_new W5 _), okX_below hb6 _ _ HO5.out⟩)
  rw [hW6, heb]
  clear hW6 heb HS5 HSB5 HO5
  have hdp := HKT.out.deep
  have HDE := Lib.hid (fun V (hV : LvAt w g1 v1 (fillF k) sb eb X _ V) => hV.deep HFX.out)
  generalize X.pe.deep = dp at *
  obtain ⟨z0, z1, z2, z3, z4⟩ := blk_cells5 HL6.out.be
  have hd8 : ¬ (8 : Int) ≤ (dp : Nat) := by omega
  go_wp2_with fail
  (with_reducible refine (HDE.out _ HL6.out).mono ?_); rintro e W7 ⟨rfl, hb7⟩
  have HL7 := Lib.hid (HL6.out.below hb7)
  clear hb7 HL6 HDE z0 z1 z2 z3 z4
  obtain ⟨z0, z1, z2, z3, z4⟩ := blk_cells5 HL7.out.be
  go_wp2_with fail
  (with_reducible refine (HL7.out.right HFX.out HKT.out).mono ?_); rintro e W8 ⟨rfl, hb8⟩
  have HL8 := Lib.hid (HL7.out.below hb8)
  clear hb8 HL7 z0 z1 z2 z3 z4
  have htb := nWithin_in t0 (lo := 0) (hi := 280) (by omega)
  have HWI := Lib.hid (fun V => within_any t0 0 280 V wt (by omega) (by omega) (by omega))
  generalize nWithin t0 0 280 = tm at *
  have htk : TOk tm := tok_in (by omega) (by omega)
  go_wp2_with fail
  (with_reducible refine (HWI.out _).mono ?_); rintro e w' ⟨rfl, rfl⟩
  clear HWI
  go_upto_region 8 with fail
  obtain ⟨ab, hab⟩ : ∃ b, W8.heap.size = b := ⟨_, rfl⟩
  obtain ⟨W9, hW9⟩ : ∃ V, W8.alloc (.cells #[.int .i64 tm] 3) = V := ⟨_, rfl⟩
  have HA9 := Lib.hid (show LwAt w g1 v1 (fillF k) sb eb ab tm X [.int .i64 xk, .int .i64 xn, .slice B1 l1 b1, .slice B2 l2 b2, .slice B3 l3 b3] W9 by
    have hb9 : Below W8.heap.size W8 W9 := by rw [← hW9]; exact (Below.refl _ _).alloc (Nat.le_refl _) _
    exact ⟨HL8.out.below hb9, by rw [← hW9, ← hab]; exact Blk.mk (heap_alloc_new W8 _)⟩)
  rw [hW9, hab]
  clear hW9 hab HL8
  obtain ⟨P, er, hp⟩ : ∃ P e, evalR (fillF k) tm 5 X.pe = (P, e) := ⟨_, _, rfl⟩
  have HFP := Lib.hid (show Fine P ∧ P.length ≤ 500 by have h := evalR_goodL HA9.out.lv.sto.dok (vok_fill k) tm 5 X.pe HKT.out.fits (lim_keep k 5 (by omega)); rwa [hp] at h)
  have HOP := Lib.hid (show InOrd P ∧ (er ≠ 0 → P = []) by have h := evalR_ord HA9.out.lv.sto.dok tm 5 X.pe; rwa [hp] at h)
  have HTW := Lib.hid (fun c (h1 : 3 ≤ c) (h2 : c ≤ 16) => two_self (D := fillF k) (t := tm) (c := c) h1 h2 HKT.out hp)
  have HAT := Lib.hid (HA9.out.at HFX.out HKT.out htk hp)
  have HCL := Lib.hid (fun V (hV : LwAt w g1 v1 (fillF k) sb eb ab tm X [.int .i64 xk, .int .i64 xn, .slice B1 l1 b1, .slice B2 l2 b2, .slice B3 l3 b3] V) c (h1 : 3 ≤ c) (h2 : c ≤ 16) Z ez hz => laws_two hV HFX.out HKT.out htk c h1 h2 (P := Z) (er := ez) hz)
  obtain ⟨A, ea, ha⟩ : ∃ P e, evalR (fillF k) tm 6 (.mk 14 0 [] [] [X.pe, X.pe]) = (P, e) := ⟨_, _, rfl⟩
  obtain ⟨U, eu, hu⟩ : ∃ P e, evalR (fillF k) tm 6 (.mk 16 0 [] [] [X.pe, X.pe]) = (P, e) := ⟨_, _, rfl⟩
  obtain ⟨E, ee, he⟩ : ∃ P e, evalR (fillF k) tm 6 (.mk 8 0 [] [] [X.pe, X.pe]) = (P, e) := ⟨_, _, rfl⟩
  obtain ⟨L, el, hl⟩ : ∃ P e, evalR (fillF k) tm 6 (.mk 10 0 [] [] [X.pe, X.pe]) = (P, e) := ⟨_, _, rfl⟩
  obtain ⟨S, es, hs⟩ : ∃ P e, evalR (fillF k) tm 6 (.mk 4 0 [] [] [X.pe, X.pe]) = (P, e) := ⟨_, _, rfl⟩
  have HCA := Lib.hid (fun V hV => HCL.out V hV 14 (by omega) (by omega) _ _ ha)
  have HCU := Lib.hid (fun V hV => HCL.out V hV 16 (by omega) (by omega) _ _ hu)
  have HCE := Lib.hid (fun V hV => HCL.out V hV 8 (by omega) (by omega) _ _ he)
  have HCT := Lib.hid (fun V hV => HCL.out V hV 10 (by omega) (by omega) _ _ hl)
  have HCS := Lib.hid (fun V hV => HCL.out V hV 4 (by omega) (by omega) _ _ hs)
  rw [HTW.out 14 (by omega) (by omega)] at ha
  rw [HTW.out 16 (by omega) (by omega)] at hu
  rw [HTW.out 8 (by omega) (by omega)] at he
  rw [HTW.out 10 (by omega) (by omega)] at hl
  rw [HTW.out 4 (by omega) (by omega)] at hs
  have HRA := Lib.hid ha; have HRU := Lib.hid hu; have HRE := Lib.hid he; have HRL := Lib.hid hl; have HRS := Lib.hid hs
  clear ha hu he hl hs hp HTW HCL
  obtain ⟨z0, z1, z2, z3, z4⟩ := blk_cells5 HA9.out.lv.be
  have y0 := HA9.out.lv.bs.cell 0
  have x0 := HA9.out.ba.cell 0
  simp only [List.getElem?_cons_zero, List.getElem?_cons_succ] at y0 x0
  go_wp2_with fail
  (with_reducible refine HAT.out.mono ?_); rintro e Wa ⟨sv, rfl, hsv, hba⟩
  obtain ⟨PA, pn, pc, rfl⟩ := hsv.form
  have HVP := Lib.hid hsv; have HAa := Lib.hid (HA9.out.below hba)
  clear hsv hba HAT HA9 z0 z1 z2 z3 z4 y0 x0
  have hmf : ∀ (fn : Fn) (first cap : Array Value) (w : World), (Instr.makeFunc fn first cap).run Tryz.prog w = .ok (.func fn first cap) w := fun _ _ _ _ => rfl
  go_wp2_with fail
  (with_reducible refine (HCA.out _ HAa.out).mono ?_); rintro e Wb ⟨sv, rfl, hsv, hbn⟩
  obtain ⟨AA, an, ac, rfl⟩ := hsv.form
  have HAb := Lib.hid (HAa.out.below hbn); have HVA0 := Lib.hid hsv
  replace HVP := Lib.hid (HVP.out.below hbn)
  clear hsv hbn HAa HCA
  go_wp2_with fail
  (with_reducible refine (HCU.out _ HAb.out).mono ?_); rintro e Wc ⟨sv, rfl, hsv, hbn⟩
  obtain ⟨UA, un, uc, rfl⟩ := hsv.form
  have HAc := Lib.hid (HAb.out.below hbn); have HVU0 := Lib.hid hsv
  replace HVP := Lib.hid (HVP.out.below hbn)
  replace HVA0 := Lib.hid (HVA0.out.below hbn)
  clear hsv hbn HAb HCU
  go_wp2_with fail
  (with_reducible refine (HCE.out _ HAc.out).mono ?_); rintro e Wd ⟨sv, rfl, hsv, hbn⟩
  obtain ⟨EA, en, ec, rfl⟩ := hsv.form
  have HAd := Lib.hid (HAc.out.below hbn); have HVE0 := Lib.hid hsv
  replace HVP := Lib.hid (HVP.out.below hbn)
  replace HVA0 := Lib.hid (HVA0.out.below hbn)
  replace HVU0 := Lib.hid (HVU0.out.below hbn)
  clear hsv hbn HAc HCE
  go_wp2_with fail
  (with_reducible refine (HCT.out _ HAd.out).mono ?_); rintro e We ⟨sv, rfl, hsv, hbn⟩
  obtain ⟨LA, ln, lc, rfl⟩ := hsv.form
  have HAe := Lib.hid (HAd.out.below hbn); have HVL0 := Lib.hid hsv
  replace HVP := Lib.hid (HVP.out.below hbn)
  replace HVA0 := Lib.hid (HVA0.out.below hbn)
  replace HVU0 := Lib.hid (HVU0.out.below hbn)
  replace HVE0 := Lib.hid (HVE0.out.below hbn)
  clear hsv hbn HAd HCT
  go_wp2_with fail
  (with_reducible refine (HCS.out _ HAe.out).mono ?_); rintro e Wf ⟨sv, rfl, hsv, hbn⟩
  obtain ⟨SA, sn, sc, rfl⟩ := hsv.form
  have HAf := Lib.hid (HAe.out.below hbn); have HVS0 := Lib.hid hsv
  replace HVP := Lib.hid (HVP.out.below hbn)
  replace HVA0 := Lib.hid (HVA0.out.below hbn)
  replace HVU0 := Lib.hid (HVU0.out.below hbn)
  replace HVE0 := Lib.hid (HVE0.out.below hbn)
  replace HVL0 := Lib.hid (HVL0.out.below hbn)
  clear hsv hbn HAe HCS
  have HSV : Hid (∀ V, Below Wf.heap.size Wf V → Below w.heap.size w V) := Lib.hid fun V hV => (HAf.out.below hV).lv.sto.bel
  clear HAf hmf
  by_cases h1 : er = 0
  · subst h1
    rw [if_neg (fun h => h rfl)] at HRA HRU HRE HRL HRS
    have HTC := Lib.hid (twice_v HVP.out (by have := HFP.out.2; omega) HFP.out.1)
    cases ht : twiceF (keysP P) with
    | true =>
      rw [ht] at HTC
      rw [self_twice ht] at HRA HRS
      have e1 := HRA.out; have e2 := HRS.out
      injection e1 with _ e1; injection e2 with _ e2
      subst e1; subst e2
      clear HRA HRU HRE HRL HRS
      go_wp2_with fail
      (with_reducible refine HTC.out.mono ?_); rintro e Wg ⟨rfl, hbg⟩
      have HBG := Lib.hid hbg
      clear hbg HTC
      go_wp2_with fail
      (with_reducible refine (eval_runs _).mono ?_); rintro e WE ⟨rfl, hbE⟩
      have HBE := Lib.hid (HSV.out _ (HBG.out.trans (hbE.mono HBG.out.size)))
      clear hbE
      go_wp2_with fail
      go_ret
      exact ⟨rfl, HBE.out⟩
    | false =>
      rw [ht] at HTC
      obtain ⟨A', U', E', L', S', hsf⟩ := self_of HOP.out.1 ht
      rw [hsf.ra] at HRA; rw [hsf.ru] at HRU; rw [hsf.re] at HRE; rw [hsf.rl] at HRL; rw [hsf.rs] at HRS
      have q1 := HRA.out; have q2 := HRU.out; have q3 := HRE.out; have q4 := HRL.out; have q5 := HRS.out
      injection q1 with q1 r1; injection q2 with q2 r2; injection q3 with q3 r3; injection q4 with q4 r4; injection q5 with q5 r5
      clear HRA HRU HRE HRL HRS
      subst q1; subst q2; subst q3; subst q4; subst q5; subst r1; subst r2; subst r3; subst r4; subst r5
      rw [hsf.a] at HVA0
      rw [hsf.u] at HVU0
      rw [hsf.e] at HVE0
      rw [hsf.l] at HVL0
      have hun := HVU0.out.num
      have hln := HVL0.out.num
      have hsn := HVS0.out.num
      have hpn := HVP.out.num
      rw [hsf.ns, ← hpn] at hsn
      simp only [List.length_nil] at hun hln
      subst hun; subst hln; subst hsn
      have HPN := Lib.hid hpn
      have HS0 := Lib.hid hsf.s0
      clear hpn hsf ht
      go_wp2_with fail
      (with_reducible refine HTC.out.mono ?_); rintro e Wg ⟨rfl, hbg⟩
      have HBG := Lib.hid hbg
      replace HVA0 := Lib.hid (HVA0.out.below hbg); replace HVE0 := Lib.hid (HVE0.out.below hbg); replace HVS0 := Lib.hid (HVS0.out.below hbg); replace HVP := Lib.hid (HVP.out.below hbg)
      clear hbg HTC
      obtain ⟨A2, d2, rows, ev, hrows, hpts, hle, hd2⟩ := HVS0.out
      injection ev with ev1 ev2 ev3
      subst ev1; subst ev3
      have HRZ : Hid (∀ i (hi : i < rows.length), rows[i].val = 0) := Lib.hid fun i hi => HS0.out (rows[i].set, rows[i].val) (by rw [← hrows]; exact List.mem_map.2 ⟨rows[i], List.getElem_mem hi, rfl⟩)
      have HPT := Lib.hid hpts
      have hrl : rows.length ≤ 500 := by have := HFP.out.2; have := HPN.out; omega
      subst ev2
      clear hpts hrows hd2 hle HVS0 HS0 HFP HOP
      go_wp2_with fail
      go_loopg [111] rows.length (fun g x111 wr => ∃ i : Nat, i + g = rows.length ∧ x111 = .int .i64 i ∧ PtsAt 0 (.slice SA rows.length sc) rows wr ∧ Below Wg.heap.size Wg wr)
      case atStart => exact ⟨0, by omega, rfl, HPT.out, Below.refl _ _⟩
      case round =>
        obtain ⟨i, hig, rfl, hpt, hbw⟩ := hrel
        have HP := Lib.hid hpt; have HBW := Lib.hid hbw
        clear hpt hbw HPT
        cases gk with
        | succ gq =>
          have hil : i < rows.length := by omega
          obtain ⟨ad, hAb, q0, q1, q2⟩ := HP.out.get2 (k := i) hil
          obtain ⟨BA, bc, hsv, _⟩ := q2
          rw [HRZ.out i hil] at q1
          rw [hsv] at q0
          generalize rows[i].set.length = bn at *
          clear hsv
          subst hAb
          go_wp2_with fail
          go_roundg gq
          case measure => omega
          case rel => exact ⟨i + 1, by omega, by go_num, HP.out.below ((Below.refl _ _).alloc (Nat.le_refl _) _), HBW.out.trans (((Below.refl _ _).alloc (Nat.le_refl _) _).mono HBW.out.size)⟩
        | zero =>
          obtain rfl : i = rows.length := by omega
          have HVA := Lib.hid (HVA0.out.below HBW.out); have HVE := Lib.hid (HVE0.out.below HBW.out); have HVQ := Lib.hid (HVP.out.below HBW.out)
          clear HVA0 HVE0 HVP HP HRZ
          have HP1 := Lib.hid (points_v HVA.out HVQ.out)
          rw [decide_eq_true rfl] at HP1
          go_wp2_with fail
          (with_reducible refine HP1.out.mono ?_); rintro e W1 ⟨rfl, hb1⟩
          have HP2 := Lib.hid (points_v (HVE.out.below hb1) (HVQ.out.below hb1))
          rw [decide_eq_true rfl] at HP2
          have HB1 := Lib.hid (HBG.out.trans ((HBW.out.trans (hb1.mono HBW.out.size)).mono HBG.out.size))
          clear hb1 HP1 HVA HVE HVQ
          go_wp2_with fail
          (with_reducible refine HP2.out.mono ?_); rintro e W2 ⟨rfl, hb2⟩
          have HB2 := Lib.hid (HB1.out.trans (hb2.mono HB1.out.size))
          clear hb2 HP2 HB1
          go_wp2_with fail
          (with_reducible refine (eval_runs _).mono ?_); rintro e WE ⟨rfl, hbE⟩
          have HBE := Lib.hid (HSV.out _ (HB2.out.trans (hbE.mono HB2.out.size)))
          clear hbE
          go_wp2_with fail
          go_ret
          exact ⟨rfl, HBE.out⟩
  · have hP := HOP.out.2 h1
    rw [if_pos h1] at HRA HRU HRE HRL HRS
    have q1 := HRA.out; have q5 := HRS.out
    injection q1 with _ q1; injection q5 with _ q5
    subst q1; subst q5
    have hpn := HVP.out.num
    rw [hP] at hpn
    simp only [List.length_nil] at hpn
    subst hpn
    clear HRA HRU HRE HRL HRS hP
    go_wp2_with fail
    (with_reducible refine (eval_runs _).mono ?_); rintro e WE ⟨rfl, hbE⟩
    have HBE := Lib.hid (HSV.out _ hbE)
    clear hbE
    go_wp2_with fail
    go_ret
    exact ⟨rfl, HBE.out⟩
end Go.Proofs.YtlmakdclebbbkaaGreat
