/- Texts, merged in one. -/
import Derived.Test.YtlmakdclebbbkaaGreatBase41
import Derived.Test.YtlmakdclebbbkaaGreatBase13
import Derived.Test.YtlmakdclebbbkaaGreatBase20
import Derived.Test.YtlmakdclebbbkaaGreatBase4
namespace Go.Proofs.YtlmakdclebbbkaaGreat
open Go.ChangeShapes Go.WideShapes Go.ChangeAt Go.RowKit
set_option linter.unusedVariables false
set_option linter.unusedSimpArgs false
set_option maxRecDepth 100000
theorem Tryz.infoVal : (Tryz.prog.info? 95).map (fun i => (i.zero, i.size, i.bytes)) = some (some (.agg #[.bool false, .int .i64 0, .slice none 0 0]), 3, 40) := by kernel_rfl
def vcells (R : List (EV × Value)) : List Value := R.flatMap fun r => [.bool r.1.num, .int .i64 r.1.n, r.2]
theorem vcells_snoc (R : List (EV × Value)) (r : EV × Value) : vcells (R ++ [r]) = vcells R ++ [.bool r.1.num, .int .i64 r.1.n, r.2] := by simp [vcells]
structure VRow (B : Nat) (v : Value) (R : List (EV × Value)) (W : World) : Prop where
  own : W.ownsRow B 95 3 v R.length (vcells R)
  each : ∀ r ∈ R, VAt r.1.ps r.2 W
theorem VRow.below {B : Nat} {v : Value} {R : List (EV × Value)} {W W' : World} (h : VRow B v R W) (hb : Below W.heap.size W W') : VRow B v R W' := ⟨own_below h.own hb (Nat.le_refl _), fun r hr => (h.each r hr).below hb⟩
theorem VAt.grown {ps : List Pt} {v : Value} {W W' : World} {base : Nat} {e : TypeId} {s n : Nat} {u : Value} {xs : List Value} (h : VAt ps v W) (hx : W.ownsRow base e s u n xs) (h1 : 25 ≠ e) (h2 : 43 ≠ e) (hg : W.grownBy W' u.ownBlock) : VAt ps v W' := by
  obtain ⟨A, c, rows, rfl, hp, hr, h3⟩ := h
  exact ⟨A, c, rows, rfl, hp, ⟨own_grown hr.own hg (own_ne hr.own hx h2), fun x hx2 => ownL_grown hx h1 hg _ _ (hr.each x hx2)⟩, h3⟩
theorem VAt.form {ps : List Pt} {v : Value} {W : World} (h : VAt ps v W) : ∃ A n c, v = .slice A n c := by
  obtain ⟨A, c, rows, rfl, _⟩ := h; exact ⟨A, _, c, rfl⟩
theorem VRow.ones {B : Nat} {v : Value} {R : List (EV × Value)} {W : World} (h : VRow B v R W) : ∀ u ∈ vcells R, u.oneCell' = true := fun u hu => by
  obtain ⟨r, hr, hu⟩ := List.mem_flatMap.1 hu
  obtain ⟨A, n, c, e⟩ := (h.each r hr).form
  rw [e] at hu
  simp at hu
  rcases hu with rfl | rfl | rfl <;> rfl
theorem VRow.at {B c n : Nat} {A : Option Addr} {R : List (EV × Value)} {W : World} (h : VRow B (.slice A n c) R W) (hn : R.length = n) (h0 : 0 < n) : ∃ ad, A = some ad ∧ ∀ j u, (vcells R)[j]? = some u → W.cell? (ad.add j) = some u := by
  have ho := h.own
  rw [hn] at ho
  obtain ⟨ad, e, _, hc⟩ := (Sees.of_own ho).at_ h0
  exact ⟨ad, e, hc⟩
theorem val_cells0 {V : World} {ad : Addr} {u0 u1 u2 : Value} {r : List Value} (h : ∀ j u, (u0 :: u1 :: u2 :: r)[j]? = some u → V.cell? (ad.add j) = some u) :
    V.cell? ad = some u0 ∧ V.cell? ⟨ad.block, ad.off + 1, none⟩ = some u1 ∧ V.cell? ⟨ad.block, ad.off + 2, none⟩ = some u2 := by
  have h0 := h 0 _ rfl
  rw [add_zero'] at h0
  have hs : ∀ j, 0 < j → (⟨ad.block, ad.off + j, none⟩ : Addr) = ad.add j := fun j hj => by
    have := add_spelt ad 0 j hj
    rwa [add_zero', Nat.zero_add] at this
  exact ⟨h0, by rw [hs 1 (by omega)]; exact h 1 _ rfl, by rw [hs 2 (by omega)]; exact h 2 _ rfl⟩
theorem val_cells3 {V : World} {ad : Addr} {a0 a1 a2 u0 u1 u2 : Value} (h : ∀ j u, [a0, a1, a2, u0, u1, u2][j]? = some u → V.cell? (ad.add j) = some u) :
    V.cell? ⟨ad.block, ad.off + 3, none⟩ = some u0 ∧ V.cell? ⟨ad.block, ad.off + 3 + 1, none⟩ = some u1 ∧ V.cell? ⟨ad.block, ad.off + 3 + 2, none⟩ = some u2 := by
  have hs : ∀ j, 0 < j → (⟨ad.block, ad.off + j, none⟩ : Addr) = ad.add j := fun j hj => by
    have := add_spelt ad 0 j hj
    rwa [add_zero', Nat.zero_add] at this
  exact ⟨by rw [hs 3 (by omega)]; exact h 3 _ rfl, by rw [Nat.add_assoc, hs _ (by omega)]; exact h 4 _ rfl, by rw [Nat.add_assoc, hs _ (by omega)]; exact h 5 _ rfl⟩
def ComAns (r : EV × Int) (w : World) (e : Ending) (w' : World) : Prop := ∃ sv, e = .returned (.tuple #[.agg #[.bool r.1.num, .int .i64 r.1.n, sv], .int .i64 r.2]) ∧ VAt r.1.ps sv w' ∧ Below w.heap.size w w'
def TOk (t : Int) : Prop := -4611686018427387904 ≤ t ∧ t ≤ 4611686018427387903
structure EvOk (d : Nat) (x : XE) (w0 : World) (g : Nat) (v : Value) (D : List SK) (t : Int) (w : World) : Prop where
  ok : okX d x w
  small : x.pe.small
  fits : x.pe.fits
  sto : Sto w0 g v D w
  vok : VOk D
  lim : lim D d ≤ 500
  tok : TOk t
def ComSaid (d : Nat) : Prop := ∀ (x : XE) (w0 w : World) (g : Nat) (v : Value) (D : List SK) (t : Int), EvOk d x w0 g v D t w → x.pe.ty ≠ 0 → Calls Tryz.prog 34 #[x.val, .pointer (some ⟨g, 0, none⟩), .int .i64 t] w (ComAns (comF D t d x.pe) w)
def VctSaid (d : Nat) : Prop := ∀ (x : XE) (w0 w : World) (g : Nat) (v : Value) (D : List SK) (t : Int), EvOk d x w0 g v D t w → x.pe.ty = 2 → Calls Tryz.prog 69 #[x.val, .pointer (some ⟨g, 0, none⟩), .int .i64 t] w (VAnsE (comF D t d x.pe).1.ps (comF D t d x.pe).2 w)
theorem EvOk.below {d : Nat} {x : XE} {w0 w w' : World} {g : Nat} {v : Value} {D : List SK} {t : Int} (h : EvOk d x w0 g v D t w) (hb : Below w.heap.size w w') : EvOk d x w0 g v D t w' := ⟨okX_below hb d x h.ok, h.small, h.fits, h.sto.below hb, h.vok, h.lim, h.tok⟩
theorem EvOk.kid {d : Nat} {x q : XE} {w0 w : World} {g : Nat} {v : Value} {D : List SK} {t : Int} (h : EvOk (d + 1) x w0 g v D t w) (hq : q ∈ x.kids) : EvOk d q w0 g v D t w := by
  obtain ⟨kk, nn, mv, ms, nv, ns, kv, ks⟩ := x
  have hs := h.small; have hf := h.fits; have hl := h.lim
  rw [XE.pe] at hs hf
  unfold PE.small at hs; unfold PE.fits at hf
  have hfit : ∀ (l : List XE), fitsP (pesX l) → ∀ y ∈ l, y.pe.fits := by
    intro l
    induction l with
    | nil => intro _ y hy; cases hy
    | cons a l ih =>
      intro h y hy
      simp only [pesX, fitsP] at h
      rcases List.mem_cons.1 hy with rfl | hy
      · exact h.1
      · exact ih h.2 y hy
  refine ⟨h.ok.2.2.2 q hq, smallP_mem ks hs.2.2.2 q hq, hfit ks hf.2 q hq, h.sto, h.vok, ?_, h.tok⟩
  have := lim_two D d; omega
structure VcAt (w : World) (bx d : Nat) (x : XE) (w0 : World) (g : Nat) (v : Value) (D : List SK) (t : Int) (W : World) : Prop where
  box : Blk W bx 37 [.int .i64 x.kd, .int .i64 x.n, x.mv, x.nv, x.kv]
  ev : EvOk d x w0 g v D t W
  bel : Below w.heap.size w W
theorem VcAt.below {w : World} {bx d : Nat} {x : XE} {w0 : World} {g : Nat} {v : Value} {D : List SK} {t : Int} {W W' : World} (h : VcAt w bx d x w0 g v D t W) (hb : Below W.heap.size W W') : VcAt w bx d x w0 g v D t W' := ⟨h.box.below hb h.box.lt, h.ev.below hb, h.bel.trans (hb.mono h.bel.size)⟩
theorem hbq_of {w W W' : World} (h : Below w.heap.size w W) (hb : Below W.heap.size W W') : Below w.heap.size w W' := h.trans (hb.mono h.size)
theorem VcAt.grown {w : World} {bx d : Nat} {x : XE} {w0 : World} {g : Nat} {v : Value} {D : List SK} {t : Int} {W W' : World} {u : Value} {n : Nat} {xs : List Value} (h : VcAt w bx d x w0 g v D t W) (ho : W.ownsRow w.heap.size 95 3 u n xs) (hg : W.grownBy W' u.ownBlock) : True := trivial
theorem rise_kinds {k : Int} (h1 : 17 ≤ k) (h2 : k ≤ 20) : k = 17 ∨ k = 18 ∨ k = 19 ∨ k = 20 := by omega
set_option maxHeartbeats 8000000 in
theorem vector_pick (d : Nat) (x : XE) (w0 w : World) (g : Nat) (v : Value) (D : List SK) (t : Int) (h : EvOk (d + 1) x w0 g v D t w) (n : Int) (ms' : List Mtc) (hx : x.pe = .mk 2 n ms' [] []) (hn1 : 1 ≤ n) (hn2 : n ≤ 1048576) :
    Calls Tryz.prog 69 #[x.val, .pointer (some ⟨g, 0, none⟩), .int .i64 t] w (VAnsE (comF D t (d + 1) x.pe).1.ps (comF D t (d + 1) x.pe).2 w) := by
  have HE : Hid (comF D t (d + 1) x.pe = (⟨false, 0, pickS D t n ms'⟩, 0)) := Lib.hid (by rw [hx]; exact comF_pick)
  rw [HE.out]
  obtain ⟨mv, nv, kv, rfl⟩ := pe_none hx
  obtain ⟨A1, c1, A2, c2, A3, c3, e1, e2, e3⟩ := okX_forms h.ok
  simp only [XE.mv, XE.nv, XE.kv, XE.ms, XE.ns, XE.kids] at e1 e2 e3
  subst e1; subst e2; subst e3
  obtain ⟨s1, m1, m1'⟩ := Slc.slice h.ok.1
  replace m1 : ms'.length ≤ c1 := m1
  replace s1 : Sees w w.heap.size 3 A1 ms'.length (mtcs ms') := s1
  have hb := (Below.refl w.heap.size w).alloc (Nat.le_refl _) (.cells #[.int .i64 2, .int .i64 n, .slice A1 ms'.length c1, .slice A2 0 c2, .slice A3 0 c3] 37)
  have HB := Lib.hid hb
  have HX := Lib.hid (Blk.mk (heap_alloc_new w (.cells #[.int .i64 2, .int .i64 n, .slice A1 ms'.length c1, .slice A2 0 c2, .slice A3 0 c3] 37)) : Blk _ w.heap.size 37 [.int .i64 2, .int .i64 n, .slice A1 ms'.length c1, .slice A2 0 c2, .slice A3 0 c3])
  have HC := Lib.hid ((h.sto.below hb).pick t n A1 ms'.length c1 ms' ((s1.below hb).more hb.size) (by omega) h.tok (by omega))
  have HN := Lib.hid (And.intro hn1 hn2)
  clear h s1 hb hx hn1 hn2 m1'
  show Calls _ _ #[.agg #[.int .i64 2, .int .i64 n, .slice A1 ms'.length c1, .slice A2 0 c2, .slice A3 0 c3], .pointer (some ⟨g, 0, none⟩), .int .i64 t] _ _
  generalize ms'.length = ml at *
  go_enter Tryz.func69, Tryz.ntmps69
  go_upto_region 1 with fail
  obtain ⟨z0, z1, z2, z3, z4⟩ := blk_cells5 HX.out
  go_wp2_with fail
  (with_reducible refine HC.out.mono ?_); rintro e w2 ha
  obtain ⟨sv, rfl, hv, hb2⟩ := vat_of ha
  have HV := Lib.hid hv; have HB2 := Lib.hid (HB.out.trans (hb2.mono HB.out.size))
  clear ha hv hb2 HC HB HX z0 z1 z2 z3 z4
  go_wp2_with fail
  go_ret2
  exact ⟨_, rfl, HV.out, HB2.out⟩
def kidsE (D : List SK) (t : Int) (d : Nat) (ks : List XE) (R : List (EV × Value)) : Prop := R.map Prod.fst = ks.map fun q => (comF D t d q.pe).1
set_option maxHeartbeats 8000000 in
theorem vector_kids (d : Nat) (IH : ComSaid d) (x : XE) (w0 w : World) (g : Nat) (v : Value) (D : List SK) (t : Int) (h : EvOk (d + 1) x w0 g v D t w) (hk1 : 3 ≤ x.kd) (hk2 : x.kd ≤ 20) (hkl : x.kids.length ≤ 2) (hty : ∀ q ∈ x.kids, q.pe.ty ≠ 0)
    (RES : EV × Int)
    (hbad : ∀ j (hj : j < x.kids.length), (∀ i (hi : i < x.kids.length), i < j → (comF D t d x.kids[i].pe).2 = 0) → (comF D t d x.kids[j].pe).2 ≠ 0 → RES = (EV.zero, (comF D t d x.kids[j].pe).2))
    (hlen : (17 ≤ x.kd ∧ x.kids.length = 1) ∨ (x.kd ≤ 16 ∧ x.kids.length = 2))
    (hone : ∀ a, x.kids = [a] → (comF D t d a.pe).2 = 0 → RES = (⟨false, 0, (groupR x.kd x.ns (comF D t d a.pe).1.ps).1⟩, (groupR x.kd x.ns (comF D t d a.pe).1.ps).2))
    (htwo : ∀ a b, x.kids = [a, b] → (comF D t d a.pe).2 = 0 → (comF D t d b.pe).2 = 0 → RES = (⟨false, 0, (twoE x.kd (comF D t d a.pe).1 (comF D t d b.pe).1).1⟩, (twoE x.kd (comF D t d a.pe).1 (comF D t d b.pe).1).2)) :
    Calls Tryz.prog 69 #[x.val, .pointer (some ⟨g, 0, none⟩), .int .i64 t] w (VAnsE RES.1.ps RES.2 w) := by
  obtain ⟨i0, hi, hz0, hz1, hz2⟩ := info_parts Tryz.infoVal
  have HI := Lib.hid hi; have HZ0 := Lib.hid hz0; have HZ1 := Lib.hid hz1; have HZ2 := Lib.hid hz2
  clear hi hz0 hz1 hz2
  have HGD := Lib.hid (fun q (hq : q ∈ x.kids) => comF_good h.sto.dok h.vok t d q.pe (h.kid hq).fits (by have := (h.kid hq).lim; omega))
  have HLM := Lib.hid (show lim D d + lim D d ≤ 500 by have := h.lim; have := lim_two D d; omega)
  have HEK := Lib.hid (fun q (hq : q ∈ x.kids) (V : World) (hV : EvOk (d + 1) x w0 g v D t V) => IH q w0 V g v D t (hV.kid hq) (hty q hq))
  have HEV := Lib.hid h
  obtain ⟨A1, c1, A2, c2, A3, c3, e1, e2, e3⟩ := okX_forms h.ok
  obtain ⟨kk, nn, mv, ms, nv, ns, kv, ks⟩ := x
  simp only [XE.mv, XE.nv, XE.kv, XE.ms, XE.ns, XE.kids, XE.kd] at e1 e2 e3 hk1 hk2 hkl hty hbad hlen hone htwo HGD HEK
  subst e1; subst e2; subst e3
  have hsz := h.small
  rw [XE.pe] at hsz
  unfold PE.small at hsz
  have hnl : ns.length ≤ 1000002 := hsz.2.1
  have hb := (Below.refl w.heap.size w).alloc (Nat.le_refl _) (.cells #[.int .i64 kk, .int .i64 nn, .slice A1 ms.length c1, .slice A2 ns.length c2, .slice A3 ks.length c3] 37)
  have HA0 : Hid (VcAt w w.heap.size (d + 1) (.mk kk nn (.slice A1 ms.length c1) ms (.slice A2 ns.length c2) ns (.slice A3 ks.length c3) ks) w0 g v D t (w.alloc (.cells #[.int .i64 kk, .int .i64 nn, .slice A1 ms.length c1, .slice A2 ns.length c2, .slice A3 ks.length c3] 37))) := Lib.hid ⟨Blk.mk (heap_alloc_new w (.cells #[.int .i64 kk, .int .i64 nn, .slice A1 ms.length c1, .slice A2 ns.length c2, .slice A3 ks.length c3] 37)), h.below hb, hb⟩
  have HBAD := Lib.hid hbad; have HONE := Lib.hid hone; have HTWO := Lib.hid htwo; have HLEN := Lib.hid hlen
  have HNS := Lib.hid (fun (V : World) (hV : okX (d + 1) (.mk kk nn (.slice A1 ms.length c1) ms (.slice A2 ns.length c2) ns (.slice A3 ks.length c3) ks) V) => show Sees V V.heap.size 1 A2 ns.length (strs ns) from (Slc.slice hV.2.1).1)
  have HKS := Lib.hid (fun (V : World) (hV : okX (d + 1) (.mk kk nn (.slice A1 ms.length c1) ms (.slice A2 ns.length c2) ns (.slice A3 ks.length c3) ks) V) => show Sees V V.heap.size 5 A3 ks.length (kcells ks) from (Slc.slice hV.2.2.1).1)
  have HKQ := Lib.hid (fun (V : World) (hV : okX (d + 1) (.mk kk nn (.slice A1 ms.length c1) ms (.slice A2 ns.length c2) ns (.slice A3 ks.length c3) ks) V) q (hq : q ∈ ks) => show okX d q V from hV.2.2.2 q hq)
  have tk2 : (kk == 2) = false := by rw [beq_eq_false_iff_ne]; omega
  clear h hb hbad hone htwo hlen hty IH hsz HEV
  show Calls _ _ #[.agg #[.int .i64 kk, .int .i64 nn, .slice A1 ms.length c1, .slice A2 ns.length c2, .slice A3 ks.length c3], .pointer (some ⟨g, 0, none⟩), .int .i64 t] _ _
  have HG := Lib.hid (show ∃ g, w.heap.size = g from ⟨_, rfl⟩)
  go_enter Tryz.func69, Tryz.ntmps69
  go_upto_region 1 with fail
  obtain ⟨bx, hbx⟩ := HG.out
  have HBX := Lib.hid hbx
  rw [hbx]
  have HA := Lib.hid (show VcAt w bx (d + 1) (.mk kk nn (.slice A1 ms.length c1) ms (.slice A2 ns.length c2) ns (.slice A3 ks.length c3) ks) w0 g v D t (w.alloc (.cells #[.int .i64 kk, .int .i64 nn, .slice A1 ms.length c1, .slice A2 ns.length c2, .slice A3 ks.length c3] 37)) by rw [← hbx]; exact HA0.out)
  clear HG HA0 hbx
  generalize w.alloc (.cells #[.int .i64 kk, .int .i64 nn, .slice A1 ms.length c1, .slice A2 ns.length c2, .slice A3 ks.length c3] 37) = W1 at *
  obtain ⟨z0, z1, z2, z3, z4⟩ := blk_cells5 HA.out.box
  simp only [XE.kd, XE.n, XE.mv, XE.nv, XE.kv] at z0 z1 z2 z3 z4
  go_wp2_with (at_make; refine wpList_make_own _ rfl _ _ 174 rfl W1.heap.size 95 i0 (.agg #[.bool false, .int .i64 0, .slice none 0 0]) 3 Tryz.underlying174 HI.out HZ0.out HZ1.out _ _ _ ks.length rfl rfl rfl (by rw [HZ2.out]; omega) (by unfold maxLen; omega) (by simp) ?_)
  intro w2 hown2 hgr2
  have HR0 := Lib.hid (show VRow W1.heap.size (.slice (some ⟨W1.heap.size, 0, none⟩) 0 ks.length) [] w2 from ⟨hown2, fun r hr => absurd hr List.not_mem_nil⟩)
  have hb02 := (Below.refl W1.heap.size W1).grown hgr2 (by simp) (by simp)
  have HB0 := Lib.hid hb02
  have HA2 := Lib.hid (HA.out.below hb02)
  have hs12 := hgr2.size
  clear hown2 hgr2 hb02 z0 z1 z2 z3 z4
  obtain ⟨z0, z1, z2, z3, z4⟩ := blk_cells5 HA2.out.box
  simp only [XE.kd, XE.n, XE.mv, XE.nv, XE.kv] at z0 z1 z2 z3 z4
  go_wp2_with fail
  clear z0 z1 z2 z3 z4
  have HS12 := Lib.hid hs12
  clear hs12
  go_loopg [8, 30] ks.length (fun gg x8 x30 wr => ∃ (j : Nat) (X : Option Addr) (cx : Nat) (R : List (EV × Value)), j + gg = ks.length ∧ x30 = .int .i64 j ∧ x8 = .slice X j cx ∧ VRow W1.heap.size (.slice X j cx) R wr ∧ R.length = j ∧ kidsE D t d (ks.take j) R ∧ (∀ i (hi : i < ks.length), i < j → (comF D t d ks[i].pe).2 = 0) ∧ Below W1.heap.size W1 wr)
  case atStart => exact ⟨0, _, ks.length, [], by omega, rfl, rfl, HR0.out, rfl, rfl, fun i hi h => absurd h (Nat.not_lt_zero _), HB0.out⟩
  case round =>
    obtain ⟨j, X, cx, R, hjg, rfl, rfl, hrow, hrl, hke, hok, hbel⟩ := hrel
    have HJG := Lib.hid hjg; have HRW := Lib.hid hrow; have HRL := Lib.hid hrl; have HKE := Lib.hid hke; have HOK := Lib.hid hok; have HBE := Lib.hid hbel
    have hws := hbel.size
    clear hrow hrl hke hok hbel HR0 HB0 HA2
    cases gk with
    | succ gq => --done
      have hjl : j < ks.length := by omega
      have hev := (HA.out.below HBE.out).ev
      obtain ⟨ad, hkl, hA3, e0, e1, e2, e3, e4⟩ := (HKS.out wr hev.ok).kid hjl
      subst hA3
      have hq := HKQ.out wr hev.ok ks[j] (List.getElem_mem _)
      have HIQ := Lib.hid (fun V (hV : EvOk (d + 1) (.mk kk nn (.slice A1 ms.length c1) ms (.slice A2 ns.length c2) ns (.slice (some ad) ks.length c3) ks) w0 g v D t V) => HEK.out ks[j] (List.getElem_mem _) V hV)
      have HBJ := Lib.hid (fun hne => HBAD.out j hjl (fun i hi hij => HOK.out i hi hij) hne)
      have HTK := Lib.hid (show ks.take (j + 1) = ks.take j ++ [ks[j]] from List.take_succ_eq_append_getElem hjl)
      have HOK2 := Lib.hid (fun (he : (comF D t d ks[j].pe).2 = 0) i (hi : i < ks.length) (hij : i < j + 1) => show (comF D t d ks[i].pe).2 = 0 from by
        rcases Nat.lt_or_eq_of_le (Nat.le_of_lt_succ hij) with h | h
        · exact HOK.out i hi h
        · subst h; exact he)
      generalize ks[j] = q at *
      obtain ⟨B1, b1, B2, b2, B3, b3, hv1, hv2, hv3⟩ := okX_forms hq
      rw [hv1] at e2; rw [hv2] at e3; rw [hv3] at e4
      have hval : q.val = .agg #[.int .i64 q.kd, .int .i64 q.n, .slice B1 q.ms.length b1, .slice B2 q.ns.length b2, .slice B3 q.kids.length b3] := by unfold XE.val; rw [hv1, hv2, hv3]
      rw [hval] at HIQ
      obtain ⟨⟨u, ue⟩, hu⟩ : ∃ r, comF D t d q.pe = r := ⟨_, rfl⟩
      have HU := Lib.hid (congrArg Prod.fst hu)
      rw [hu] at HIQ HBJ HOK2
      have hb1 := (Below.refl wr.heap.size wr).alloc (Nat.le_refl _) (.cells #[.int .i64 q.kd, .int .i64 q.n, .slice B1 q.ms.length b1, .slice B2 q.ns.length b2, .slice B3 q.kids.length b3] 37)
      have HBQ := Lib.hid (hbq_of HBE.out hb1)
      have HRQ := Lib.hid (HRW.out.below hb1)
      have HXQ := Lib.hid (Blk.mk (heap_alloc_new wr (.cells #[.int .i64 q.kd, .int .i64 q.n, .slice B1 q.ms.length b1, .slice B2 q.ns.length b2, .slice B3 q.kids.length b3] 37)) : Blk _ wr.heap.size 37 [.int .i64 q.kd, .int .i64 q.n, .slice B1 q.ms.length b1, .slice B2 q.ns.length b2, .slice B3 q.kids.length b3])
      clear hev hq hv1 hv2 hv3 hval hu hb1 HRW HBE
      generalize q.ms.length = l1 at *
      generalize q.ns.length = l2 at *
      generalize q.kids.length = l3 at *
      generalize q.kd = qk at *
      generalize q.n = qn at *
      go_upto_region 7 with fail
      clear e0 e1 e2 e3 e4
      obtain ⟨bq, hbq⟩ : ∃ b, wr.heap.size = b := ⟨_, rfl⟩
      rw [hbq] at HXQ
      rw [hbq]
      clear hbq
      generalize wr.alloc (.cells #[.int .i64 qk, .int .i64 qn, .slice B1 l1 b1, .slice B2 l2 b2, .slice B3 l3 b3] 37) = W3 at *
      obtain ⟨z0, z1, z2, z3, z4⟩ := blk_cells5 HXQ.out
      have HCC := Lib.hid (HIQ.out W3 (HA.out.below HBQ.out).ev)
      go_wp2_with fail
      (with_reducible refine HCC.out.mono ?_); rintro e w4 ⟨sv, rfl, hsv, hb4⟩
      have HB4 := Lib.hid (HBQ.out.trans (hb4.mono HBQ.out.size)); have HR4 := Lib.hid (HRQ.out.below hb4)
      have HV4 := Lib.hid hsv
      obtain ⟨SA, sn, sc, rfl⟩ := hsv.form
      clear hsv hb4 HCC HIQ HBQ HRQ HXQ z0 z1 z2 z3 z4
      obtain ⟨un, un2, ups⟩ := u
      simp only at HV4
      have HX4 := Lib.hid (Blk.mk (heap_alloc_new w4 (.cells #[.bool un, .int .i64 un2, .slice SA sn sc] 95)) : Blk _ w4.heap.size 95 [.bool un, .int .i64 un2, .slice SA sn sc])
      have hb5 := (Below.refl w4.heap.size w4).alloc (Nat.le_refl _) (.cells #[.bool un, .int .i64 un2, .slice SA sn sc] 95)
      have HB5 := Lib.hid (HB4.out.trans (hb5.mono HB4.out.size)); have HR5 := Lib.hid (HR4.out.below hb5); have HV5 := Lib.hid (HV4.out.below hb5)
      clear hb5 HB4 HR4 HV4
      go_upto_region 8 with fail
      obtain ⟨b5, hbq⟩ : ∃ b, w4.heap.size = b := ⟨_, rfl⟩
      rw [hbq] at HX4
      rw [hbq]
      clear hbq
      generalize w4.alloc (.cells #[.bool un, .int .i64 un2, .slice SA sn sc] 95) = W5 at *
      by_cases hue : ue = 0
      case neg =>
        have t1 : (ue != 0) = true := by rw [bne_iff_ne]; exact hue
        have HRS := Lib.hid (HBJ.out hue)
        clear hue HBJ HOK2
        go_wp2_with fail
        go_ret2
        exact ⟨.slice none 0 0, by rw [HRS.out] <;> rfl, by rw [HRS.out]; exact VAt.nil _, (HA.out.below HB5.out).bel⟩
      case pos =>
      subst hue
      have HOK3 := Lib.hid (HOK2.out rfl)
      clear HBJ HOK2
      obtain ⟨x0, x1, x2⟩ : W5.cell? ⟨b5, 0, none⟩ = some (.bool un) ∧ W5.cell? ⟨b5, 1, none⟩ = some (.int .i64 un2) ∧ W5.cell? ⟨b5, 2, none⟩ = some (.slice SA sn sc) := ⟨HX4.out.cell 0, HX4.out.cell 1, HX4.out.cell 2⟩
      go_upto_region 10 with fail
      have hb6 := (Below.refl W5.heap.size W5).alloc (Nat.le_refl _) (.cells #[.bool un, .int .i64 un2, .slice SA sn sc] 95)
      have HR6 := Lib.hid (HR5.out.below hb6); have HB6 := Lib.hid (HB5.out.trans (hb6.mono HB5.out.size)); have HV6 := Lib.hid (HV5.out.below hb6)
      have HX6 := Lib.hid ((Blk.mk (heap_alloc_new W5 (.cells #[.bool un, .int .i64 un2, .slice SA sn sc] 95)) : Blk _ W5.heap.size 95 [.bool un, .int .i64 un2, .slice SA sn sc]).sees (size := 3) (n := 1) rfl (List.prefix_refl _))
      have hbo : ∀ g, (Value.slice X j cx).ownBlock = some g → W1.heap.size ≤ g := fun g hg => (HR6.out.own.lt g hg).1
      clear hb6 HR5 HB5 HV5 HX4
      go_wp2_with (at_builtin; refine wpList_append_at rfl (.tmp 44) (.tmp 46) 174 rfl W1.heap.size 95 i0 (.agg #[.bool false, .int .i64 0, .slice none 0 0]) 3 40 Tryz.underlying174 HI.out HZ0.out HZ1.out HZ2.out rfl (by decide) (.slice X j cx) j (vcells R) rfl (by have h := HR6.out.own; rwa [HRL.out] at h) _ (some ⟨W5.heap.size, 0, none⟩) 1 _ [.bool un, .int .i64 un2, .slice SA sn sc] rfl HX6.out (by intro y hy; simp at hy; rcases hy with rfl | rfl | rfl <;> rfl) (by unfold maxLen; omega) (by omega) HB6.out.size ?_)
      intro v' w7 hown hgr hwh
      have HB7 := Lib.hid (HB6.out.grown hgr HB6.out.size hbo)
      have HR7 := Lib.hid (show VRow W1.heap.size v' (R ++ [(⟨un, un2, ups⟩, .slice SA sn sc)]) w7 from ⟨by rw [List.length_append, HRL.out, vcells_snoc]; exact hown, fun r hr => by
        rcases List.mem_append.1 hr with hr | hr
        · exact (HR6.out.each r hr).grown HR6.out.own (by decide) (by decide) hgr
        · rw [List.mem_singleton] at hr; subst hr; exact HV6.out.grown HR6.out.own (by decide) (by decide) hgr⟩)
      obtain ⟨A5, c5, rfl, hu1, hu2⟩ := own_slice hown
      have HKE2 := Lib.hid (show kidsE D t d (ks.take (j + 1)) (R ++ [(⟨un, un2, ups⟩, .slice SA sn sc)]) from by
        unfold kidsE; rw [List.map_append, HTK.out, List.map_append, show R.map Prod.fst = _ from HKE.out, List.map_singleton, List.map_singleton, HU.out])
      have HRL2 := Lib.hid (show (R ++ [((⟨un, un2, ups⟩ : EV), (Value.slice SA sn sc))]).length = j + 1 by rw [List.length_append, HRL.out]; rfl)
      clear hown hgr hwh hu1 hu2 HR6 HB6 HV6 HX6 x0 x1 x2 hbo
      go_wp2_with fail
      go_roundg gq
      case measure => omega
      case rel => exact ⟨j + 1, A5, c5, _, by have := HJG.out; omega, by first | rfl | go_num, rfl, HR7.out, HRL2.out, HKE2.out, HOK3.out, HB7.out⟩
    | zero =>
      have hjm : j = ks.length := by omega
      subst hjm
      have HKF : Hid (R.map Prod.fst = ks.map fun q => (comF D t d q.pe).1) := Lib.hid (by have h := HKE.out; rwa [List.take_of_length_le (Nat.le_refl _)] at h)
      have HA9 := Lib.hid (HA.out.below HBE.out)
      obtain ⟨z0, z1, z2, z3, z4⟩ := blk_cells5 HA9.out.box
      simp only [XE.kd, XE.n, XE.mv, XE.nv, XE.kv] at z0 z1 z2 z3 z4
      clear HKE HA HBE
      rcases HLEN.out with ⟨hk17, hl1⟩ | ⟨hk16, hl2⟩
      · obtain ⟨a, rfl⟩ := List.length_eq_one_iff.1 hl1
        obtain ⟨r0, rfl⟩ := List.length_eq_one_iff.1 HRL.out
        obtain ⟨⟨u, ue⟩, hu⟩ : ∃ r, comF D t d a.pe = r := ⟨_, rfl⟩
        have h0 := HOK.out 0 (by simp) (by simp)
        have hr0 := HKF.out
        simp only [List.map_cons, List.map_nil, List.getElem_cons_zero, hu] at h0 hr0
        injection hr0 with hr0
        have hgd := HGD.out a (by simp)
        rw [hu] at hgd
        simp only at hgd
        have hone := HONE.out a rfl
        simp only [hu] at hone
        have hres := hone h0
        obtain ⟨⟨L, er⟩, hgr⟩ : ∃ q, groupR kk ns u.ps = q := ⟨_, rfl⟩
        rw [hgr] at hres
        have HRS := Lib.hid hres; have HGR := Lib.hid hgr; have HUF := Lib.hid hgd.1.fine
        have hul : u.ps.length ≤ 1000 := by have := hgd.2.1; have := HLM.out; omega
        obtain ⟨r01, sv0⟩ := r0
        simp only at hr0
        subst hr0
        simp only [List.length_cons, List.length_nil, Nat.zero_add]
        have HRW2 := Lib.hid (show VRow W1.heap.size (.slice X 1 cx) [(r01, sv0)] wr from HRW.out)
        obtain ⟨aR, hX, hu9⟩ := HRW2.out.at rfl (by omega)
        subst hX
        clear hu9 HRW HRL HKF HOK HGD h0 hone hres hgr hgd HBAD HONE HTWO HEK HKS HKQ hu
        obtain ⟨nnl, hnnl⟩ : ∃ q, ns.length = q := ⟨_, rfl⟩
        rw [hnnl] at z3
        have HNL := Lib.hid hnnl
        have hnl2 : nnl ≤ 9223372036854775807 := by omega
        have HVR := Lib.hid (fun V (hV : VRow W1.heap.size (.slice (some aR) 1 cx) [(r01, sv0)] V) => show VAt r01.ps sv0 V from hV.each _ List.mem_cons_self)
        have HVC := Lib.hid (fun V (hV : VRow W1.heap.size (.slice (some aR) 1 cx) [(r01, sv0)] V) => show V.cell? ⟨aR.block, aR.off + 2, none⟩ = some sv0 from by
          obtain ⟨ad, e, hc⟩ := hV.at rfl (by omega)
          injection e with e; subst e
          exact (val_cells0 (r := []) hc).2.2)
        clear hnnl
        have HGV := Lib.hid (show ∀ V, VcAt w bx (d + 1) (.mk kk nn (.slice A1 ms.length c1) ms (.slice A2 ns.length c2) ns (.slice A3 [a].length c3) [a]) w0 g v D t V → VRow W1.heap.size (.slice (some aR) 1 cx) [(r01, sv0)] V → Calls Tryz.prog 115 #[.int .i64 kk, .slice A2 nnl c2, sv0] V (VAnsE L er V) from fun V h1 h2 => group_v kk A2 nnl c2 ns HGR.out (by have h := HNS.out V h1.ev.ok; rwa [HNL.out] at h) hnl2 (HVR.out V h2) hul HUF.out)
        rcases rise_kinds hk17 hk2 with k9 | k9 | k9 | k9
        all_goals
          first | (have t17 : (kk == 17) = true := by simp [k9]) | (have t17 : (kk == 17) = false := by simp [k9])
          first | (have t18 : (kk == 18) = true := by simp [k9]) | (have t18 : (kk == 18) = false := by simp [k9])
          first | (have t19 : (kk == 19) = true := by simp [k9]) | (have t19 : (kk == 19) = false := by simp [k9])
          first | (have t20 : (kk == 20) = true := by simp [k9]) | (have t20 : (kk == 20) = false := by simp [k9])
          clear k9
          go_upto_region 17 with fail
          refine wp_region_facts (R := fun a b => Below a.heap.size a b) (G := (fun W => VcAt w bx (d + 1) (.mk kk nn (.slice A1 ms.length c1) ms (.slice A2 ns.length c2) ns (.slice A3 [a].length c3) [a]) w0 g v D t W ∧ VRow W1.heap.size (.slice (some aR) 1 cx) [(r01, sv0)] W)) (V := fun i' u' W => match i' with | 0 => u' = .pointer (some ⟨bx, 0, none⟩) | 1 => u' = .int .i64 kk | 2 => u' = .pointer (some ⟨bx, 3, none⟩) | 3 => u' = .slice A2 nnl c2 | 4 => u' = .slice (some aR) 1 cx | 5 => u' = .pointer (some aR) | 6 => u' = .pointer (some ⟨aR.block, aR.off + 2, none⟩) | 7 => u' = sv0 | 8 => ∃ v9, u' = .tuple #[v9, .int .i64 er] ∧ VAt L v9 W | 9 => VAt L u' W | 10 => u' = .int .i64 er | 11 => VAt L u' W | 12 => u' = .int .i64 er | _ => True) (by kernel_rfl) (fun w => Below.refl _ _) (fun a b c h1 h2 => h1.trans (h2.mono h1.size)) (by kernel_rfl) (by kernel_rfl) ?hG ⟨?o0, ?o1, ?o2, ?o3, ?o4, ?o5, ?o6, ?o7, ?o8, ?o9, ?o10, ?o11, ?o12, trivial⟩ ?hend
          case o0 =>
            intro a w hfr hG hd
            refine ⟨fun hw => ?_, fun hw => absurd hw (by simp [Region.wanted])⟩
            have s3 : a.tmps.getD 3 undef = .pointer (some ⟨bx, 0, none⟩) := hfr.at 3 (by kernel_rfl)
            refine op_yields (.pointer (some ⟨bx, 0, none⟩)) ?_ ?_ ?_
            · simp only [execOp, resolve, List.map_toArray, List.map_cons, List.map_nil, Act.eval, s3]; simp [go_sem, -Array.getD_eq_getD_getElem?, s3]
            · exact Below.refl _ _
            · exact (fun _ _ => rfl)
          case o1 =>
            intro a w hfr hG hd
            obtain ⟨d0, _⟩ := hd
            refine ⟨fun hw => ?_, fun hw => absurd hw (by simp [Region.wanted])⟩
            have s56 : a.tmps.getD 56 undef = .pointer (some ⟨bx, 0, none⟩) := (d0 rfl).now
            obtain ⟨y0, y1, y2, y3, y4⟩ := blk_cells5 hG.now.1.box; simp only [XE.kd, XE.n, XE.mv, XE.nv, XE.kv] at y0 y1 y2 y3 y4
            refine op_yields (.int .i64 kk) ?_ ?_ ?_
            · simp only [execOp, resolve, List.map_toArray, List.map_cons, List.map_nil, Act.eval, s56]; simp [go_sem, -Array.getD_eq_getD_getElem?, s56, y0]
            · exact Below.refl _ _
            · exact (fun _ _ => rfl)
          case o2 =>
            intro a w hfr hG hd
            refine ⟨fun hw => ?_, fun hw => absurd hw (by simp [Region.wanted])⟩
            have s3 : a.tmps.getD 3 undef = .pointer (some ⟨bx, 0, none⟩) := hfr.at 3 (by kernel_rfl)
            refine op_yields (.pointer (some ⟨bx, 3, none⟩)) ?_ ?_ ?_
            · simp only [execOp, resolve, List.map_toArray, List.map_cons, List.map_nil, Act.eval, s3]; simp [go_sem, -Array.getD_eq_getD_getElem?, s3]
            · exact Below.refl _ _
            · exact (fun _ _ => rfl)
          case o3 =>
            intro a w hfr hG hd
            obtain ⟨d0, _⟩ := hd
            refine ⟨fun hw => ?_, fun hw => absurd hw (by simp [Region.wanted])⟩
            have s58 : a.tmps.getD 58 undef = .pointer (some ⟨bx, 3, none⟩) := (d0 rfl).now
            obtain ⟨y0, y1, y2, y3, y4⟩ := blk_cells5 hG.now.1.box; simp only [XE.kd, XE.n, XE.mv, XE.nv, XE.kv] at y0 y1 y2 y3 y4; rw [HNL.out] at y3
            refine op_yields (.slice A2 nnl c2) ?_ ?_ ?_
            · simp only [execOp, resolve, List.map_toArray, List.map_cons, List.map_nil, Act.eval, s58]; simp [go_sem, -Array.getD_eq_getD_getElem?, s58, y3]
            · exact Below.refl _ _
            · exact (fun _ _ => rfl)
          case o4 =>
            intro a w hfr hG hd
            refine ⟨fun hw => ?_, fun hw => absurd hw (by simp [Region.wanted])⟩
            have s8 : a.tmps.getD 8 undef = .slice (some aR) 1 cx := hfr.at 8 (by kernel_rfl)
            refine op_yields (.slice (some aR) 1 cx) ?_ ?_ ?_
            · simp only [execOp, resolve, List.map_toArray, List.map_cons, List.map_nil, Act.eval, s8]; simp [go_sem, -Array.getD_eq_getD_getElem?, s8]
            · exact Below.refl _ _
            · exact (fun _ _ => rfl)
          case o5 =>
            intro a w hfr hG hd
            obtain ⟨d0, _⟩ := hd
            refine ⟨fun hw => ?_, fun hw => absurd hw (by simp [Region.wanted])⟩
            have s60 : a.tmps.getD 60 undef = .slice (some aR) 1 cx := (d0 rfl).now
            refine op_yields (.pointer (some aR)) ?_ ?_ ?_
            · simp only [execOp, resolve, List.map_toArray, List.map_cons, List.map_nil, Act.eval, s60]; simp [go_sem, -Array.getD_eq_getD_getElem?, s60]
            · exact Below.refl _ _
            · exact (fun _ _ => rfl)
          case o6 =>
            intro a w hfr hG hd
            obtain ⟨d0, _⟩ := hd
            refine ⟨fun hw => ?_, fun hw => absurd hw (by simp [Region.wanted])⟩
            have s61 : a.tmps.getD 61 undef = .pointer (some aR) := (d0 rfl).now
            refine op_yields (.pointer (some ⟨aR.block, aR.off + 2, none⟩)) ?_ ?_ ?_
            · simp only [execOp, resolve, List.map_toArray, List.map_cons, List.map_nil, Act.eval, s61]; simp [go_sem, -Array.getD_eq_getD_getElem?, s61]
            · exact Below.refl _ _
            · exact (fun _ _ => rfl)
          case o7 =>
            intro a w hfr hG hd
            obtain ⟨d0, _⟩ := hd
            refine ⟨fun hw => ?_, fun hw => absurd hw (by simp [Region.wanted])⟩
            have s62 : a.tmps.getD 62 undef = .pointer (some ⟨aR.block, aR.off + 2, none⟩) := (d0 rfl).now
            have y0 := HVC.out w hG.now.2
            refine op_yields (sv0) ?_ ?_ ?_
            · simp only [execOp, resolve, List.map_toArray, List.map_cons, List.map_nil, Act.eval, s62]; simp [go_sem, -Array.getD_eq_getD_getElem?, s62, y0]
            · exact Below.refl _ _
            · exact (fun _ _ => rfl)
          case o8 =>
            intro a w hfr hG hd
            obtain ⟨d0, d1, d2, _⟩ := hd
            refine ⟨fun hw => ?_, fun hw => absurd hw (by simp [Region.wanted])⟩
            have s57 : a.tmps.getD 57 undef = .int .i64 kk := (d0 rfl).now
            have s59 : a.tmps.getD 59 undef = .slice A2 nnl c2 := (d1 rfl).now
            have s63 : a.tmps.getD 63 undef = sv0 := (d2 rfl).now
            refine op_calls2 ((HGV.out w hG.now.1 hG.now.2).mono fun e' w' hh => ?_) (by simp only [execOp, resolve, List.map_toArray, List.map_cons, List.map_nil, Act.eval, s57, s59, s63]; simp [go_sem, -Array.getD_eq_getD_getElem?, s57, s59, s63]); obtain ⟨v9, h1, h2, h3⟩ := hh; exact ⟨_, h1, h3, fun W' hW' => ⟨v9, rfl, h2.below hW'⟩⟩
          case o9 =>
            intro a w hfr hG hd
            obtain ⟨d0, _⟩ := hd
            refine ⟨fun hw => ?_, fun hw => absurd hw (by simp [Region.wanted])⟩
            have p64 : Hold (fun a b => Below a.heap.size a b) (fun W => ∃ v9, (a.tmps.getD 64 undef) = .tuple #[v9, .int .i64 er] ∧ VAt L v9 W) w := d0 rfl
            obtain ⟨v9, e9, h9⟩ := p64.now; refine op_yields v9 ?_ (Below.refl _ _) (fun W' hW' => h9.below hW'); simp only [execOp, resolve, List.map_toArray, List.map_cons, List.map_nil, Act.eval, e9]; simp [go_sem, -Array.getD_eq_getD_getElem?, e9]
          case o10 =>
            intro a w hfr hG hd
            obtain ⟨d0, _⟩ := hd
            refine ⟨fun hw => ?_, fun hw => absurd hw (by simp [Region.wanted])⟩
            have p64 : Hold (fun a b => Below a.heap.size a b) (fun W => ∃ v9, (a.tmps.getD 64 undef) = .tuple #[v9, .int .i64 er] ∧ VAt L v9 W) w := d0 rfl
            obtain ⟨v9, e9, h9⟩ := p64.now; refine op_yields (.int .i64 er) ?_ (Below.refl _ _) (fun _ _ => rfl); simp only [execOp, resolve, List.map_toArray, List.map_cons, List.map_nil, Act.eval, e9]; simp [go_sem, -Array.getD_eq_getD_getElem?, e9]
          case o11 =>
            intro a w hfr hG hd
            obtain ⟨d0, d1, d2, d3, d4, d5, d6, d7, d8, d9, d10, d11, d12, _⟩ := hd
            refine ⟨fun hw => ?_, fun hw => absurd hw (by simp [Region.wanted])⟩
            have p65 : Hold (fun a b => Below a.heap.size a b) (fun W => VAt L (a.tmps.getD 65 undef) W) w := d0 rfl
            refine op_yields (a.tmps.getD 65 undef) ?_ ?_ ?_
            · simp only [execOp, Act.eval]; rfl
            · exact Below.refl _ _
            · exact p65
          case o12 =>
            intro a w hfr hG hd
            obtain ⟨d0, d1, d2, d3, d4, d5, d6, d7, d8, d9, d10, d11, d12, d13, _⟩ := hd
            refine ⟨fun hw => ?_, fun hw => absurd hw (by simp [Region.wanted])⟩
            have s66 : a.tmps.getD 66 undef = .int .i64 er := (d0 rfl).now
            refine op_yields (.int .i64 er) ?_ ?_ ?_
            · simp only [execOp, resolve, List.map_toArray, List.map_cons, List.map_nil, Act.eval, s66]; simp [go_sem, -Array.getD_eq_getD_getElem?, s66]
            · exact Below.refl _ _
            · exact (fun _ _ => rfl)
          case hG => exact fun w' hb => ⟨HA9.out.below ((Below.refl _ _).drew.trans (hb.mono (by simp))), HRW2.out.below ((Below.refl _ _).drew.trans (hb.mono (by simp)))⟩
          case hend =>
            intro vs w' hG hv
            have key : VAt L (vs 11) w' ∧ vs 12 = .int .i64 er := by
              obtain ⟨_, _, _, _, _, _, _, _, _, _, _, h11, h12, _⟩ := hv
              exact ⟨h11.now, h12.now⟩
            have HV := Lib.hid key.1; have HBF := Lib.hid hG.now.1.bel
            simp only [putAll, Act.put, key.2]
            clear hv hG key HGV HVC HA9 HRW2
            generalize vs 11 = vz at *
            go_simp
            go_wp2_with fail
            first | go_ret2 | skip
            exact ⟨vz, by rw [HRS.out] <;> rfl, by rw [HRS.out]; exact HV.out, HBF.out⟩
      · have hk3 := hk1
        obtain ⟨a, b, rfl⟩ : ∃ a b, ks = [a, b] := by
          match ks, hl2 with
          | [a, b], _ => exact ⟨a, b, rfl⟩
        obtain ⟨r0, r1, rfl⟩ : ∃ r0 r1, R = [r0, r1] := by
          match R, HRL.out with
          | [r0, r1], _ => exact ⟨r0, r1, rfl⟩
        obtain ⟨⟨u, ue⟩, hu⟩ : ∃ r, comF D t d a.pe = r := ⟨_, rfl⟩
        obtain ⟨⟨u2, ue2⟩, hu2⟩ : ∃ r, comF D t d b.pe = r := ⟨_, rfl⟩
        have h0 := HOK.out 0 (by simp) (by simp)
        have h1 := HOK.out 1 (by simp) (by simp)
        have hr0 := HKF.out
        simp only [List.map_cons, List.map_nil, List.getElem_cons_zero, List.getElem_cons_succ, hu, hu2] at h0 h1 hr0
        injection hr0 with hr0 hr1
        injection hr1 with hr1
        have hgd := HGD.out a (by simp)
        have hgd2 := HGD.out b (by simp)
        rw [hu] at hgd; rw [hu2] at hgd2
        simp only at hgd hgd2
        have htwo := HTWO.out a b rfl
        simp only [hu, hu2] at htwo
        have hres := htwo h0 h1
        obtain ⟨⟨L, er⟩, hgr⟩ : ∃ q, twoE kk u u2 = q := ⟨_, rfl⟩
        rw [hgr] at hres
        have HRS := Lib.hid hres; have HGR := Lib.hid hgr; have HUF := Lib.hid hgd.1.fine; have HUF2 := Lib.hid hgd2.1.fine; have HUN := Lib.hid hgd.2.2; have HUN2 := Lib.hid hgd2.2.2
        have hul : u.ps.length + u2.ps.length ≤ 1000 := by have := hgd.2.1; have := hgd2.2.1; have := HLM.out; omega
        obtain ⟨r01, sv0⟩ := r0
        obtain ⟨r11, sv1⟩ := r1
        simp only at hr0 hr1
        subst hr0; subst hr1
        simp only [List.length_cons, List.length_nil, Nat.zero_add, Nat.reduceAdd]
        have HRW2 := Lib.hid (show VRow W1.heap.size (.slice X 2 cx) [(r01, sv0), (r11, sv1)] wr from HRW.out)
        obtain ⟨aR, hX, hu9⟩ := HRW2.out.at rfl (by omega)
        subst hX
        clear hu9 HRW HRL HKF HOK HGD h0 h1 htwo hres hgr hgd hgd2 HBAD HONE HTWO HEK HKS HKQ hu hu2 HNS
        have HVA := Lib.hid (fun V (hV : VRow W1.heap.size (.slice (some aR) 2 cx) [(r01, sv0), (r11, sv1)] V) => show VAt r01.ps sv0 V from hV.each _ List.mem_cons_self)
        have HVB := Lib.hid (fun V (hV : VRow W1.heap.size (.slice (some aR) 2 cx) [(r01, sv0), (r11, sv1)] V) => show VAt r11.ps sv1 V from hV.each _ (List.mem_cons_of_mem _ List.mem_cons_self))
        have HVC := Lib.hid (fun V (hV : VRow W1.heap.size (.slice (some aR) 2 cx) [(r01, sv0), (r11, sv1)] V) => show (V.cell? aR = some (.bool r01.num) ∧ V.cell? ⟨aR.block, aR.off + 1, none⟩ = some (.int .i64 r01.n) ∧ V.cell? ⟨aR.block, aR.off + 2, none⟩ = some sv0) ∧ V.cell? ⟨aR.block, aR.off + 3, none⟩ = some (.bool r11.num) ∧ V.cell? ⟨aR.block, aR.off + 3 + 1, none⟩ = some (.int .i64 r11.n) ∧ V.cell? ⟨aR.block, aR.off + 3 + 2, none⟩ = some sv1 from by
          obtain ⟨ad, e, hc⟩ := hV.at rfl (by omega)
          injection e with e; subst e
          exact ⟨val_cells0 hc, val_cells3 hc⟩)
        by_cases hk7 : kk ≤ 7
        · have HGV := Lib.hid (show ∀ V, VRow W1.heap.size (.slice (some aR) 2 cx) [(r01, sv0), (r11, sv1)] V → Calls Tryz.prog 116 #[.int .i64 kk, .agg #[.bool r01.num, .int .i64 r01.n, sv0], .agg #[.bool r11.num, .int .i64 r11.n, sv1]] V (VAnsE L er V) from fun V h2 => reckoned_v kk r01 r11 sv0 sv1 L er V hk7 HGR.out (HVA.out V h2) (HVB.out V h2) hul HUF.out HUF2.out HUN.out HUN2.out)
          rcases (show kk = 3 ∨ kk = 4 ∨ kk = 5 ∨ kk = 6 ∨ kk = 7 by omega) with k9 | k9 | k9 | k9 | k9
          all_goals
            first | (have t17 : (kk == 17) = true := by simp [k9]) | (have t17 : (kk == 17) = false := by simp [k9])
            first | (have t18 : (kk == 18) = true := by simp [k9]) | (have t18 : (kk == 18) = false := by simp [k9])
            first | (have t19 : (kk == 19) = true := by simp [k9]) | (have t19 : (kk == 19) = false := by simp [k9])
            first | (have t20 : (kk == 20) = true := by simp [k9]) | (have t20 : (kk == 20) = false := by simp [k9])
            first | (have t3 : (kk == 3) = true := by simp [k9]) | (have t3 : (kk == 3) = false := by simp [k9])
            first | (have t4 : (kk == 4) = true := by simp [k9]) | (have t4 : (kk == 4) = false := by simp [k9])
            first | (have t5 : (kk == 5) = true := by simp [k9]) | (have t5 : (kk == 5) = false := by simp [k9])
            first | (have t6 : (kk == 6) = true := by simp [k9]) | (have t6 : (kk == 6) = false := by simp [k9])
            first | (have t7 : (kk == 7) = true := by simp [k9]) | (have t7 : (kk == 7) = false := by simp [k9])
            clear k9
            go_upto_region 23 with fail
            refine wp_region_facts (R := fun a b => Below a.heap.size a b) (G := (fun W => VcAt w bx (d + 1) (.mk kk nn (.slice A1 ms.length c1) ms (.slice A2 ns.length c2) ns (.slice A3 [a, b].length c3) [a, b]) w0 g v D t W ∧ VRow W1.heap.size (.slice (some aR) 2 cx) [(r01, sv0), (r11, sv1)] W)) (V := fun i' u' W => match i' with | 0 => u' = .pointer (some ⟨bx, 0, none⟩) | 1 => u' = .int .i64 kk | 2 => u' = .slice (some aR) 2 cx | 3 => u' = .pointer (some aR) | 4 => u' = .agg #[.bool r01.num, .int .i64 r01.n, sv0] | 5 => u' = .slice (some aR) 2 cx | 6 => u' = .pointer (some (aR.add 3)) | 7 => u' = .agg #[.bool r11.num, .int .i64 r11.n, sv1] | 8 => ∃ v9, u' = .tuple #[v9, .int .i64 er] ∧ VAt L v9 W | 9 => VAt L u' W | 10 => u' = .int .i64 er | 11 => VAt L u' W | 12 => u' = .int .i64 er | _ => True) (by kernel_rfl) (fun w => Below.refl _ _) (fun a b c h1 h2 => h1.trans (h2.mono h1.size)) (by kernel_rfl) (by kernel_rfl) ?hG ⟨?o0, ?o1, ?o2, ?o3, ?o4, ?o5, ?o6, ?o7, ?o8, ?o9, ?o10, ?o11, ?o12, trivial⟩ ?hend
            case o0 =>
              intro a w hfr hG hd
              refine ⟨fun hw => ?_, fun hw => absurd hw (by simp [Region.wanted])⟩
              have s3 : a.tmps.getD 3 undef = .pointer (some ⟨bx, 0, none⟩) := hfr.at 3 (by kernel_rfl)
              refine op_yields (.pointer (some ⟨bx, 0, none⟩)) ?_ ?_ ?_
              · simp only [execOp, resolve, List.map_toArray, List.map_cons, List.map_nil, Act.eval, s3]; simp [go_sem, -Array.getD_eq_getD_getElem?, s3]
              · exact Below.refl _ _
              · exact (fun _ _ => rfl)
            case o1 =>
              intro a w hfr hG hd
              obtain ⟨d0, _⟩ := hd
              refine ⟨fun hw => ?_, fun hw => absurd hw (by simp [Region.wanted])⟩
              have s73 : a.tmps.getD 73 undef = .pointer (some ⟨bx, 0, none⟩) := (d0 rfl).now
              obtain ⟨y0, y1, y2, y3, y4⟩ := blk_cells5 hG.now.1.box; simp only [XE.kd, XE.n, XE.mv, XE.nv, XE.kv] at y0 y1 y2 y3 y4
              refine op_yields (.int .i64 kk) ?_ ?_ ?_
              · simp only [execOp, resolve, List.map_toArray, List.map_cons, List.map_nil, Act.eval, s73]; simp [go_sem, -Array.getD_eq_getD_getElem?, s73, y0]
              · exact Below.refl _ _
              · exact (fun _ _ => rfl)
            case o2 =>
              intro a w hfr hG hd
              refine ⟨fun hw => ?_, fun hw => absurd hw (by simp [Region.wanted])⟩
              have s8 : a.tmps.getD 8 undef = .slice (some aR) 2 cx := hfr.at 8 (by kernel_rfl)
              refine op_yields (.slice (some aR) 2 cx) ?_ ?_ ?_
              · simp only [execOp, resolve, List.map_toArray, List.map_cons, List.map_nil, Act.eval, s8]; simp [go_sem, -Array.getD_eq_getD_getElem?, s8]
              · exact Below.refl _ _
              · exact (fun _ _ => rfl)
            case o3 =>
              intro a w hfr hG hd
              obtain ⟨d0, _⟩ := hd
              refine ⟨fun hw => ?_, fun hw => absurd hw (by simp [Region.wanted])⟩
              have s75 : a.tmps.getD 75 undef = .slice (some aR) 2 cx := (d0 rfl).now
              refine op_yields (.pointer (some aR)) ?_ ?_ ?_
              · simp only [execOp, resolve, List.map_toArray, List.map_cons, List.map_nil, Act.eval, s75]; simp [go_sem, -Array.getD_eq_getD_getElem?, s75]
              · exact Below.refl _ _
              · exact (fun _ _ => rfl)
            case o4 =>
              intro a w hfr hG hd
              obtain ⟨d0, _⟩ := hd
              refine ⟨fun hw => ?_, fun hw => absurd hw (by simp [Region.wanted])⟩
              have s76 : a.tmps.getD 76 undef = .pointer (some aR) := (d0 rfl).now
              obtain ⟨⟨y0, y1, y2⟩, y3, y4, y5⟩ := HVC.out w hG.now.2
              refine op_yields (.agg #[.bool r01.num, .int .i64 r01.n, sv0]) ?_ ?_ ?_
              · simp only [execOp, resolve, List.map_toArray, List.map_cons, List.map_nil, Act.eval, s76]; simp [go_sem, -Array.getD_eq_getD_getElem?, s76, y0, y1, y2]
              · exact Below.refl _ _
              · exact (fun _ _ => rfl)
            case o5 =>
              intro a w hfr hG hd
              refine ⟨fun hw => ?_, fun hw => absurd hw (by simp [Region.wanted])⟩
              have s8 : a.tmps.getD 8 undef = .slice (some aR) 2 cx := hfr.at 8 (by kernel_rfl)
              refine op_yields (.slice (some aR) 2 cx) ?_ ?_ ?_
              · simp only [execOp, resolve, List.map_toArray, List.map_cons, List.map_nil, Act.eval, s8]; simp [go_sem, -Array.getD_eq_getD_getElem?, s8]
              · exact Below.refl _ _
              · exact (fun _ _ => rfl)
            case o6 =>
              intro a w hfr hG hd
              obtain ⟨d0, _⟩ := hd
              refine ⟨fun hw => ?_, fun hw => absurd hw (by simp [Region.wanted])⟩
              have s78 : a.tmps.getD 78 undef = .slice (some aR) 2 cx := (d0 rfl).now
              refine op_yields (.pointer (some (aR.add 3))) ?_ ?_ ?_
              · simp only [execOp, resolve, List.map_toArray, List.map_cons, List.map_nil, Act.eval, s78]; simp [go_sem, -Array.getD_eq_getD_getElem?, s78]
              · exact Below.refl _ _
              · exact (fun _ _ => rfl)
            case o7 =>
              intro a w hfr hG hd
              obtain ⟨d0, _⟩ := hd
              refine ⟨fun hw => ?_, fun hw => absurd hw (by simp [Region.wanted])⟩
              have s79 : a.tmps.getD 79 undef = .pointer (some (aR.add 3)) := (d0 rfl).now
              obtain ⟨⟨y0, y1, y2⟩, y3, y4, y5⟩ := HVC.out w hG.now.2
              refine op_yields (.agg #[.bool r11.num, .int .i64 r11.n, sv1]) ?_ ?_ ?_
              · simp only [execOp, resolve, List.map_toArray, List.map_cons, List.map_nil, Act.eval, s79]; simp [go_sem, -Array.getD_eq_getD_getElem?, s79, y3, y4, y5]
              · exact Below.refl _ _
              · exact (fun _ _ => rfl)
            case o8 =>
              intro a w hfr hG hd
              obtain ⟨d0, d1, d2, _⟩ := hd
              refine ⟨fun hw => ?_, fun hw => absurd hw (by simp [Region.wanted])⟩
              have s74 : a.tmps.getD 74 undef = .int .i64 kk := (d0 rfl).now
              have s77 : a.tmps.getD 77 undef = .agg #[.bool r01.num, .int .i64 r01.n, sv0] := (d1 rfl).now
              have s80 : a.tmps.getD 80 undef = .agg #[.bool r11.num, .int .i64 r11.n, sv1] := (d2 rfl).now
              refine op_calls2 ((HGV.out w hG.now.2).mono fun e' w' hh => ?_) (by simp only [execOp, resolve, List.map_toArray, List.map_cons, List.map_nil, Act.eval, s74, s77, s80]; simp [go_sem, -Array.getD_eq_getD_getElem?, s74, s77, s80]); obtain ⟨v9, h1, h2, h3⟩ := hh; exact ⟨_, h1, h3, fun W' hW' => ⟨v9, rfl, h2.below hW'⟩⟩
            case o9 =>
              intro a w hfr hG hd
              obtain ⟨d0, _⟩ := hd
              refine ⟨fun hw => ?_, fun hw => absurd hw (by simp [Region.wanted])⟩
              have p81 : Hold (fun a b => Below a.heap.size a b) (fun W => ∃ v9, (a.tmps.getD 81 undef) = .tuple #[v9, .int .i64 er] ∧ VAt L v9 W) w := d0 rfl
              obtain ⟨v9, e9, h9⟩ := p81.now; refine op_yields v9 ?_ (Below.refl _ _) (fun W' hW' => h9.below hW'); simp only [execOp, resolve, List.map_toArray, List.map_cons, List.map_nil, Act.eval, e9]; simp [go_sem, -Array.getD_eq_getD_getElem?, e9]
            case o10 =>
              intro a w hfr hG hd
              obtain ⟨d0, _⟩ := hd
              refine ⟨fun hw => ?_, fun hw => absurd hw (by simp [Region.wanted])⟩
              have p81 : Hold (fun a b => Below a.heap.size a b) (fun W => ∃ v9, (a.tmps.getD 81 undef) = .tuple #[v9, .int .i64 er] ∧ VAt L v9 W) w := d0 rfl
              obtain ⟨v9, e9, h9⟩ := p81.now; refine op_yields (.int .i64 er) ?_ (Below.refl _ _) (fun _ _ => rfl); simp only [execOp, resolve, List.map_toArray, List.map_cons, List.map_nil, Act.eval, e9]; simp [go_sem, -Array.getD_eq_getD_getElem?, e9]
            case o11 =>
              intro a w hfr hG hd
              obtain ⟨d0, d1, d2, d3, d4, d5, d6, d7, d8, d9, d10, d11, d12, _⟩ := hd
              refine ⟨fun hw => ?_, fun hw => absurd hw (by simp [Region.wanted])⟩
              have p82 : Hold (fun a b => Below a.heap.size a b) (fun W => VAt L (a.tmps.getD 82 undef) W) w := d0 rfl
              refine op_yields (a.tmps.getD 82 undef) ?_ ?_ ?_
              · simp only [execOp, Act.eval]; rfl
              · exact Below.refl _ _
              · exact p82
            case o12 =>
              intro a w hfr hG hd
              obtain ⟨d0, d1, d2, d3, d4, d5, d6, d7, d8, d9, d10, d11, d12, d13, _⟩ := hd
              refine ⟨fun hw => ?_, fun hw => absurd hw (by simp [Region.wanted])⟩
              have s83 : a.tmps.getD 83 undef = .int .i64 er := (d0 rfl).now
              refine op_yields (.int .i64 er) ?_ ?_ ?_
              · simp only [execOp, resolve, List.map_toArray, List.map_cons, List.map_nil, Act.eval, s83]; simp [go_sem, -Array.getD_eq_getD_getElem?, s83]
              · exact Below.refl _ _
              · exact (fun _ _ => rfl)
            case hG => exact fun w' hb => ⟨HA9.out.below ((Below.refl _ _).drew.trans (hb.mono (by simp))), HRW2.out.below ((Below.refl _ _).drew.trans (hb.mono (by simp)))⟩
            case hend =>
              intro vs w' hG hv
              have key : VAt L (vs 11) w' ∧ vs 12 = .int .i64 er := by
                obtain ⟨_, _, _, _, _, _, _, _, _, _, _, h11, h12, _⟩ := hv
                exact ⟨h11.now, h12.now⟩
              have HV := Lib.hid key.1; have HBF := Lib.hid hG.now.1.bel
              simp only [putAll, Act.put, key.2]
              clear hv hG key HGV HVC HA9 HRW2
              generalize vs 11 = vz at *
              go_simp
              go_wp2_with fail
              first | go_ret2 | skip
              exact ⟨vz, by rw [HRS.out] <;> rfl, by rw [HRS.out]; exact HV.out, HBF.out⟩
        · by_cases hk14 : 14 ≤ kk
          · have HLR : Hid (logicR kk r01.ps r11.ps = (L, er)) := Lib.hid (by have h := HGR.out; unfold twoE at h; rwa [if_neg hk7, if_pos hk14] at h)
            have HGV := Lib.hid (show ∀ V, VRow W1.heap.size (.slice (some aR) 2 cx) [(r01, sv0), (r11, sv1)] V → Calls Tryz.prog 27 #[.int .i64 kk, sv0, sv1] V (VAnsE L er V) from fun V h2 => logic_v kk HLR.out (HVA.out V h2) (HVB.out V h2) hul HUF.out HUF2.out)
            rcases (show kk = 14 ∨ kk = 15 ∨ kk = 16 by omega) with k9 | k9 | k9
            all_goals
              first | (have t17 : (kk == 17) = true := by simp [k9]) | (have t17 : (kk == 17) = false := by simp [k9])
              first | (have t18 : (kk == 18) = true := by simp [k9]) | (have t18 : (kk == 18) = false := by simp [k9])
              first | (have t19 : (kk == 19) = true := by simp [k9]) | (have t19 : (kk == 19) = false := by simp [k9])
              first | (have t20 : (kk == 20) = true := by simp [k9]) | (have t20 : (kk == 20) = false := by simp [k9])
              first | (have t3 : (kk == 3) = true := by simp [k9]) | (have t3 : (kk == 3) = false := by simp [k9])
              first | (have t4 : (kk == 4) = true := by simp [k9]) | (have t4 : (kk == 4) = false := by simp [k9])
              first | (have t5 : (kk == 5) = true := by simp [k9]) | (have t5 : (kk == 5) = false := by simp [k9])
              first | (have t6 : (kk == 6) = true := by simp [k9]) | (have t6 : (kk == 6) = false := by simp [k9])
              first | (have t7 : (kk == 7) = true := by simp [k9]) | (have t7 : (kk == 7) = false := by simp [k9])
              first | (have t14 : (kk == 14) = true := by simp [k9]) | (have t14 : (kk == 14) = false := by simp [k9])
              first | (have t15 : (kk == 15) = true := by simp [k9]) | (have t15 : (kk == 15) = false := by simp [k9])
              first | (have t16 : (kk == 16) = true := by simp [k9]) | (have t16 : (kk == 16) = false := by simp [k9])
              clear k9
              go_upto_region 27 with fail
              refine wp_region_facts (R := fun a b => Below a.heap.size a b) (G := (fun W => VcAt w bx (d + 1) (.mk kk nn (.slice A1 ms.length c1) ms (.slice A2 ns.length c2) ns (.slice A3 [a, b].length c3) [a, b]) w0 g v D t W ∧ VRow W1.heap.size (.slice (some aR) 2 cx) [(r01, sv0), (r11, sv1)] W)) (V := fun i' u' W => match i' with | 0 => u' = .pointer (some ⟨bx, 0, none⟩) | 1 => u' = .int .i64 kk | 2 => u' = .slice (some aR) 2 cx | 3 => u' = .pointer (some aR) | 4 => u' = .pointer (some ⟨aR.block, aR.off + 2, none⟩) | 5 => u' = sv0 | 6 => u' = .slice (some aR) 2 cx | 7 => u' = .pointer (some (aR.add 3)) | 8 => u' = .pointer (some ⟨aR.block, aR.off + 3 + 2, none⟩) | 9 => u' = sv1 | 10 => ∃ v9, u' = .tuple #[v9, .int .i64 er] ∧ VAt L v9 W | 11 => VAt L u' W | 12 => u' = .int .i64 er | 13 => VAt L u' W | 14 => u' = .int .i64 er | _ => True) (by kernel_rfl) (fun w => Below.refl _ _) (fun a b c h1 h2 => h1.trans (h2.mono h1.size)) (by kernel_rfl) (by kernel_rfl) ?hG ⟨?o0, ?o1, ?o2, ?o3, ?o4, ?o5, ?o6, ?o7, ?o8, ?o9, ?o10, ?o11, ?o12, ?o13, ?o14, trivial⟩ ?hend
              case o0 =>
                intro a w hfr hG hd
                refine ⟨fun hw => ?_, fun hw => absurd hw (by simp [Region.wanted])⟩
                have s3 : a.tmps.getD 3 undef = .pointer (some ⟨bx, 0, none⟩) := hfr.at 3 (by kernel_rfl)
                refine op_yields (.pointer (some ⟨bx, 0, none⟩)) ?_ ?_ ?_
                · simp only [execOp, resolve, List.map_toArray, List.map_cons, List.map_nil, Act.eval, s3]; simp [go_sem, -Array.getD_eq_getD_getElem?, s3]
                · exact Below.refl _ _
                · exact (fun _ _ => rfl)
              case o1 =>
                intro a w hfr hG hd
                obtain ⟨d0, _⟩ := hd
                refine ⟨fun hw => ?_, fun hw => absurd hw (by simp [Region.wanted])⟩
                have s88 : a.tmps.getD 88 undef = .pointer (some ⟨bx, 0, none⟩) := (d0 rfl).now
                obtain ⟨y0, y1, y2, y3, y4⟩ := blk_cells5 hG.now.1.box; simp only [XE.kd, XE.n, XE.mv, XE.nv, XE.kv] at y0 y1 y2 y3 y4
                refine op_yields (.int .i64 kk) ?_ ?_ ?_
                · simp only [execOp, resolve, List.map_toArray, List.map_cons, List.map_nil, Act.eval, s88]; simp [go_sem, -Array.getD_eq_getD_getElem?, s88, y0]
                · exact Below.refl _ _
                · exact (fun _ _ => rfl)
              case o2 =>
                intro a w hfr hG hd
                refine ⟨fun hw => ?_, fun hw => absurd hw (by simp [Region.wanted])⟩
                have s8 : a.tmps.getD 8 undef = .slice (some aR) 2 cx := hfr.at 8 (by kernel_rfl)
                refine op_yields (.slice (some aR) 2 cx) ?_ ?_ ?_
                · simp only [execOp, resolve, List.map_toArray, List.map_cons, List.map_nil, Act.eval, s8]; simp [go_sem, -Array.getD_eq_getD_getElem?, s8]
                · exact Below.refl _ _
                · exact (fun _ _ => rfl)
              case o3 =>
                intro a w hfr hG hd
                obtain ⟨d0, _⟩ := hd
                refine ⟨fun hw => ?_, fun hw => absurd hw (by simp [Region.wanted])⟩
                have s90 : a.tmps.getD 90 undef = .slice (some aR) 2 cx := (d0 rfl).now
                refine op_yields (.pointer (some aR)) ?_ ?_ ?_
                · simp only [execOp, resolve, List.map_toArray, List.map_cons, List.map_nil, Act.eval, s90]; simp [go_sem, -Array.getD_eq_getD_getElem?, s90]
                · exact Below.refl _ _
                · exact (fun _ _ => rfl)
              case o4 =>
                intro a w hfr hG hd
                obtain ⟨d0, _⟩ := hd
                refine ⟨fun hw => ?_, fun hw => absurd hw (by simp [Region.wanted])⟩
                have s91 : a.tmps.getD 91 undef = .pointer (some aR) := (d0 rfl).now
                refine op_yields (.pointer (some ⟨aR.block, aR.off + 2, none⟩)) ?_ ?_ ?_
                · simp only [execOp, resolve, List.map_toArray, List.map_cons, List.map_nil, Act.eval, s91]; simp [go_sem, -Array.getD_eq_getD_getElem?, s91]
                · exact Below.refl _ _
                · exact (fun _ _ => rfl)
              case o5 =>
                intro a w hfr hG hd
                obtain ⟨d0, _⟩ := hd
                refine ⟨fun hw => ?_, fun hw => absurd hw (by simp [Region.wanted])⟩
                have s92 : a.tmps.getD 92 undef = .pointer (some ⟨aR.block, aR.off + 2, none⟩) := (d0 rfl).now
                obtain ⟨⟨y0, y1, y2⟩, y3, y4, y5⟩ := HVC.out w hG.now.2
                refine op_yields (sv0) ?_ ?_ ?_
                · simp only [execOp, resolve, List.map_toArray, List.map_cons, List.map_nil, Act.eval, s92]; simp [go_sem, -Array.getD_eq_getD_getElem?, s92, y2]
                · exact Below.refl _ _
                · exact (fun _ _ => rfl)
              case o6 =>
                intro a w hfr hG hd
                refine ⟨fun hw => ?_, fun hw => absurd hw (by simp [Region.wanted])⟩
                have s8 : a.tmps.getD 8 undef = .slice (some aR) 2 cx := hfr.at 8 (by kernel_rfl)
                refine op_yields (.slice (some aR) 2 cx) ?_ ?_ ?_
                · simp only [execOp, resolve, List.map_toArray, List.map_cons, List.map_nil, Act.eval, s8]; simp [go_sem, -Array.getD_eq_getD_getElem?, s8]
                · exact Below.refl _ _
                · exact (fun _ _ => rfl)
              case o7 =>
                intro a w hfr hG hd
                obtain ⟨d0, _⟩ := hd
                refine ⟨fun hw => ?_, fun hw => absurd hw (by simp [Region.wanted])⟩
                have s94 : a.tmps.getD 94 undef = .slice (some aR) 2 cx := (d0 rfl).now
                refine op_yields (.pointer (some (aR.add 3))) ?_ ?_ ?_
                · simp only [execOp, resolve, List.map_toArray, List.map_cons, List.map_nil, Act.eval, s94]; simp [go_sem, -Array.getD_eq_getD_getElem?, s94]
                · exact Below.refl _ _
                · exact (fun _ _ => rfl)
              case o8 =>
                intro a w hfr hG hd
                obtain ⟨d0, _⟩ := hd
                refine ⟨fun hw => ?_, fun hw => absurd hw (by simp [Region.wanted])⟩
                have s95 : a.tmps.getD 95 undef = .pointer (some (aR.add 3)) := (d0 rfl).now
                refine op_yields (.pointer (some ⟨aR.block, aR.off + 3 + 2, none⟩)) ?_ ?_ ?_
                · simp only [execOp, resolve, List.map_toArray, List.map_cons, List.map_nil, Act.eval, s95]; simp [go_sem, -Array.getD_eq_getD_getElem?, s95]
                · exact Below.refl _ _
                · exact (fun _ _ => rfl)
              case o9 =>
                intro a w hfr hG hd
                obtain ⟨d0, _⟩ := hd
                refine ⟨fun hw => ?_, fun hw => absurd hw (by simp [Region.wanted])⟩
                have s96 : a.tmps.getD 96 undef = .pointer (some ⟨aR.block, aR.off + 3 + 2, none⟩) := (d0 rfl).now
                obtain ⟨⟨y0, y1, y2⟩, y3, y4, y5⟩ := HVC.out w hG.now.2
                refine op_yields (sv1) ?_ ?_ ?_
                · simp only [execOp, resolve, List.map_toArray, List.map_cons, List.map_nil, Act.eval, s96]; simp [go_sem, -Array.getD_eq_getD_getElem?, s96, y5]
                · exact Below.refl _ _
                · exact (fun _ _ => rfl)
              case o10 =>
                intro a w hfr hG hd
                obtain ⟨d0, d1, d2, _⟩ := hd
                refine ⟨fun hw => ?_, fun hw => absurd hw (by simp [Region.wanted])⟩
                have s89 : a.tmps.getD 89 undef = .int .i64 kk := (d0 rfl).now
                have s93 : a.tmps.getD 93 undef = sv0 := (d1 rfl).now
                have s97 : a.tmps.getD 97 undef = sv1 := (d2 rfl).now
                refine op_calls2 ((HGV.out w hG.now.2).mono fun e' w' hh => ?_) (by simp only [execOp, resolve, List.map_toArray, List.map_cons, List.map_nil, Act.eval, s89, s93, s97]; simp [go_sem, -Array.getD_eq_getD_getElem?, s89, s93, s97]); obtain ⟨v9, h1, h2, h3⟩ := hh; exact ⟨_, h1, h3, fun W' hW' => ⟨v9, rfl, h2.below hW'⟩⟩
              case o11 =>
                intro a w hfr hG hd
                obtain ⟨d0, _⟩ := hd
                refine ⟨fun hw => ?_, fun hw => absurd hw (by simp [Region.wanted])⟩
                have p98 : Hold (fun a b => Below a.heap.size a b) (fun W => ∃ v9, (a.tmps.getD 98 undef) = .tuple #[v9, .int .i64 er] ∧ VAt L v9 W) w := d0 rfl
                obtain ⟨v9, e9, h9⟩ := p98.now; refine op_yields v9 ?_ (Below.refl _ _) (fun W' hW' => h9.below hW'); simp only [execOp, resolve, List.map_toArray, List.map_cons, List.map_nil, Act.eval, e9]; simp [go_sem, -Array.getD_eq_getD_getElem?, e9]
              case o12 =>
                intro a w hfr hG hd
                obtain ⟨d0, _⟩ := hd
                refine ⟨fun hw => ?_, fun hw => absurd hw (by simp [Region.wanted])⟩
                have p98 : Hold (fun a b => Below a.heap.size a b) (fun W => ∃ v9, (a.tmps.getD 98 undef) = .tuple #[v9, .int .i64 er] ∧ VAt L v9 W) w := d0 rfl
                obtain ⟨v9, e9, h9⟩ := p98.now; refine op_yields (.int .i64 er) ?_ (Below.refl _ _) (fun _ _ => rfl); simp only [execOp, resolve, List.map_toArray, List.map_cons, List.map_nil, Act.eval, e9]; simp [go_sem, -Array.getD_eq_getD_getElem?, e9]
              case o13 =>
                intro a w hfr hG hd
                obtain ⟨d0, d1, d2, d3, d4, d5, d6, d7, d8, d9, d10, d11, d12, d13, d14, _⟩ := hd
                refine ⟨fun hw => ?_, fun hw => absurd hw (by simp [Region.wanted])⟩
                have p99 : Hold (fun a b => Below a.heap.size a b) (fun W => VAt L (a.tmps.getD 99 undef) W) w := d0 rfl
                refine op_yields (a.tmps.getD 99 undef) ?_ ?_ ?_
                · simp only [execOp, Act.eval]; rfl
                · exact Below.refl _ _
                · exact p99
              case o14 =>
                intro a w hfr hG hd
                obtain ⟨d0, d1, d2, d3, d4, d5, d6, d7, d8, d9, d10, d11, d12, d13, d14, d15, _⟩ := hd
                refine ⟨fun hw => ?_, fun hw => absurd hw (by simp [Region.wanted])⟩
                have s100 : a.tmps.getD 100 undef = .int .i64 er := (d0 rfl).now
                refine op_yields (.int .i64 er) ?_ ?_ ?_
                · simp only [execOp, resolve, List.map_toArray, List.map_cons, List.map_nil, Act.eval, s100]; simp [go_sem, -Array.getD_eq_getD_getElem?, s100]
                · exact Below.refl _ _
                · exact (fun _ _ => rfl)
              case hG => exact fun w' hb => ⟨HA9.out.below ((Below.refl _ _).drew.trans (hb.mono (by simp))), HRW2.out.below ((Below.refl _ _).drew.trans (hb.mono (by simp)))⟩
              case hend =>
                intro vs w' hG hv
                have key : VAt L (vs 13) w' ∧ vs 14 = .int .i64 er := by
                  obtain ⟨_, _, _, _, _, _, _, _, _, _, _, _, _, h11, h12, _⟩ := hv
                  exact ⟨h11.now, h12.now⟩
                have HV := Lib.hid key.1; have HBF := Lib.hid hG.now.1.bel
                simp only [putAll, Act.put, key.2]
                clear hv hG key HGV HVC HA9 HRW2
                generalize vs 13 = vz at *
                go_simp
                go_wp2_with fail
                first | go_ret2 | skip
                exact ⟨vz, by rw [HRS.out] <;> rfl, by rw [HRS.out]; exact HV.out, HBF.out⟩
          · have HGV := Lib.hid (show ∀ V, VRow W1.heap.size (.slice (some aR) 2 cx) [(r01, sv0), (r11, sv1)] V → Calls Tryz.prog 117 #[.int .i64 kk, .agg #[.bool r01.num, .int .i64 r01.n, sv0], .agg #[.bool r11.num, .int .i64 r11.n, sv1]] V (VAnsE L er V) from fun V h2 => compared_v kk r01 r11 sv0 sv1 L er V (by omega) (by omega) HGR.out (HVA.out V h2) (HVB.out V h2) hul HUF.out HUF2.out HUN.out HUN2.out)
            have t17 : (kk == 17) = false := by rw [beq_eq_false_iff_ne]; omega
            have t18 : (kk == 18) = false := by rw [beq_eq_false_iff_ne]; omega
            have t19 : (kk == 19) = false := by rw [beq_eq_false_iff_ne]; omega
            have t20 : (kk == 20) = false := by rw [beq_eq_false_iff_ne]; omega
            have t3 : (kk == 3) = false := by rw [beq_eq_false_iff_ne]; omega
            have t4 : (kk == 4) = false := by rw [beq_eq_false_iff_ne]; omega
            have t5 : (kk == 5) = false := by rw [beq_eq_false_iff_ne]; omega
            have t6 : (kk == 6) = false := by rw [beq_eq_false_iff_ne]; omega
            have t7 : (kk == 7) = false := by rw [beq_eq_false_iff_ne]; omega
            have t14 : (kk == 14) = false := by rw [beq_eq_false_iff_ne]; omega
            have t15 : (kk == 15) = false := by rw [beq_eq_false_iff_ne]; omega
            have t16 : (kk == 16) = false := by rw [beq_eq_false_iff_ne]; omega
            go_upto_region 28 with fail
            refine wp_region_facts (R := fun a b => Below a.heap.size a b) (G := (fun W => VcAt w bx (d + 1) (.mk kk nn (.slice A1 ms.length c1) ms (.slice A2 ns.length c2) ns (.slice A3 [a, b].length c3) [a, b]) w0 g v D t W ∧ VRow W1.heap.size (.slice (some aR) 2 cx) [(r01, sv0), (r11, sv1)] W)) (V := fun i' u' W => match i' with | 0 => u' = .pointer (some ⟨bx, 0, none⟩) | 1 => u' = .int .i64 kk | 2 => u' = .slice (some aR) 2 cx | 3 => u' = .pointer (some aR) | 4 => u' = .agg #[.bool r01.num, .int .i64 r01.n, sv0] | 5 => u' = .slice (some aR) 2 cx | 6 => u' = .pointer (some (aR.add 3)) | 7 => u' = .agg #[.bool r11.num, .int .i64 r11.n, sv1] | 8 => ∃ v9, u' = .tuple #[v9, .int .i64 er] ∧ VAt L v9 W | 9 => VAt L u' W | 10 => u' = .int .i64 er | 11 => VAt L u' W | 12 => u' = .int .i64 er | _ => True) (by kernel_rfl) (fun w => Below.refl _ _) (fun a b c h1 h2 => h1.trans (h2.mono h1.size)) (by kernel_rfl) (by kernel_rfl) ?hG ⟨?o0, ?o1, ?o2, ?o3, ?o4, ?o5, ?o6, ?o7, ?o8, ?o9, ?o10, ?o11, ?o12, trivial⟩ ?hend
            case o0 =>
              intro a w hfr hG hd
              refine ⟨fun hw => ?_, fun hw => absurd hw (by simp [Region.wanted])⟩
              have s3 : a.tmps.getD 3 undef = .pointer (some ⟨bx, 0, none⟩) := hfr.at 3 (by kernel_rfl)
              refine op_yields (.pointer (some ⟨bx, 0, none⟩)) ?_ ?_ ?_
              · simp only [execOp, resolve, List.map_toArray, List.map_cons, List.map_nil, Act.eval, s3]; simp [go_sem, -Array.getD_eq_getD_getElem?, s3]
              · exact Below.refl _ _
              · exact (fun _ _ => rfl)
            case o1 =>
              intro a w hfr hG hd
              obtain ⟨d0, _⟩ := hd
              refine ⟨fun hw => ?_, fun hw => absurd hw (by simp [Region.wanted])⟩
              have s101 : a.tmps.getD 101 undef = .pointer (some ⟨bx, 0, none⟩) := (d0 rfl).now
              obtain ⟨y0, y1, y2, y3, y4⟩ := blk_cells5 hG.now.1.box; simp only [XE.kd, XE.n, XE.mv, XE.nv, XE.kv] at y0 y1 y2 y3 y4
              refine op_yields (.int .i64 kk) ?_ ?_ ?_
              · simp only [execOp, resolve, List.map_toArray, List.map_cons, List.map_nil, Act.eval, s101]; simp [go_sem, -Array.getD_eq_getD_getElem?, s101, y0]
              · exact Below.refl _ _
              · exact (fun _ _ => rfl)
            case o2 =>
              intro a w hfr hG hd
              refine ⟨fun hw => ?_, fun hw => absurd hw (by simp [Region.wanted])⟩
              have s8 : a.tmps.getD 8 undef = .slice (some aR) 2 cx := hfr.at 8 (by kernel_rfl)
              refine op_yields (.slice (some aR) 2 cx) ?_ ?_ ?_
              · simp only [execOp, resolve, List.map_toArray, List.map_cons, List.map_nil, Act.eval, s8]; simp [go_sem, -Array.getD_eq_getD_getElem?, s8]
              · exact Below.refl _ _
              · exact (fun _ _ => rfl)
            case o3 =>
              intro a w hfr hG hd
              obtain ⟨d0, _⟩ := hd
              refine ⟨fun hw => ?_, fun hw => absurd hw (by simp [Region.wanted])⟩
              have s103 : a.tmps.getD 103 undef = .slice (some aR) 2 cx := (d0 rfl).now
              refine op_yields (.pointer (some aR)) ?_ ?_ ?_
              · simp only [execOp, resolve, List.map_toArray, List.map_cons, List.map_nil, Act.eval, s103]; simp [go_sem, -Array.getD_eq_getD_getElem?, s103]
              · exact Below.refl _ _
              · exact (fun _ _ => rfl)
            case o4 =>
              intro a w hfr hG hd
              obtain ⟨d0, _⟩ := hd
              refine ⟨fun hw => ?_, fun hw => absurd hw (by simp [Region.wanted])⟩
              have s104 : a.tmps.getD 104 undef = .pointer (some aR) := (d0 rfl).now
              obtain ⟨⟨y0, y1, y2⟩, y3, y4, y5⟩ := HVC.out w hG.now.2
              refine op_yields (.agg #[.bool r01.num, .int .i64 r01.n, sv0]) ?_ ?_ ?_
              · simp only [execOp, resolve, List.map_toArray, List.map_cons, List.map_nil, Act.eval, s104]; simp [go_sem, -Array.getD_eq_getD_getElem?, s104, y0, y1, y2]
              · exact Below.refl _ _
              · exact (fun _ _ => rfl)
            case o5 =>
              intro a w hfr hG hd
              refine ⟨fun hw => ?_, fun hw => absurd hw (by simp [Region.wanted])⟩
              have s8 : a.tmps.getD 8 undef = .slice (some aR) 2 cx := hfr.at 8 (by kernel_rfl)
              refine op_yields (.slice (some aR) 2 cx) ?_ ?_ ?_
              · simp only [execOp, resolve, List.map_toArray, List.map_cons, List.map_nil, Act.eval, s8]; simp [go_sem, -Array.getD_eq_getD_getElem?, s8]
              · exact Below.refl _ _
              · exact (fun _ _ => rfl)
            case o6 =>
              intro a w hfr hG hd
              obtain ⟨d0, _⟩ := hd
              refine ⟨fun hw => ?_, fun hw => absurd hw (by simp [Region.wanted])⟩
              have s106 : a.tmps.getD 106 undef = .slice (some aR) 2 cx := (d0 rfl).now
              refine op_yields (.pointer (some (aR.add 3))) ?_ ?_ ?_
              · simp only [execOp, resolve, List.map_toArray, List.map_cons, List.map_nil, Act.eval, s106]; simp [go_sem, -Array.getD_eq_getD_getElem?, s106]
              · exact Below.refl _ _
              · exact (fun _ _ => rfl)
            case o7 =>
              intro a w hfr hG hd
              obtain ⟨d0, _⟩ := hd
              refine ⟨fun hw => ?_, fun hw => absurd hw (by simp [Region.wanted])⟩
              have s107 : a.tmps.getD 107 undef = .pointer (some (aR.add 3)) := (d0 rfl).now
              obtain ⟨⟨y0, y1, y2⟩, y3, y4, y5⟩ := HVC.out w hG.now.2
              refine op_yields (.agg #[.bool r11.num, .int .i64 r11.n, sv1]) ?_ ?_ ?_
              · simp only [execOp, resolve, List.map_toArray, List.map_cons, List.map_nil, Act.eval, s107]; simp [go_sem, -Array.getD_eq_getD_getElem?, s107, y3, y4, y5]
              · exact Below.refl _ _
              · exact (fun _ _ => rfl)
            case o8 =>
              intro a w hfr hG hd
              obtain ⟨d0, d1, d2, _⟩ := hd
              refine ⟨fun hw => ?_, fun hw => absurd hw (by simp [Region.wanted])⟩
              have s102 : a.tmps.getD 102 undef = .int .i64 kk := (d0 rfl).now
              have s105 : a.tmps.getD 105 undef = .agg #[.bool r01.num, .int .i64 r01.n, sv0] := (d1 rfl).now
              have s108 : a.tmps.getD 108 undef = .agg #[.bool r11.num, .int .i64 r11.n, sv1] := (d2 rfl).now
              refine op_calls2 ((HGV.out w hG.now.2).mono fun e' w' hh => ?_) (by simp only [execOp, resolve, List.map_toArray, List.map_cons, List.map_nil, Act.eval, s102, s105, s108]; simp [go_sem, -Array.getD_eq_getD_getElem?, s102, s105, s108]); obtain ⟨v9, h1, h2, h3⟩ := hh; exact ⟨_, h1, h3, fun W' hW' => ⟨v9, rfl, h2.below hW'⟩⟩
            case o9 =>
              intro a w hfr hG hd
              obtain ⟨d0, _⟩ := hd
              refine ⟨fun hw => ?_, fun hw => absurd hw (by simp [Region.wanted])⟩
              have p109 : Hold (fun a b => Below a.heap.size a b) (fun W => ∃ v9, (a.tmps.getD 109 undef) = .tuple #[v9, .int .i64 er] ∧ VAt L v9 W) w := d0 rfl
              obtain ⟨v9, e9, h9⟩ := p109.now; refine op_yields v9 ?_ (Below.refl _ _) (fun W' hW' => h9.below hW'); simp only [execOp, resolve, List.map_toArray, List.map_cons, List.map_nil, Act.eval, e9]; simp [go_sem, -Array.getD_eq_getD_getElem?, e9]
            case o10 =>
              intro a w hfr hG hd
              obtain ⟨d0, _⟩ := hd
              refine ⟨fun hw => ?_, fun hw => absurd hw (by simp [Region.wanted])⟩
              have p109 : Hold (fun a b => Below a.heap.size a b) (fun W => ∃ v9, (a.tmps.getD 109 undef) = .tuple #[v9, .int .i64 er] ∧ VAt L v9 W) w := d0 rfl
              obtain ⟨v9, e9, h9⟩ := p109.now; refine op_yields (.int .i64 er) ?_ (Below.refl _ _) (fun _ _ => rfl); simp only [execOp, resolve, List.map_toArray, List.map_cons, List.map_nil, Act.eval, e9]; simp [go_sem, -Array.getD_eq_getD_getElem?, e9]
            case o11 =>
              intro a w hfr hG hd
              obtain ⟨d0, d1, d2, d3, d4, d5, d6, d7, d8, d9, d10, d11, d12, _⟩ := hd
              refine ⟨fun hw => ?_, fun hw => absurd hw (by simp [Region.wanted])⟩
              have p110 : Hold (fun a b => Below a.heap.size a b) (fun W => VAt L (a.tmps.getD 110 undef) W) w := d0 rfl
              refine op_yields (a.tmps.getD 110 undef) ?_ ?_ ?_
              · simp only [execOp, Act.eval]; rfl
              · exact Below.refl _ _
              · exact p110
            case o12 =>
              intro a w hfr hG hd
              obtain ⟨d0, d1, d2, d3, d4, d5, d6, d7, d8, d9, d10, d11, d12, d13, _⟩ := hd
              refine ⟨fun hw => ?_, fun hw => absurd hw (by simp [Region.wanted])⟩
              have s111 : a.tmps.getD 111 undef = .int .i64 er := (d0 rfl).now
              refine op_yields (.int .i64 er) ?_ ?_ ?_
              · simp only [execOp, resolve, List.map_toArray, List.map_cons, List.map_nil, Act.eval, s111]; simp [go_sem, -Array.getD_eq_getD_getElem?, s111]
              · exact Below.refl _ _
              · exact (fun _ _ => rfl)
            case hG => exact fun w' hb => ⟨HA9.out.below ((Below.refl _ _).drew.trans (hb.mono (by simp))), HRW2.out.below ((Below.refl _ _).drew.trans (hb.mono (by simp)))⟩
            case hend =>
              intro vs w' hG hv
              have key : VAt L (vs 11) w' ∧ vs 12 = .int .i64 er := by
                obtain ⟨_, _, _, _, _, _, _, _, _, _, _, h11, h12, _⟩ := hv
                exact ⟨h11.now, h12.now⟩
              have HV := Lib.hid key.1; have HBF := Lib.hid hG.now.1.bel
              simp only [putAll, Act.put, key.2]
              clear hv hG key HGV HVC HA9 HRW2
              generalize vs 11 = vz at *
              go_simp
              go_wp2_with fail
              first | go_ret2 | skip
              exact ⟨vz, by rw [HRS.out] <;> rfl, by rw [HRS.out]; exact HV.out, HBF.out⟩
end Go.Proofs.YtlmakdclebbbkaaGreat
