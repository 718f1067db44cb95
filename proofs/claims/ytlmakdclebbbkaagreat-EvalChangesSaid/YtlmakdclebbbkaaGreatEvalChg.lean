/- Pruned. -/
import Derived.Test.YtlmakdclebbbkaaGreatBase49
import Derived.Test.YtlmakdclebbbkaaGreatBase50
import Derived.Test.YtlmakdclebbbkaaGreatBase33
import Derived.Test.YtlmakdclebbbkaaGreatBase46
namespace Go.Proofs.YtlmakdclebbbkaaGreat
open Go.ChangeShapes Go.WideShapes Go.ChangeAt Go.RowKit Go.Lib
set_option linter.unusedVariables false
set_option linter.unusedSimpArgs false
set_option maxRecDepth 100000
theorem BMap.kindE {w : World} {b n : Nat} {f : Int → Bool} (h : BMap w b n f) : ∀ (cs : Array Value) (t : TypeId) (q : Nat × Nat), w.heap[b]? ≠ some (Obj.cells cs t q) := by
  obtain ⟨D, ⟨es, clock, h1, F, hs, hD⟩, h2⟩ := h
  intro cs t q e
  rw [h1] at e; cases e
theorem BMap.ne_ownE {w : World} {b n base : Nat} {f : Int → Bool} {e : TypeId} {s m : Nat} {u : Value} {xs : List Value} (h : BMap w b n f) (ho : w.ownsRow base e s u m xs) : u.ownBlock ≠ some b := fun hu => by
  obtain ⟨cs, q, e1⟩ := own_type ho hu
  exact h.kindE _ _ _ e1
/-- While the times are noted. -/
structure ChE (WM : World) (C : List Int) (v : Value) (i : Nat) (f : Int → Bool) (W : World) : Prop where
  bel : Below WM.heap.size WM W
  map : BMap W WM.heap.size i f
  row : W.ownsRow 0 3 1 v C.length (ints C)
theorem ChE.below {WM W W' : World} {C : List Int} {v : Value} {i : Nat} {f : Int → Bool} (h : ChE WM C v i f W) (hb : Below W.heap.size W W') : ChE WM C v i f W' := ⟨h.bel.trans (hb.mono h.bel.size), h.map.below hb, own_below h.row hb (Nat.le_refl _)⟩
theorem ChE.put {WM W W' : World} {C : List Int} {v : Value} {i : Nat} {f g : Int → Bool} (h : ChE WM C v i f W) (hg : W.grownBy W' (some WM.heap.size)) (hm : BMap W' WM.heap.size (i + 1) g) : ChE WM C v (i + 1) g W' :=
  ⟨h.bel.grown hg h.bel.size (fun q hq => by injection hq with hq; omega), hm, own_same h.row fun k hk hl => hg.block k hl (fun e => by injection e with e; exact h.map.ne_ownE h.row (by rw [hk, e]))⟩
/-- A filled store, an expression in its box. -/
structure EcAt (w : World) (g : Nat) (v : Value) (D : List SK) (bx : Nat) (X : XE) (W : World) : Prop where
  sto : Sto w g v D W
  box : Blk W bx 37 [.int .i64 X.kd, .int .i64 X.n, X.mv, X.nv, X.kv]
  ok : okX 5 X W
theorem EcAt.below {w W W' : World} {g : Nat} {v : Value} {D : List SK} {bx : Nat} {X : XE} (h : EcAt w g v D bx X W) (hb : Below W.heap.size W W') : EcAt w g v D bx X W' := ⟨h.sto.below hb, h.box.below hb h.box.lt, okX_below hb _ _ h.ok⟩
theorem EcAt.ev {w W : World} {g : Nat} {v : Value} {k : KStore} {bx : Nat} {X : XE} (h : EcAt w g v (fillF k) bx X W) (hK : KeepT 5 2 X.pe) (t : Int) (ht : TOk t) : EvOk 5 X w g v (fillF k) t W :=
  ⟨h.ok, hK.small, hK.fits, h.sto, vok_fill k, lim_keep k 5 (by omega), ht⟩
theorem keepT_right {X : XE} (hK : KeepT 5 2 X.pe) : X.pe.right = true := by
  unfold PE.right; rw [hK.ty]; simp; have := hK.deep; omega
theorem EcAt.at {w W : World} {g : Nat} {v : Value} {k : KStore} {bx : Nat} {X : XE} (h : EcAt w g v (fillF k) bx X W) (hK : KeepT 5 2 X.pe) (t : Int) (ht : TOk t) :
    Calls Tryz.prog 10 #[.agg #[.int .i64 X.kd, .int .i64 X.n, X.mv, X.nv, X.kv], .pointer (some ⟨g, 0, none⟩), .int .i64 t] W (VAnsE (evalR (fillF k) t 5 X.pe).1 (evalR (fillF k) t 5 X.pe).2 W) :=
  at_x 5 (by omega) X w W g v (fillF k) t hK.small h.ok (fun _ => h.ev hK t ht)
theorem EcAt.chg {w W : World} {g : Nat} {v : Value} {k : KStore} {bx : Nat} {X : XE} (h : EcAt w g v (fillF k) bx X W) (hK : KeepT 5 2 X.pe) (a b : Int) :
    Calls Tryz.prog 13 #[.agg #[.int .i64 X.kd, .int .i64 X.n, X.mv, X.nv, X.kv], .pointer (some ⟨g, 0, none⟩), .int .i64 a, .int .i64 b] W (OwnAns 3 1 (chgX (fillF k) a b X.pe).length (ints (chgX (fillF k) a b X.pe)) W) :=
  changes_x 5 (by omega) X w W g v (fillF k) 0 a b (h.ev hK 0 ⟨by omega, by omega⟩) (keepT_right hK)
/-- The start of a law: boxes, a new store, filled; an expression. -/
structure EsAt (w : World) (kb xb : Nat) (k : KStore) (x : KSet) (W : World) : Prop where
  kbx : Blk W kb 51 [.slice k.A k.qs.length k.c, .slice k.A2 k.rs.length k.c2]
  xbx : Blk W xb 53 [.slice x.A x.n x.c, .slice x.A2 x.n2 x.c2]
  ko : k.ok w.heap.size W
  xo : x.ok w.heap.size W
  bel : Below w.heap.size w W
theorem EsAt.below {w W W' : World} {kb xb : Nat} {k : KStore} {x : KSet} (h : EsAt w kb xb k x W) (hb : Below W.heap.size W W') : EsAt w kb xb k x W' := ⟨h.kbx.below hb h.kbx.lt, h.xbx.below hb h.xbx.lt, h.ko.below (hb.mono h.bel.size), h.xo.below (hb.mono h.bel.size), h.bel.trans (hb.mono h.bel.size)⟩
theorem EsAt.start (w : World) (k : KStore) (x : KSet) (hk : k.ok w.heap.size w) (hx : x.ok w.heap.size w) : EsAt w w.heap.size (w.heap.size + 1) k x ((w.alloc (.cells #[.slice k.A k.qs.length k.c, .slice k.A2 k.rs.length k.c2] 51)).alloc (.cells #[.slice x.A x.n x.c, .slice x.A2 x.n2 x.c2] 53)) := by
  have h1 : (w.alloc (.cells #[.slice k.A k.qs.length k.c, .slice k.A2 k.rs.length k.c2] 51)).heap.size = w.heap.size + 1 := by simp
  have hb : Below w.heap.size w ((w.alloc (.cells #[.slice k.A k.qs.length k.c, .slice k.A2 k.rs.length k.c2] 51)).alloc (.cells #[.slice x.A x.n x.c, .slice x.A2 x.n2 x.c2] 53)) := ((Below.refl _ _).alloc (Nat.le_refl _) _).alloc (by simp) _
  refine ⟨(Blk.mk (heap_alloc_new w _)).alloc _, ?_, hk.below hb, hx.below hb, hb⟩
  have h := (Blk.mk (heap_alloc_new (w.alloc (.cells #[.slice k.A k.qs.length k.c, .slice k.A2 k.rs.length k.c2] 51)) (.cells #[.slice x.A x.n x.c, .slice x.A2 x.n2 x.c2] 53)) : Blk _ _ 53 [.slice x.A x.n x.c, .slice x.A2 x.n2 x.c2])
  rwa [h1] at h
theorem changes_len (d : Nat) (x : PE) (D : List SK) (a b : Int) (hD : DOk D) (ht : x.ty ≠ 0) (hd : x.deep ≤ d) (hl : lim D d ≤ 500) : (chgX D a b x).length ≤ 400000 := by
  have h1 := picks_le d x hd ht
  have h2 := compact_length_le (isort (x.picks.flatMap fun p => chgS D p.nOf a b p.msOf))
  rw [isort_len] at h2
  have key : ∀ l : List PE, (l.flatMap fun p => chgS D p.nOf a b p.msOf).length ≤ l.length * (400 * D.length) := by
    intro l
    induction l with
    | nil => simp
    | cons p l ih =>
      have h3 := chgS_len2 D p.nOf a b p.msOf hD
      rw [List.flatMap_cons, List.length_append, List.length_cons, Nat.succ_mul]
      omega
  have h3 := key x.picks
  have h4 : x.picks.length * (400 * D.length) ≤ 400000 := by
    cases d with
    | zero => exfalso; have := hd; obtain ⟨k, n, ms, ns, ks⟩ := x; unfold PE.deep at this; omega
    | succ d => exact lim_picks hl h1
  unfold chgX; omega
theorem tok_in {t : Int} (h1 : -1000 ≤ t) (h2 : t ≤ 1000) : TOk t := ⟨by omega, by omega⟩
set_option maxHeartbeats 8000000 in
theorem eval_changes (k : KStore) (x : KSet) (f0 n0 : Int) (w : World) (hk : k.ok w.heap.size w) (hx : x.ok w.heap.size w) (wf0 : I64 f0) (wn : I64 n0) :
    Calls Tryz.prog 5 #[k.val, x.val, .int .i64 f0, .int .i64 n0] w fun e w' => e = .returned (.bool true) ∧ Below w.heap.size w w' := by
  have HE0 := Lib.hid (EsAt.start w k x hk hx)
  have HG := Lib.hid (show ∃ g h, w.heap.size = g ∧ w.heap.size + 1 = h from ⟨_, _, rfl, rfl⟩)
  clear hk hx
  unfold KStore.val KSet.val
  go_enter Tryz.func5, Tryz.ntmps5
  go_upto_region 1 with fail
  obtain ⟨kb, xb, hkb, hxb⟩ := HG.out
  obtain ⟨W1, hW1⟩ : ∃ V, (w.alloc (.cells #[.slice k.A k.qs.length k.c, .slice k.A2 k.rs.length k.c2] 51)).alloc (.cells #[.slice x.A x.n x.c, .slice x.A2 x.n2 x.c2] 53) = V := ⟨_, rfl⟩
  have HE1 := Lib.hid (show EsAt w kb xb k x W1 by rw [← hkb, ← hxb, ← hW1]; exact HE0.out)
  rw [hW1, hxb, hkb]
  have HKB := Lib.hid hkb
  clear HE0 HG hkb hxb hW1
  go_wp2_with fail
  (with_reducible refine (snew_any W1).mono ?_); rintro e w1 ⟨rfl, rfl⟩
  have HS1 := Lib.hid (Sto.new (w0 := w) HE1.out.bel)
  obtain ⟨g1, hg1⟩ : ∃ g, W1.heap.size = g := ⟨_, rfl⟩
  obtain ⟨W2, hW2⟩ : ∃ V, W1.alloc (.cells #[.slice none 0 0] 81) = V := ⟨_, rfl⟩
  have hb2 : Below W1.heap.size W1 W2 := by rw [← hW2]; exact (Below.refl _ _).alloc (Nat.le_refl _) _
  rw [hW2] at HS1 ⊢
  have HS2 : Hid (Sto w g1 (.slice none 0 0) [] W2) := Lib.hid (by rw [← hg1]; exact HS1.out)
  rw [hg1]
  have HE2 := Lib.hid (HE1.out.below hb2)
  clear hW2 HS1 hg1 hb2 HE1
  have z0 := HE2.out.kbx.cell 0
  have z1 := HE2.out.kbx.cell 1
  simp only [List.getElem?_cons_zero, List.getElem?_cons_succ] at z0 z1
  have hmf : ∀ (fn : Fn) (first cap : Array Value) (w : World), (Instr.makeFunc fn first cap).run Tryz.prog w = .ok (.func fn first cap) w := fun _ _ _ _ => rfl
  have HFI := Lib.hid (fill_any k w g1 (.slice none 0 0) W2 HS2.out HE2.out.ko)
  unfold KStore.val at HFI
  go_wp2_with fail
  (with_reducible refine HFI.out.mono ?_); rintro e W4 ⟨v1, rfl, hS4, hT4, hw4⟩
  have HS4 := Lib.hid hS4
  have HXB := Lib.hid (HS2.out.blk hT4 HE2.out.xbx (by decide) (by decide))
  have hxo := HE2.out.xo.below (HS2.out.turned hT4)
  have HXO := Lib.hid (show x.ok W4.heap.size W4 from ⟨hxo.has_.more hS4.bel.size, hxo.hasI, hxo.n_, hxo.vals_.more hS4.bel.size, hxo.valsI, hxo.n2_⟩)
  clear hxo
  clear hS4 hT4 hw4 HS2 HE2 HFI z0 z1 hmf
  have z0 := HXB.out.cell 0
  have z1 := HXB.out.cell 1
  simp only [List.getElem?_cons_zero, List.getElem?_cons_succ] at z0 z1
  have HXA := Lib.hid (expr_any x W4 HXO.out)
  unfold KSet.val at HXA
  go_wp2_with fail
  (with_reducible refine HXA.out.mono ?_); rintro e W5 ⟨X, rfl, hkv, hxok, hb5⟩
  have HKT := Lib.hid (keepV_factsT 5 X hkv)
  obtain ⟨B1, b1, B2, b2, B3, b3, hv1, hv2, hv3⟩ := okX_forms hxok
  have hb6 := (Below.refl W5.heap.size W5).alloc (Nat.le_refl _) (.cells #[.int .i64 X.kd, .int .i64 X.n, X.mv, X.nv, X.kv] 37)
  have HE6 := Lib.hid (show EcAt w g1 v1 (fillF k) W5.heap.size X (W5.alloc (.cells #[.int .i64 X.kd, .int .i64 X.n, X.mv, X.nv, X.kv] 37)) from ⟨(HS4.out.below hb5).below hb6, Blk.mk (heap_alloc_new W5 _), okX_below hb6 _ _ hxok⟩)
  clear hkv hxok hb5 hb6 HXA HXO HXB HS4 z0 z1
  have HEV := Lib.hid (fun V bx (hV : EcAt w g1 v1 (fillF k) bx X V) t (ht : TOk t) => hV.at HKT.out t ht)
  have HCH := Lib.hid (fun V bx (hV : EcAt w g1 v1 (fillF k) bx X V) a b => hV.chg HKT.out a b)
  have HSM := Lib.hid (fun (f t z : Int) hz h1 h2 => evalR_same (D := fillF k) (f := f) (t := t) (z := z) (d := 5) (x := X.pe) (by rw [HKT.out.ty]; decide) hz h1 h2)
  have HBX := Lib.hid (fun V bx (hV : EcAt w g1 v1 (fillF k) bx X V) => show V.cell? ⟨bx, 0, none⟩ = some (.int .i64 X.kd) ∧ V.cell? ⟨bx, 1, none⟩ = some (.int .i64 X.n) ∧ V.cell? ⟨bx, 2, none⟩ = some (.slice B1 X.ms.length b1) ∧ V.cell? ⟨bx, 3, none⟩ = some (.slice B2 X.ns.length b2) ∧ V.cell? ⟨bx, 4, none⟩ = some (.slice B3 X.kids.length b3) from by
    have h := blk_cells5 hV.box
    rwa [hv1, hv2, hv3] at h)
  have HCOK := Lib.hid (fun a b => (chgX_ok (fillF k) a b X.pe).2)
  have HCIN := Lib.hid (fun a b => chgX_in (D := fillF k) (f := a) (t := b) (x := X.pe))
  have HCLN := Lib.hid (fun a b => show (chgX (fillF k) a b X.pe).length ≤ 400000 from by
    have h1 := changes_len 5 X.pe (fillF k) a b HE6.out.sto.dok (by rw [HKT.out.ty]; decide) HKT.out.deep (lim_keep k 5 (by omega))
    omega)
  clear HKT
  unfold XE.val
  rw [hv1, hv2, hv3] at HEV HCH HE6 ⊢
  clear hv1 hv2 hv3
  generalize X.kd = xk at *
  generalize X.n = xn at *
  generalize X.ms.length = l1 at *
  generalize X.ns.length = l2 at *
  generalize X.kids.length = l3 at *
  obtain ⟨EV2, hEV2⟩ : ∃ E : Int → List Pt × Int, (fun t => evalR (fillF k) t 5 X.pe) = E := ⟨_, rfl⟩
  have hEV3 : ∀ t, evalR (fillF k) t 5 X.pe = EV2 t := fun t => by rw [← hEV2]
  simp only [hEV3] at HEV HSM
  clear hEV2 hEV3
  obtain ⟨CX, hCX⟩ : ∃ C : Int → Int → List Int, (fun a b => chgX (fillF k) a b X.pe) = C := ⟨_, rfl⟩
  have hCX2 : ∀ a b, chgX (fillF k) a b X.pe = CX a b := fun a b => by rw [← hCX]
  simp only [hCX2] at HCH HSM HCOK HCIN HCLN
  clear hCX hCX2
  go_upto_region 5 with fail
  obtain ⟨bx, hbx⟩ : ∃ b, W5.heap.size = b := ⟨_, rfl⟩
  obtain ⟨W6, hW6⟩ : ∃ V, W5.alloc (.cells #[.int .i64 xk, .int .i64 xn, .slice B1 l1 b1, .slice B2 l2 b2, .slice B3 l3 b3] 37) = V := ⟨_, rfl⟩
  rw [hbx, hW6] at HE6
  rw [hW6, hbx]
  clear hbx hW6
  have hab := nWithin_in f0 (lo := 1) (hi := 200) (by omega)
  have hnb := nWithin_in n0 (lo := 0) (hi := 90) (by omega)
  have HW1 := Lib.hid (fun V => within_any f0 1 200 V wf0 (by omega) (by omega) (by omega))
  have HW2 := Lib.hid (fun V => within_any n0 0 90 V wn (by omega) (by omega) (by omega))
  generalize nWithin f0 1 200 = a at *
  generalize nWithin n0 0 90 = n at *
  go_wp2_with fail
  (with_reducible refine (HW1.out _).mono ?_); rintro e w' ⟨rfl, rfl⟩
  go_wp2_with fail
  (with_reducible refine (HW2.out _).mono ?_); rintro e w' ⟨rfl, rfl⟩
  clear HW1 HW2
  have hmm := @run_makeMap Tryz.prog
  go_upto_region 8 with fail
  clear hmm
  obtain ⟨b, hb⟩ : ∃ b, a + n = b := ⟨_, rfl⟩
  rw [hb]
  have hbb : a ≤ b ∧ b ≤ 290 := by omega
  clear hb
  have HBM := Lib.hid (BMap.made W6)
  have hbm : Below W6.heap.size W6 (W6.alloc (.map #[] 0)) := (Below.refl _ _).alloc (Nat.le_refl _) _
  have HSV : Hid (∀ V, Below W6.heap.size W6 V → EcAt w g1 v1 (fillF k) bx X V) := Lib.hid fun V hV => HE6.out.below hV
  have HCC := Lib.hid (HCH.out _ _ (HSV.out _ hbm) a b)
  obtain ⟨z0, z1, z2, z3, z4⟩ := HBX.out _ _ (HSV.out _ hbm)
  have HBM0 := Lib.hid hbm
  have HCP := Lib.hid (HCOK.out a b); have HCI := Lib.hid (HCIN.out a b); have hclen := HCLN.out a b; have HSA := Lib.hid (HSM.out a b)
  clear hbm HE6 HCOK HCIN HCLN HSM HCH
  obtain ⟨C, hC⟩ : ∃ C, CX a b = C := ⟨_, rfl⟩
  rw [hC] at HCC HCP HCI hclen HSA
  clear hC CX
  go_wp2_with fail
  (with_reducible refine HCC.out.mono ?_); rintro e W7 ⟨A7, c7, rfl, hown7, hb7, hc7, hd7⟩
  have HC7 : Hid (ChE W6 C (.slice A7 C.length c7) 0 (fun _ => false) W7) := Lib.hid ⟨HBM0.out.trans (hb7.mono HBM0.out.size), HBM.out.below hb7, own_mono hown7 (Nat.zero_le _)⟩
  obtain ⟨nc, hnc⟩ : ∃ n, C.length = n := ⟨_, rfl⟩
  have HNC := Lib.hid hnc
  rw [hnc] at HC7 hclen hc7 ⊢
  clear hown7 hb7 HCC HBM HBM0 hnc z0 z1 z2 z3 z4
  obtain ⟨mb, hmb⟩ : ∃ m, W6.heap.size = m := ⟨_, rfl⟩
  have HMB := Lib.hid hmb
  try rw [hmb]
  clear hmb
  go_wp2_with fail
  go_loopg [46] nc (fun gg x46 wx => ∃ (i : Nat) (f : Int → Bool), i + gg = nc ∧ x46 = .int .i64 i ∧ (∀ y, f y = true ↔ y ∈ C.take i) ∧ ChE W6 C (.slice A7 nc c7) i f wx)
  case atStart => exact ⟨0, fun _ => false, by omega, rfl, fun y => by simp, HC7.out⟩
  case round =>
    obtain ⟨i, f, hig, rfl, hf, hch⟩ := hrel
    have HCA := Lib.hid hch; have HF := Lib.hid hf
    clear hch hf HC7
    cases gk with
    | succ gg =>
      have hin : i < nc := by omega
      have hil : i < C.length := by rw [HNC.out]; exact hin
      have hrow := HCA.out.row
      rw [HNC.out] at hrow
      obtain ⟨adc, hjl, hAc, d0⟩ := (Sees.of_own hrow).int hin
      clear hrow
      subst hAc
      have hyb := HCI.out C[i] (List.getElem_mem _)
      have HTN : Hid (C.take (i + 1) = C.take i ++ [C[i]]) := Lib.hid (List.take_succ_eq_append_getElem hil)
      generalize C[i] = y at *
      have hy64 : I64 y := by unfold I64; omega
      obtain ⟨w8, hrun, hm8, hg8⟩ := HCA.out.map.put (by omega) hy64
      have HRUN := Lib.hid hrun
      have HC8 := Lib.hid (HCA.out.put hg8 hm8)
      have HFN : Hid (∀ x, (x == y || f x) = true ↔ x ∈ C.take (i + 1)) := Lib.hid fun x => by
        rw [HTN.out, List.mem_append, List.mem_singleton, ← HF.out x]
        simp only [Bool.or_eq_true, beq_iff_eq]
        exact ⟨fun h => h.symm, fun h => h.symm⟩
      rw [HMB.out] at HRUN
      clear hrun hm8 hg8 HTN HF
      go_wp2_with (at_mapUpdate; refine wpList_put_bmap rfl (.tmp 50) (.tmp 51) (.const (.bool true)) 70 rfl (.map (some mb)) (.int .i64 y) (.bool true) rfl rfl rfl w8 HRUN.out ?_)
      go_wp2_with fail
      go_roundg gg
      case measure => omega
      case rel => exact ⟨i + 1, _, by omega, by go_num, HFN.out, HC8.out⟩
    | zero =>
      obtain rfl : i = nc := by omega
      have HFC : Hid (∀ y, f y = true ↔ y ∈ C) := Lib.hid fun y => by rw [HF.out y, List.take_of_length_le (by rw [HNC.out]; exact Nat.le_refl _)]
      clear HF
      obtain ⟨m2, hm2⟩ : ∃ m : Nat, (m : Int) = b + 1 - a := ⟨(b + 1 - a).toNat, by omega⟩
      obtain ⟨z0, z1, z2, z3, z4⟩ := HBX.out _ _ (HSV.out _ HCA.out.bel)
      go_wp2_with fail
      (with_reducible refine (HEV.out _ _ (HSV.out _ HCA.out.bel) (a - 1) (tok_in (by omega) (by omega))).mono ?_); rintro e W8 ⟨sv, rfl, hsv, hb8⟩
      have HCA8 := Lib.hid (HCA.out.below hb8); have HV8 := Lib.hid hsv
      obtain ⟨SA, sn, sc, rfl⟩ := hsv.form
      clear hsv hb8 HCA z0 z1 z2 z3 z4
      go_wp2_with fail
      go_loopg [16, 17, 18] m2 (fun gg x16 x17 x18 wx => ∃ (tt : Int) (TA : Option Addr) (tn tc : Nat), tt + gg = b + 1 ∧ x18 = .int .i64 tt ∧ a ≤ tt ∧ x16 = .slice TA tn tc ∧ x17 = .int .i64 (EV2 (tt - 1)).2 ∧ VAt (EV2 (tt - 1)).1 (.slice TA tn tc) wx ∧ ChE W6 C (.slice A7 i c7) i f wx)
      case atStart => exact ⟨a, SA, sn, sc, by omega, rfl, by omega, rfl, rfl, HV8.out, HCA8.out⟩
      case round =>
        obtain ⟨tt, TA, tn, tc, htg, rfl, hta, rfl, rfl, hvt, hch⟩ := hrel
        have HCB := Lib.hid hch; have HVT := Lib.hid hvt
        clear hch hvt HCA8 HV8
        cases gk with
        | zero =>
          have hbt : ¬ tt ≤ b := by omega
          clear HEV HSA
          generalize EV2 (tt - 1) = r at *
          go_wp2_with fail
          (with_reducible refine (eval_runs _).mono ?_); rintro e WE ⟨rfl, hbE⟩
          have HBE := Lib.hid ((HSV.out _ (HCB.out.below hbE).bel).sto.bel)
          clear hbE HCB
          go_wp2_with fail
          go_ret
          exact ⟨rfl, HBE.out⟩
        | succ gg =>
          have hbt : tt ≤ b := by omega
          have HAT := Lib.hid (HEV.out _ _ (HSV.out _ HCB.out.bel) tt (tok_in (by omega) (by omega)))
          obtain ⟨z0, z1, z2, z3, z4⟩ := HBX.out _ _ (HSV.out _ HCB.out.bel)
          have HSQ := Lib.hid (HSA.out tt)
          have HES := Lib.hid (show EV2 (tt + 1 - 1) = EV2 tt by rw [show tt + 1 - 1 = tt by omega])
          clear HEV HSA
          generalize EV2 tt = r2 at *
          generalize EV2 (tt - 1) = r1 at *
          obtain ⟨L1, e1⟩ := r1
          obtain ⟨L2, e2⟩ := r2
          simp only at HAT HVT
          go_wp2_with fail
          (with_reducible refine HAT.out.mono ?_); rintro e W9 ⟨s9, rfl, hs9, hb9⟩
          have HCC := Lib.hid (HCB.out.below hb9); have HV9 := Lib.hid hs9; have HVU := Lib.hid (HVT.out.below hb9)
          obtain ⟨A9, n9, c9, rfl⟩ := hs9.form
          clear hs9 hb9 HCB HVT HAT z0 z1 z2 z3 z4
          have hlk := HCC.out.map.look (t := tt) (by unfold I64; omega)
          rw [HMB.out] at hlk
          cases hft : f tt with
          | true =>
            rw [hft] at hlk
            clear hft HSQ
            go_wp2_with fail
            go_roundg gg
            case measure => omega
            case rel => exact ⟨tt + 1, A9, n9, c9, by omega, by go_num, by omega, rfl, by rw [HES.out], by rw [HES.out]; exact HV9.out, HCC.out⟩
          | false =>
            rw [hft] at hlk
            have hsq := HSQ.out (fun h => by rw [(HFC.out tt).2 h] at hft; cases hft) hta hbt
            injection hsq with hs1 hs2
            subst hs1; subst hs2
            have HPT := Lib.hid (points_v HVU.out HV9.out)
            rw [decide_eq_true rfl] at HPT
            clear hft HSQ HVU
            go_wp2_with fail
            (with_reducible refine HPT.out.mono ?_); rintro e WB ⟨rfl, hbB⟩
            have HCE := Lib.hid (HCC.out.below hbB); have HVB := Lib.hid (HV9.out.below hbB)
            clear hbB HPT HCC HV9 hlk
            go_wp2_with fail
            go_roundg gg
            case measure => omega
            case rel => exact ⟨tt + 1, A9, n9, c9, by omega, by go_num, by omega, rfl, by rw [HES.out], by rw [HES.out]; exact HVB.out, HCE.out⟩
end Go.Proofs.YtlmakdclebbbkaaGreat
