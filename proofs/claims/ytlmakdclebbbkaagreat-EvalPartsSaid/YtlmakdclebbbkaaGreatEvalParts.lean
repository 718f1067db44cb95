/- Pruned. -/
import Derived.Test.YtlmakdclebbbkaaGreatBase50
import Derived.Test.YtlmakdclebbbkaaGreatBase13
import Derived.Test.YtlmakdclebbbkaaGreatBase20
import Derived.Test.YtlmakdclebbbkaaGreatBase44
import Derived.Test.YtlmakdclebbbkaaGreatBase46
namespace Go.Proofs.YtlmakdclebbbkaaGreat
open Go.ChangeShapes Go.WideShapes Go.ChangeAt Go.RowKit Go.Lib
set_option linter.unusedVariables false
set_option linter.unusedSimpArgs false
set_option maxRecDepth 100000
structure EtAt (u : World) (kb g1 g2 : Nat) (kst : KStore) (k1 k2 : KSet) (W : World) : Prop where
  kbx : Blk W kb 51 [.slice kst.A kst.qs.length kst.c, .slice kst.A2 kst.rs.length kst.c2]
  b1 : Blk W g1 53 [.slice k1.A k1.n k1.c, .slice k1.A2 k1.n2 k1.c2]
  b2 : Blk W g2 53 [.slice k2.A k2.n k2.c, .slice k2.A2 k2.n2 k2.c2]
  ko : kst.ok u.heap.size W
  o1 : k1.ok u.heap.size W
  o2 : k2.ok u.heap.size W
  bel : Below u.heap.size u W
theorem EtAt.below {u W W' : World} {kb g1 g2 : Nat} {kst : KStore} {k1 k2 : KSet} (h : EtAt u kb g1 g2 kst k1 k2 W) (hb : Below W.heap.size W W') : EtAt u kb g1 g2 kst k1 k2 W' :=
  have hs := hb.mono h.bel.size
  ⟨h.kbx.below hb h.kbx.lt, h.b1.below hb h.b1.lt, h.b2.below hb h.b2.lt, h.ko.below hs, h.o1.below hs, h.o2.below hs, h.bel.trans hs⟩
theorem EtAt.start (u : World) (kst : KStore) (k1 k2 : KSet) (hk : kst.ok u.heap.size u) (h1 : k1.ok u.heap.size u) (h2 : k2.ok u.heap.size u) : EtAt u u.heap.size (u.heap.size + 1) (u.heap.size + 1 + 1) kst k1 k2 (((u.alloc (.cells #[.slice kst.A kst.qs.length kst.c, .slice kst.A2 kst.rs.length kst.c2] 51)).alloc (.cells #[.slice k1.A k1.n k1.c, .slice k1.A2 k1.n2 k1.c2] 53)).alloc (.cells #[.slice k2.A k2.n k2.c, .slice k2.A2 k2.n2 k2.c2] 53)) := by
  have e1 : (u.alloc (.cells #[.slice kst.A kst.qs.length kst.c, .slice kst.A2 kst.rs.length kst.c2] 51)).heap.size = u.heap.size + 1 := by simp
  have e2 : ((u.alloc (.cells #[.slice kst.A kst.qs.length kst.c, .slice kst.A2 kst.rs.length kst.c2] 51)).alloc (.cells #[.slice k1.A k1.n k1.c, .slice k1.A2 k1.n2 k1.c2] 53)).heap.size = u.heap.size + 1 + 1 := by simp
  have hb : Below u.heap.size u (((u.alloc (.cells #[.slice kst.A kst.qs.length kst.c, .slice kst.A2 kst.rs.length kst.c2] 51)).alloc (.cells #[.slice k1.A k1.n k1.c, .slice k1.A2 k1.n2 k1.c2] 53)).alloc (.cells #[.slice k2.A k2.n k2.c, .slice k2.A2 k2.n2 k2.c2] 53)) := (((Below.refl _ _).alloc (Nat.le_refl _) _).alloc (by simp) _).alloc (by simp; omega) _
  refine ⟨((Blk.mk (heap_alloc_new u _)).alloc _).alloc _, ?_, ?_, hk.below hb, h1.below hb, h2.below hb, hb⟩
  · have h := (Blk.mk (heap_alloc_new (u.alloc (.cells #[.slice kst.A kst.qs.length kst.c, .slice kst.A2 kst.rs.length kst.c2] 51)) (.cells #[.slice k1.A k1.n k1.c, .slice k1.A2 k1.n2 k1.c2] 53)) : Blk _ _ 53 [.slice k1.A k1.n k1.c, .slice k1.A2 k1.n2 k1.c2])
    rw [e1] at h
    exact h.alloc _
  · have h := (Blk.mk (heap_alloc_new ((u.alloc (.cells #[.slice kst.A kst.qs.length kst.c, .slice kst.A2 kst.rs.length kst.c2] 51)).alloc (.cells #[.slice k1.A k1.n k1.c, .slice k1.A2 k1.n2 k1.c2] 53)) (.cells #[.slice k2.A k2.n k2.c, .slice k2.A2 k2.n2 k2.c2] 53)) : Blk _ _ 53 [.slice k2.A k2.n k2.c, .slice k2.A2 k2.n2 k2.c2])
    rwa [e2] at h
theorem kset_up {k : KSet} {B B' : Nat} {w : World} (h : k.ok B w) (hB : B ≤ B') : k.ok B' w := ⟨h.has_.more hB, h.hasI, h.n_, h.vals_.more hB, h.valsI, h.n2_⟩
def zX (c : Int) (bk : Nat) (X Y : XE) : XE := .mk c 0 (.slice none 0 0) [] (.slice none 0 0) [] (.slice (some ⟨bk, 0, none⟩) 2 2) [X, Y]
theorem zX_pe (c : Int) (bk : Nat) (X Y : XE) : (zX c bk X Y).pe = .mk c 0 [] [] [X.pe, Y.pe] := rfl
theorem slc_nilP (w : World) (size : Nat) : Slc w size (.slice none 0 0) 0 [] := ⟨none, 0, rfl, Sees.nil, Nat.le_refl _, by omega⟩
theorem zX_ok {W : World} {c : Int} {bk : Nat} {X Y : XE} (hk : Sees W W.heap.size 5 (some ⟨bk, 0, none⟩) 2 (kcells [X, Y])) (hx : okX 5 X W) (hy : okX 5 Y W) : okX 6 (zX c bk X Y) W := by
  refine ⟨slc_nilP _ _, slc_nilP _ _, ⟨_, 2, rfl, hk, Nat.le_refl _, by omega⟩, fun q hq => ?_⟩
  have hq : q ∈ [X, Y] := hq
  rcases List.mem_cons.1 hq with rfl | hq
  · exact hx
  · rw [List.mem_singleton] at hq; subst hq; exact hy
structure EpAt (u : World) (gs : Nat) (v : Value) (D : List SK) (g q zb bk : Nat) (c : Int) (X Y : XE) (W : World) : Prop where
  sto : Sto u gs v D W
  bx : Blk W g 37 [.int .i64 X.kd, .int .i64 X.n, X.mv, X.nv, X.kv]
  by_ : Blk W q 37 [.int .i64 Y.kd, .int .i64 Y.n, Y.mv, Y.nv, Y.kv]
  bz : Blk W zb 37 [.int .i64 c, .int .i64 0, .slice none 0 0, .slice none 0 0, .slice (some ⟨bk, 0, none⟩) 2 2]
  ox : okX 5 X W
  oy : okX 5 Y W
  oz : okX 6 (zX c bk X Y) W
theorem EpAt.below {u W W' : World} {gs : Nat} {v : Value} {D : List SK} {g q zb bk : Nat} {c : Int} {X Y : XE} (h : EpAt u gs v D g q zb bk c X Y W) (hb : Below W.heap.size W W') : EpAt u gs v D g q zb bk c X Y W' :=
  ⟨h.sto.below hb, h.bx.below hb h.bx.lt, h.by_.below hb h.by_.lt, h.bz.below hb h.bz.lt, okX_below hb _ _ h.ox, okX_below hb _ _ h.oy, okX_below hb _ _ h.oz⟩
theorem evalR_good {D : List SK} (hD : DOk D) (hv : VOk D) (t : Int) (d : Nat) (x : PE) (hf : x.fits) (hl : lim D d ≤ 500) : Fine (evalR D t d x).1 ∧ (evalR D t d x).1.length ≤ 500 := by
  unfold evalR
  split
  · obtain ⟨h1, h2, _⟩ := comF_good hD hv t d x hf (by omega)
    exact ⟨h1.fine, Nat.le_trans h2 hl⟩
  · exact ⟨Fine.nil, Nat.zero_le _⟩
theorem lim_keep6 (k : KStore) : lim (fillF k) 6 ≤ 500 := by
  have h := fill_len k
  simp only [lim]; omega
section
variable {u W : World} {gs : Nat} {v : Value} {k : KStore} {g q zb bk : Nat} {c : Int} {X Y : XE}
theorem EpAt.evX (h : EpAt u gs v (fillF k) g q zb bk c X Y W) (hK : KeepT 5 2 X.pe) (t : Int) (ht : TOk t) : EvOk 5 X u gs v (fillF k) t W := ⟨h.ox, hK.small, hK.fits, h.sto, vok_fill k, lim_keep k 5 (by omega), ht⟩
theorem EpAt.evY (h : EpAt u gs v (fillF k) g q zb bk c X Y W) (hK : KeepT 5 2 Y.pe) (t : Int) (ht : TOk t) : EvOk 5 Y u gs v (fillF k) t W := ⟨h.oy, hK.small, hK.fits, h.sto, vok_fill k, lim_keep k 5 (by omega), ht⟩
theorem EpAt.evZ (h : EpAt u gs v (fillF k) g q zb bk c X Y W) (hK : KeepT 6 2 (zX c bk X Y).pe) (t : Int) (ht : TOk t) : EvOk 6 (zX c bk X Y) u gs v (fillF k) t W := ⟨h.oz, hK.small, hK.fits, h.sto, vok_fill k, lim_keep6 k, ht⟩
end
def TwoQ (C1 C2 : List Int) (b : Nat) (S1 : Option Addr) (d1 : Nat) (S2 : Option Addr) (d2 : Nat) (W : World) : Prop := Blk W b 45 [.slice S1 C1.length d1, .slice S2 C2.length d2] ∧ W.ownsRow 0 3 1 (.slice S1 C1.length d1) C1.length (ints C1) ∧ W.ownsRow 0 3 1 (.slice S2 C2.length d2) C2.length (ints C2)
theorem TwoQ.below {C1 C2 : List Int} {b d1 d2 : Nat} {S1 S2 : Option Addr} {W W' : World} (h : TwoQ C1 C2 b S1 d1 S2 d2 W) (hb : Below W.heap.size W W') : TwoQ C1 C2 b S1 d1 S2 d2 W' := ⟨h.1.below hb h.1.lt, own_below h.2.1 hb (Nat.le_refl _), own_below h.2.2 hb (Nat.le_refl _)⟩
def TwoR (C1 C2 : List Int) (b : Nat) (W : World) : Prop := ∃ S1 d1 S2 d2, Blk W b 45 [.slice S1 C1.length d1, .slice S2 C2.length d2] ∧ W.ownsRow 0 3 1 (.slice S1 C1.length d1) C1.length (ints C1) ∧ W.ownsRow 0 3 1 (.slice S2 C2.length d2) C2.length (ints C2) ∧ C1.length ≤ d1 ∧ d1 ≤ 9223372036854775807 ∧ C2.length ≤ d2 ∧ d2 ≤ 9223372036854775807
theorem TwoR.below {C1 C2 : List Int} {b : Nat} {W W' : World} (h : TwoR C1 C2 b W) (hb : Below W.heap.size W W') : TwoR C1 C2 b W' := by
  obtain ⟨S1, d1, S2, d2, h1, h2, h3, h4⟩ := h
  exact ⟨S1, d1, S2, d2, h1.below hb h1.lt, own_below h2 hb (Nat.le_refl _), own_below h3 hb (Nat.le_refl _), h4⟩
theorem TwoR.made {C1 C2 : List Int} {W : World} {S1 S2 : Option Addr} {m1 d1 m2 d2 : Nat} (r1 : W.ownsRow 0 3 1 (.slice S1 m1 d1) m1 (ints C1)) (r2 : W.ownsRow 0 3 1 (.slice S2 m2 d2) m2 (ints C2)) (l1 : C1.length = m1) (l2 : C2.length = m2) (k1 : m1 ≤ d1) (k2 : m2 ≤ d2) (j1 : d1 ≤ 9223372036854775807) (j2 : d2 ≤ 9223372036854775807) :
    TwoR C1 C2 W.heap.size (W.alloc (.cells #[.slice S1 m1 d1, .slice S2 m2 d2] 45)) := by
  subst l1; subst l2
  have hb : Below W.heap.size W (W.alloc (.cells #[.slice S1 C1.length d1, .slice S2 C2.length d2] 45)) := (Below.refl _ _).alloc (Nat.le_refl _) _
  exact ⟨S1, d1, S2, d2, Blk.mk (heap_alloc_new W _), own_below r1 hb (Nat.le_refl _), own_below r2 hb (Nat.le_refl _), k1, j1, k2, j2⟩
structure PaAt (WM : World) (CX CY : List Int) (b : Nat) (S1 : Option Addr) (d1 : Nat) (S2 : Option Addr) (d2 : Nat) (n : Nat) (K : List Int) (W : World) : Prop where
  bel : Below WM.heap.size WM W
  map : ∃ f m, BSet W WM.heap.size n f m ∧ KeyL f m K
  two : TwoQ CX CY b S1 d1 S2 d2 W
section
variable {WM W W' : World} {CX CY : List Int} {b n d1 d2 : Nat} {S1 S2 : Option Addr} {K : List Int}
theorem PaAt.below (h : PaAt WM CX CY b S1 d1 S2 d2 n K W) (hb : Below W.heap.size W W') : PaAt WM CX CY b S1 d1 S2 d2 n K W' := by
  obtain ⟨f, m, h1, h2⟩ := h.map
  exact ⟨h.bel.trans (hb.mono h.bel.size), ⟨f, m, h1.below hb, h2⟩, h.two.below hb⟩
theorem PaAt.put (h : PaAt WM CX CY b S1 d1 S2 d2 n K W) (hn : n < 1000000) {t : Int} (ht : I64 t) :
    ∃ w' K', (Instr.mapUpdate 70 (.map (some WM.heap.size)) (.int .i64 t) (.bool true)).run Tryz.prog W = .ok () w' ∧ PaAt WM CX CY b S1 d1 S2 d2 (n + 1) K' w' ∧ ∀ x, x ∈ K' ↔ x = t ∨ x ∈ K := by
  obtain ⟨f, m, h1, h2⟩ := h.map
  obtain ⟨w', hrun, h3, hg⟩ := h1.put hn ht
  obtain ⟨K', h4, h5⟩ := h2.put t
  obtain ⟨q1, q2, q3⟩ := h.two
  have hne : some b ≠ some WM.heap.size := fun e => by
    injection e with e
    exact h1.bmap.kindE _ _ _ (by rw [← e]; exact q1.eq)
  exact ⟨w', K', hrun, ⟨h.bel.grown hg h.bel.size (fun q hq => by injection hq with hq; omega), ⟨_, _, h3, h4⟩, q1.grown hg hne,
    own_same q2 (fun k hk hl => hg.block k hl (fun e => by injection e with e; exact h1.bmap.ne_ownE q2 (by rw [hk, e]))),
    own_same q3 (fun k hk hl => hg.block k hl (fun e => by injection e with e; exact h1.bmap.ne_ownE q3 (by rw [hk, e])))⟩, h5⟩
end
set_option maxHeartbeats 8000000 in
theorem eval_parts (kst : KStore) (k1 k2 : KSet) (kd t0 : Int) (u : World) (hk : kst.ok u.heap.size u) (o1 : k1.ok u.heap.size u) (o2 : k2.ok u.heap.size u) (wk : I64 kd) (wt : I64 t0) :
    Calls Tryz.prog 7 #[kst.val, k1.val, k2.val, .int .i64 kd, .int .i64 t0] u fun e w' => e = .returned (.bool true) ∧ Below u.heap.size u w' := by
  have HE0 := Lib.hid (EtAt.start u kst k1 k2 hk o1 o2)
  have HG := Lib.hid (show ∃ g h q, u.heap.size = g ∧ u.heap.size + 1 = h ∧ u.heap.size + 1 + 1 = q from ⟨_, _, _, rfl, rfl, rfl⟩)
  clear hk o1 o2
  unfold KStore.val KSet.val
  go_enter Tryz.func7, Tryz.ntmps7
  go_upto_region 1 with fail
  obtain ⟨kb, g1, g2, hkb, hg1, hg2⟩ := HG.out
  obtain ⟨W1, hW1⟩ : ∃ V, ((u.alloc (.cells #[.slice kst.A kst.qs.length kst.c, .slice kst.A2 kst.rs.length kst.c2] 51)).alloc (.cells #[.slice k1.A k1.n k1.c, .slice k1.A2 k1.n2 k1.c2] 53)).alloc (.cells #[.slice k2.A k2.n k2.c, .slice k2.A2 k2.n2 k2.c2] 53) = V := ⟨_, rfl⟩
  have HE1 := Lib.hid (show EtAt u kb g1 g2 kst k1 k2 W1 by rw [← hkb, ← hg1, ← hg2, ← hW1]; exact HE0.out)
  rw [hW1]
  try rw [hg2]
  try rw [show u.heap.size + 2 = g2 by omega]
  rw [hg1, hkb]
  clear HE0 HG hkb hg1 hg2 hW1
  go_wp2_with fail
  (with_reducible refine (snew_any W1).mono ?_); rintro e w1 ⟨rfl, rfl⟩
  have HS1 := Lib.hid (Sto.new (w0 := u) HE1.out.bel)
  obtain ⟨gs, hgs⟩ : ∃ g, W1.heap.size = g := ⟨_, rfl⟩
  obtain ⟨W2, hW2⟩ : ∃ V, W1.alloc (.cells #[.slice none 0 0] 81) = V := ⟨_, rfl⟩
  have hb2 : Below W1.heap.size W1 W2 := by rw [← hW2]; exact (Below.refl _ _).alloc (Nat.le_refl _) _
  rw [hW2] at HS1 ⊢
  have HS2 : Hid (Sto u gs (.slice none 0 0) [] W2) := Lib.hid (by rw [← hgs]; exact HS1.out)
  rw [hgs]
  have HE2 := Lib.hid (HE1.out.below hb2)
  clear hW2 HS1 hgs hb2 HE1
  have z0 := HE2.out.kbx.cell 0
  have z1 := HE2.out.kbx.cell 1
  simp only [List.getElem?_cons_zero, List.getElem?_cons_succ] at z0 z1
  have hmf : ∀ (fn : Fn) (first cap : Array Value) (w : World), (Instr.makeFunc fn first cap).run Tryz.prog w = .ok (.func fn first cap) w := fun _ _ _ _ => rfl
  have HFI := Lib.hid (fill_any kst u gs (.slice none 0 0) W2 HS2.out HE2.out.ko)
  unfold KStore.val at HFI
  go_wp2_with fail
  (with_reducible refine HFI.out.mono ?_); rintro e w ⟨v1, rfl, hS4, hT4, hw4⟩
  have HS4 := Lib.hid hS4
  have hup := hS4.bel.size
  have HP0 : Hid (∀ vs, PairI w k1 k2 g1 g2 (fun _ => false) vs w) := Lib.hid (PairI.start (Below.refl _ _) (HS2.out.blk hT4 HE2.out.b1 (by decide) (by decide)) (HS2.out.blk hT4 HE2.out.b2 (by decide) (by decide)) (kset_up (HE2.out.o1.below (HS2.out.turned hT4)) hup) (kset_up (HE2.out.o2.below (HS2.out.turned hT4)) hup))
  clear hS4 hT4 hw4 HS2 HE2 HFI z0 z1 hmf hup
  go_upto_region 4 with fail
  refine wp_region_inv_tail 6 (I := PairI w k1 k2 g1 g2) (by kernel_rfl) (by kernel_rfl) (by kernel_rfl) (by kernel_rfl) (by kernel_rfl) (by decide) (by kernel_rfl) ?hI ⟨?o0, ?o1, ?o2, ?o3, ?o4, ?o5, trivial⟩ ?hend
  case hI => exact fun vs => (HP0.out vs).below (Below.refl _ _).drew
  case o0 =>
    intro a w9 L hfr hI hs
    refine ⟨fun hw => ?_, fun hw => absurd hw (by simp [Region.wanted])⟩
    have sA : a.tmps.getD 6 undef = .pointer (some ⟨g1, 0, none⟩) := hfr.at 6 (by kernel_rfl)
    have z0 := hI.b1.cell 0
    have z1 := hI.b1.cell 1
    simp only [List.getElem?_cons_zero, List.getElem?_cons_succ] at z0 z1
    refine opi_yields k1.val ?_ hI.op0
    unfold KSet.val
    simp only [execOp, resolve, List.map_toArray, List.map_cons, List.map_nil, Act.eval, sA, z0, z1]; simp [go_sem, -Array.getD_eq_getD_getElem?, sA, z0, z1]
  case o2 =>
    intro a w9 L hfr hI hs
    refine ⟨fun hw => ?_, fun hw => absurd hw (by simp [Region.wanted])⟩
    have sA : a.tmps.getD 7 undef = .pointer (some ⟨g2, 0, none⟩) := hfr.at 7 (by kernel_rfl)
    have z0 := hI.b2.cell 0
    have z1 := hI.b2.cell 1
    simp only [List.getElem?_cons_zero, List.getElem?_cons_succ] at z0 z1
    refine opi_yields k2.val ?_ hI.op2
    unfold KSet.val
    simp only [execOp, resolve, List.map_toArray, List.map_cons, List.map_nil, Act.eval, sA, z0, z1]; simp [go_sem, -Array.getD_eq_getD_getElem?, sA, z0, z1]
  case o1 =>
    intro a w9 L hfr hI hs
    refine ⟨fun hw => ?_, fun hw => absurd hw (by simp [Region.wanted])⟩
    have sT : a.tmps.getD 43 undef = k1.val := hI.v0 (hs.done (by decide) 0 (by kernel_rfl))
    refine opi_calls2 ((expr_any k1 w9 (hI.o1.up hI.bel.size)).mono fun e' w' hh => ?_) ?_
    · obtain ⟨x, rfl, hk, hx, hb⟩ := hh; exact ⟨_, rfl, hI.op1 hb hk hx⟩
    · simp only [execOp, resolve, List.map_toArray, List.map_cons, List.map_nil, Act.eval, sT]; simp [go_sem, -Array.getD_eq_getD_getElem?, sT]
  case o3 =>
    intro a w9 L hfr hI hs
    refine ⟨fun hw => ?_, fun hw => absurd hw (by simp [Region.wanted])⟩
    have sT : a.tmps.getD 45 undef = k2.val := hI.v2 (hs.done (by decide) 2 (by kernel_rfl))
    refine opi_calls2 ((expr_any k2 w9 (hI.o2.up hI.bel.size)).mono fun e' w' hh => ?_) ?_
    · obtain ⟨x, rfl, hk, hx, hb⟩ := hh; exact ⟨_, rfl, hI.op3 hb hk hx⟩
    · simp only [execOp, resolve, List.map_toArray, List.map_cons, List.map_nil, Act.eval, sT]; simp [go_sem, -Array.getD_eq_getD_getElem?, sT]
  case o4 =>
    intro a w9 L hfr hI hs
    refine ⟨fun hw => ?_, fun hw => absurd hw (by simp [Region.wanted])⟩
    refine opi_yields (w' := w9.alloc (.cells #[.int .i64 0, .int .i64 0, .slice none 0 0, .slice none 0 0, .slice none 0 0] 37)) (.pointer (some ⟨w9.heap.size, 0, none⟩)) ?_ hI.op4
    simp only [execOp, resolve, List.map_toArray, List.map_cons, List.map_nil, Act.eval]; simp [go_sem, -Array.getD_eq_getD_getElem?]
  case o5 =>
    intro a w9 L hfr hI hs
    refine ⟨fun hw => ?_, fun hw => absurd hw (by simp [Region.wanted])⟩
    refine opi_yields (w' := w9.alloc (.cells #[.int .i64 0, .int .i64 0, .slice none 0 0, .slice none 0 0, .slice none 0 0] 37)) (.pointer (some ⟨w9.heap.size, 0, none⟩)) ?_ hI.op5
    simp only [execOp, resolve, List.map_toArray, List.map_cons, List.map_nil, Act.eval]; simp [go_sem, -Array.getD_eq_getD_getElem?]
  case hend =>
  intro vs w8 hI
  obtain ⟨g, q, x, y, ex, ey, eg, eq, kx, ky, ox, oy, bg, bq, hne, hfin⟩ := hI.fin rfl rfl rfl rfl
  obtain ⟨A1, c1, A2, c2, A3, c3, u1, u2, u3⟩ := okX_forms ox
  obtain ⟨B1, b1, B2, b2, B3, b3, t1, t2, t3⟩ := okX_forms oy
  obtain ⟨xk, xn, xmv, xms, xnv, xns, xkv, xks⟩ := x
  obtain ⟨yk, yn, ymv, yms, ynv, yns, ykv, yks⟩ := y
  simp only [XE.mv, XE.nv, XE.kv, XE.ms, XE.ns, XE.kids] at u1 u2 u3 t1 t2 t3
  subst u1; subst u2; subst u3; subst t1; subst t2; subst t3
  have HKX := Lib.hid kx; have HKY := Lib.hid ky
  obtain ⟨z0, z1, z2, z3, z4⟩ := blk_cells5 bg
  obtain ⟨f0, f1, f2, f3, f4⟩ := blk_fr bg
  obtain ⟨y0, y1, y2, y3, y4⟩ := blk_cells5 bq
  obtain ⟨h0, h1, h2, h3, h4⟩ := blk_fr bq
  have hne2 : q ≠ g := Ne.symm hne
  obtain ⟨Wf, hWf⟩ : ∃ V, set5W (set5W w8 g (.int .i64 xk) (.int .i64 xn) (.slice A1 xms.length c1) (.slice A2 xns.length c2) (.slice A3 xks.length c3)) q (.int .i64 yk) (.int .i64 yn) (.slice B1 yms.length b1) (.slice B2 yns.length b2) (.slice B3 yks.length b3) = V := ⟨_, rfl⟩
  have HX : Hid (PairX w g q (.mk xk xn (.slice A1 xms.length c1) xms (.slice A2 xns.length c2) xns (.slice A3 xks.length c3) xks) (.mk yk yn (.slice B1 yms.length b1) yms (.slice B2 yns.length b2) yns (.slice B3 yks.length b3) yks) Wf) := Lib.hid (by rw [← hWf]; exact hfin)
  unfold set5W at hWf
  have HWF := Lib.hid hWf
  unfold XE.val at ex ey
  simp only [XE.kd, XE.n, XE.mv, XE.nv, XE.kv] at ex ey
  clear hI hfin hWf kx ky ox oy bg bq HP0
  change wpList _ _ _ [_, _] (putAll vs 0 [_, _, _, _, _, _] _) _
  simp only [putAll, Act.put, ex, ey, eg, eq]
  clear ex ey eg eq
  go_simp
  go_upto_region 5 with fail
  rw [HWF.out]
  clear HWF z0 z1 z2 z3 z4 f0 f1 f2 f3 f4 y0 y1 y2 y3 y4 h0 h1 h2 h3 h4
  have HKX2 := Lib.hid (keepV_factsT 5 _ HKX.out); have HKY2 := Lib.hid (keepV_factsT 5 _ HKY.out)
  have HS5 := Lib.hid (HS4.out.below HX.out.bel)
  clear HKX HKY HS4
  have hcb := nWithin_in kd (lo := 3) (hi := 16) (by omega)
  have htb := nWithin_in t0 (lo := 0) (hi := 280) (by omega)
  have HW1 := Lib.hid (fun V => within_any kd 3 16 V wk (by omega) (by omega) (by omega))
  have HW2 := Lib.hid (fun V => within_any t0 0 280 V wt (by omega) (by omega) (by omega))
  generalize nWithin kd 3 16 = c at *
  generalize nWithin t0 0 280 = tm at *
  obtain ⟨X, hX⟩ : ∃ X : XE, (XE.mk xk xn (.slice A1 xms.length c1) xms (.slice A2 xns.length c2) xns (.slice A3 xks.length c3) xks) = X := ⟨_, rfl⟩
  obtain ⟨Y, hY⟩ : ∃ Y : XE, (XE.mk yk yn (.slice B1 yms.length b1) yms (.slice B2 yns.length b2) yns (.slice B3 yks.length b3) yks) = Y := ⟨_, rfl⟩
  rw [hX, hY] at HX
  rw [hX] at HKX2
  rw [hY] at HKY2
  have hxv : X.kd = xk ∧ X.n = xn ∧ X.mv = .slice A1 xms.length c1 ∧ X.nv = .slice A2 xns.length c2 ∧ X.kv = .slice A3 xks.length c3 := by rw [← hX]; exact ⟨rfl, rfl, rfl, rfl, rfl⟩
  have hyv : Y.kd = yk ∧ Y.n = yn ∧ Y.mv = .slice B1 yms.length b1 ∧ Y.nv = .slice B2 yns.length b2 ∧ Y.kv = .slice B3 yks.length b3 := by rw [← hY]; exact ⟨rfl, rfl, rfl, rfl, rfl⟩
  have HXV := Lib.hid hxv; have HYV := Lib.hid hyv
  clear hX hY
  generalize xms.length = lx1 at *
  generalize xns.length = lx2 at *
  generalize xks.length = lx3 at *
  generalize yms.length = ly1 at *
  generalize yns.length = ly2 at *
  generalize yks.length = ly3 at *
  obtain ⟨z0, z1, z2, z3, z4⟩ := blk_cells5 HX.out.bx
  obtain ⟨y0, y1, y2, y3, y4⟩ := blk_cells5 HX.out.by_
  obtain ⟨hx1, hx2, hx3, hx4, hx5⟩ := hxv
  obtain ⟨hy1, hy2, hy3, hy4, hy5⟩ := hyv
  rw [hx1] at z0; rw [hx2] at z1; rw [hx3] at z2; rw [hx4] at z3; rw [hx5] at z4
  rw [hy1] at y0; rw [hy2] at y1; rw [hy3] at y2; rw [hy4] at y3; rw [hy5] at y4
  clear hx1 hx2 hx3 hx4 hx5 hy1 hy2 hy3 hy4 hy5
  go_wp2_with fail
  (with_reducible refine (HW1.out _).mono ?_); rintro e w' ⟨rfl, rfl⟩
  go_upto_region 7 with fail
  have hm6 : (Wf.alloc (.cells #[.int .i64 xk, .int .i64 xn, .slice A1 lx1 c1, .slice A2 lx2 c2, .slice A3 lx3 c3, .int .i64 yk, .int .i64 yn, .slice B1 ly1 b1, .slice B2 ly2 b2, .slice B3 ly3 b3] 37)).heap.size = Wf.heap.size + 1 := by simp
  obtain ⟨bk, hbk⟩ : ∃ b, Wf.heap.size = b := ⟨_, rfl⟩
  obtain ⟨zb, hzb⟩ : ∃ b, Wf.heap.size + 1 = b := ⟨_, rfl⟩
  obtain ⟨W6, hW6⟩ : ∃ V, (Wf.alloc (.cells #[.int .i64 xk, .int .i64 xn, .slice A1 lx1 c1, .slice A2 lx2 c2, .slice A3 lx3 c3, .int .i64 yk, .int .i64 yn, .slice B1 ly1 b1, .slice B2 ly2 b2, .slice B3 ly3 b3] 37)).alloc (.cells #[.int .i64 c, .int .i64 0, .slice none 0 0, .slice none 0 0, .slice (some ⟨Wf.heap.size, 0, none⟩) 2 2] 37) = V := ⟨_, rfl⟩
  have hl6 : Below Wf.heap.size Wf W6 := by rw [← hW6]; exact ((Below.refl _ _).alloc (Nat.le_refl _) _).alloc (by simp) _
  have HE6 : Hid (EpAt u gs v1 (fillF kst) g q zb bk c X Y W6) := Lib.hid (by
    have hbz : Blk W6 zb 37 [.int .i64 c, .int .i64 0, .slice none 0 0, .slice none 0 0, .slice (some ⟨bk, 0, none⟩) 2 2] := by
      rw [← hW6, ← hzb, ← hbk]
      have h := heap_alloc_new (Wf.alloc (.cells #[.int .i64 xk, .int .i64 xn, .slice A1 lx1 c1, .slice A2 lx2 c2, .slice A3 lx3 c3, .int .i64 yk, .int .i64 yn, .slice B1 ly1 b1, .slice B2 ly2 b2, .slice B3 ly3 b3] 37)) (.cells #[.int .i64 c, .int .i64 0, .slice none 0 0, .slice none 0 0, .slice (some ⟨Wf.heap.size, 0, none⟩) 2 2] 37)
      rw [hm6] at h
      exact Blk.mk h
    have hks : Sees W6 W6.heap.size 5 (some ⟨bk, 0, none⟩) 2 (kcells [X, Y]) := by
      have hq : kcells [X, Y] = [.int .i64 xk, .int .i64 xn, .slice A1 lx1 c1, .slice A2 lx2 c2, .slice A3 lx3 c3, .int .i64 yk, .int .i64 yn, .slice B1 ly1 b1, .slice B2 ly2 b2, .slice B3 ly3 b3] := by
        show [.int .i64 X.kd, .int .i64 X.n, X.mv, X.nv, X.kv, .int .i64 Y.kd, .int .i64 Y.n, Y.mv, Y.nv, Y.kv] = _
        obtain ⟨h1, h2, h3, h4, h5⟩ := HXV.out
        obtain ⟨q1, q2, q3, q4, q5⟩ := HYV.out
        rw [h1, h2, h3, h4, h5, q1, q2, q3, q4, q5]
      rw [← hW6, ← hbk, hq]
      have h : Blk (Wf.alloc (.cells #[.int .i64 xk, .int .i64 xn, .slice A1 lx1 c1, .slice A2 lx2 c2, .slice A3 lx3 c3, .int .i64 yk, .int .i64 yn, .slice B1 ly1 b1, .slice B2 ly2 b2, .slice B3 ly3 b3] 37)) Wf.heap.size 37 [.int .i64 xk, .int .i64 xn, .slice A1 lx1 c1, .slice A2 lx2 c2, .slice A3 lx3 c3, .int .i64 yk, .int .i64 yn, .slice B1 ly1 b1, .slice B2 ly2 b2, .slice B3 ly3 b3] := Blk.mk (heap_alloc_new Wf _)
      exact (h.alloc _).sees (size := 5) (n := 2) rfl (List.prefix_refl _)
    have ox := okX_below hl6 5 X HX.out.ox
    have oy := okX_below hl6 5 Y HX.out.oy
    exact ⟨HS5.out.below hl6, HX.out.bx.below hl6 HX.out.bx.lt, HX.out.by_.below hl6 HX.out.by_.lt, hbz, ox, oy, zX_ok hks ox oy⟩)
  rw [hW6, hzb, hbk]
  clear hm6 hbk hzb hW6 hl6 z0 z1 z2 z3 z4 y0 y1 y2 y3 y4 HS5 HX HW1
  have HZT := Lib.hid (show KeepT 6 2 (zX c bk X Y).pe from parts_keepT hcb.1 hcb.2 HKX2.out HKY2.out)
  have HCX := Lib.hid (fun V (hV : EpAt u gs v1 (fillF kst) g q zb bk c X Y V) => show V.cell? ⟨g, 0, none⟩ = some (.int .i64 xk) ∧ V.cell? ⟨g, 1, none⟩ = some (.int .i64 xn) ∧ V.cell? ⟨g, 2, none⟩ = some (.slice A1 lx1 c1) ∧ V.cell? ⟨g, 3, none⟩ = some (.slice A2 lx2 c2) ∧ V.cell? ⟨g, 4, none⟩ = some (.slice A3 lx3 c3) from by
    have h := blk_cells5 hV.bx
    obtain ⟨h1, h2, h3, h4, h5⟩ := HXV.out
    rwa [h1, h2, h3, h4, h5] at h)
  have HCY := Lib.hid (fun V (hV : EpAt u gs v1 (fillF kst) g q zb bk c X Y V) => show V.cell? ⟨q, 0, none⟩ = some (.int .i64 yk) ∧ V.cell? ⟨q, 1, none⟩ = some (.int .i64 yn) ∧ V.cell? ⟨q, 2, none⟩ = some (.slice B1 ly1 b1) ∧ V.cell? ⟨q, 3, none⟩ = some (.slice B2 ly2 b2) ∧ V.cell? ⟨q, 4, none⟩ = some (.slice B3 ly3 b3) from by
    have h := blk_cells5 hV.by_
    obtain ⟨h1, h2, h3, h4, h5⟩ := HYV.out
    rwa [h1, h2, h3, h4, h5] at h)
  obtain ⟨P, e1, hp⟩ : ∃ P e, evalR (fillF kst) tm 5 X.pe = (P, e) := ⟨_, _, rfl⟩
  obtain ⟨Q, e2, hq⟩ : ∃ P e, evalR (fillF kst) tm 5 Y.pe = (P, e) := ⟨_, _, rfl⟩
  obtain ⟨Z, e3, hz⟩ : ∃ P e, evalR (fillF kst) tm 6 (zX c bk X Y).pe = (P, e) := ⟨_, _, rfl⟩
  have HZE := Lib.hid (show (Z, e3) = if e1 ≠ 0 then ([], e1) else if e2 ≠ 0 then ([], e2) else wantR c P Q from by
    rw [← hz]; exact parts_eval hcb.1 hcb.2 HKX2.out HKY2.out hp hq)
  have HAX := Lib.hid (fun V (hV : EpAt u gs v1 (fillF kst) g q zb bk c X Y V) => show Calls Tryz.prog 10 #[.agg #[.int .i64 xk, .int .i64 xn, .slice A1 lx1 c1, .slice A2 lx2 c2, .slice A3 lx3 c3], .pointer (some ⟨gs, 0, none⟩), .int .i64 tm] V (VAnsE P e1 V) from by
    have h := at_x 5 (by omega) X u V gs v1 (fillF kst) tm HKX2.out.small hV.ox (fun _ => hV.evX HKX2.out tm (tok_in (by omega) (by omega)))
    obtain ⟨h1, h2, h3, h4, h5⟩ := HXV.out
    unfold XE.val at h
    rw [hp, h1, h2, h3, h4, h5] at h; exact h)
  have HAY := Lib.hid (fun V (hV : EpAt u gs v1 (fillF kst) g q zb bk c X Y V) => show Calls Tryz.prog 10 #[.agg #[.int .i64 yk, .int .i64 yn, .slice B1 ly1 b1, .slice B2 ly2 b2, .slice B3 ly3 b3], .pointer (some ⟨gs, 0, none⟩), .int .i64 tm] V (VAnsE Q e2 V) from by
    have h := at_x 5 (by omega) Y u V gs v1 (fillF kst) tm HKY2.out.small hV.oy (fun _ => hV.evY HKY2.out tm (tok_in (by omega) (by omega)))
    obtain ⟨h1, h2, h3, h4, h5⟩ := HYV.out
    unfold XE.val at h
    rw [hq, h1, h2, h3, h4, h5] at h; exact h)
  have HAZ := Lib.hid (fun V (hV : EpAt u gs v1 (fillF kst) g q zb bk c X Y V) => show Calls Tryz.prog 10 #[.agg #[.int .i64 c, .int .i64 0, .slice none 0 0, .slice none 0 0, .slice (some ⟨bk, 0, none⟩) 2 2], .pointer (some ⟨gs, 0, none⟩), .int .i64 tm] V (VAnsE Z e3 V) from by
    have h := at_x 6 (by omega) (zX c bk X Y) u V gs v1 (fillF kst) tm HZT.out.small hV.oz (fun _ => hV.evZ HZT.out tm (tok_in (by omega) (by omega)))
    rw [hz] at h; exact h)
  have HRZ := Lib.hid (fun V (hV : EpAt u gs v1 (fillF kst) g q zb bk c X Y V) => show Calls Tryz.prog 22 #[.agg #[.int .i64 c, .int .i64 0, .slice none 0 0, .slice none 0 0, .slice (some ⟨bk, 0, none⟩) 2 2]] V (fun e w' => e = .returned (.bool true) ∧ Below V.heap.size V w') from by
    have h := right_x 6 (by omega) (zX c bk X Y) V HZT.out.small hV.oz
    rw [keepT_right6 HZT.out] at h; exact h)
  have HFP := Lib.hid (show Fine P ∧ P.length ≤ 500 by have h := evalR_good HE6.out.sto.dok (vok_fill kst) tm 5 X.pe HKX2.out.fits (lim_keep kst 5 (by omega)); rwa [hp] at h)
  have HFQ := Lib.hid (show Fine Q ∧ Q.length ≤ 500 by have h := evalR_good HE6.out.sto.dok (vok_fill kst) tm 5 Y.pe HKY2.out.fits (lim_keep kst 5 (by omega)); rwa [hq] at h)
  clear hp hq hz
  go_wp2_with fail
  (with_reducible refine (HW2.out _).mono ?_); rintro e w' ⟨rfl, rfl⟩
  clear HW2
  obtain ⟨z0, z1, z2, z3, z4⟩ := HCX.out _ HE6.out
  go_wp2_with fail
  (with_reducible refine (HAX.out _ HE6.out).mono ?_); rintro e w7 ⟨sp, rfl, hsp, hb7⟩
  have HE7 := Lib.hid (HE6.out.below hb7); have HP7 := Lib.hid hsp
  obtain ⟨PA, pn, pc, rfl⟩ := hsp.form
  clear hsp hb7 HE6 HAX z0 z1 z2 z3 z4
  obtain ⟨z0, z1, z2, z3, z4⟩ := HCY.out _ HE7.out
  go_wp2_with fail
  (with_reducible refine (HAY.out _ HE7.out).mono ?_); rintro e w8' ⟨sq, rfl, hsq, hb8⟩
  have HE8 := Lib.hid (HE7.out.below hb8); have HQ8 := Lib.hid hsq; have HP8 := Lib.hid (HP7.out.below hb8)
  obtain ⟨QA, qn, qc, rfl⟩ := hsq.form
  clear hsq hb8 HE7 HP7 HAY z0 z1 z2 z3 z4
  obtain ⟨z0, z1, z2, z3, z4⟩ := blk_cells5 HE8.out.bz
  go_wp2_with fail
  (with_reducible refine (HAZ.out _ HE8.out).mono ?_); rintro e w9 ⟨sr, rfl, hsr, hb9⟩
  have HE9 := Lib.hid (HE8.out.below hb9); have HR9 := Lib.hid hsr; have HQ9 := Lib.hid (HQ8.out.below hb9); have HP9 := Lib.hid (HP8.out.below hb9)
  obtain ⟨RA, rn, rc, rfl⟩ := hsr.form
  clear hsr hb9 HE8 HQ8 HP8 HAZ z0 z1 z2 z3 z4
  obtain ⟨z0, z1, z2, z3, z4⟩ := blk_cells5 HE9.out.bz
  go_wp2_with fail
  (with_reducible refine (HRZ.out _ HE9.out).mono ?_); rintro e w10 ⟨rfl, hb10⟩
  have HE10 := Lib.hid (HE9.out.below hb10); have HR10 := Lib.hid (HR9.out.below hb10); have HQ10 := Lib.hid (HQ9.out.below hb10); have HP10 := Lib.hid (HP9.out.below hb10)
  clear hb10 HE9 HR9 HQ9 HP9 HRZ z0 z1 z2 z3 z4
  have hmm := @run_makeMap Tryz.prog
  go_upto_region 14 with fail
  clear hmm
  have hbm : Below w10.heap.size w10 (w10.alloc (.map #[] 0)) := (Below.refl _ _).alloc (Nat.le_refl _) _
  have HKEPT : Hid (EpAt u gs v1 (fillF kst) g q zb bk c X Y (w10.alloc (.map #[] 0)) ∧ BSet (w10.alloc (.map #[] 0)) w10.heap.size 0 (fun _ => false) 0 ∧ VAt P (.slice PA pn pc) (w10.alloc (.map #[] 0)) ∧ VAt Q (.slice QA qn qc) (w10.alloc (.map #[] 0)) ∧ VAt Z (.slice RA rn rc) (w10.alloc (.map #[] 0)) ∧ Below w10.heap.size w10 (w10.alloc (.map #[] 0))) := Lib.hid ⟨HE10.out.below hbm, BSet.made w10, HP10.out.below hbm, HQ10.out.below hbm, HR10.out.below hbm, hbm⟩
  obtain ⟨mb, hmb⟩ : ∃ b, w10.heap.size = b := ⟨_, rfl⟩
  obtain ⟨W13, hW13⟩ : ∃ V, w10.alloc (.map #[] 0) = V := ⟨_, rfl⟩
  rw [hW13] at HKEPT
  rw [hW13, hmb]
  have HMB := Lib.hid hmb
  have HK14 : Hid (EpAt u gs v1 (fillF kst) g q zb bk c X Y W13 ∧ BSet W13 mb 0 (fun _ => false) 0 ∧ VAt P (.slice PA pn pc) W13 ∧ VAt Q (.slice QA qn qc) W13 ∧ VAt Z (.slice RA rn rc) W13 ∧ Below w10.heap.size w10 W13) := Lib.hid (by have h := HKEPT.out; rw [hmb] at h ⊢; exact h)
  clear hbm hW13 hmb HKEPT
  have HGX := Lib.hid (fun V (hV : EpAt u gs v1 (fillF kst) g q zb bk c X Y V) => show Calls Tryz.prog 13 #[.agg #[.int .i64 xk, .int .i64 xn, .slice A1 lx1 c1, .slice A2 lx2 c2, .slice A3 lx3 c3], .pointer (some ⟨gs, 0, none⟩), .int .i64 0, .int .i64 250] V (OwnAns 3 1 (chgX (fillF kst) 0 250 X.pe).length (ints (chgX (fillF kst) 0 250 X.pe)) V) from by
    have h := changes_x 5 (by omega) X u V gs v1 (fillF kst) 0 0 250 (hV.evX HKX2.out 0 (tok_in (by omega) (by omega))) (keepT_right5 HKX2.out)
    obtain ⟨h1, h2, h3, h4, h5⟩ := HXV.out
    unfold XE.val at h
    rw [h1, h2, h3, h4, h5] at h; exact h)
  have HGY := Lib.hid (fun V (hV : EpAt u gs v1 (fillF kst) g q zb bk c X Y V) => show Calls Tryz.prog 13 #[.agg #[.int .i64 yk, .int .i64 yn, .slice B1 ly1 b1, .slice B2 ly2 b2, .slice B3 ly3 b3], .pointer (some ⟨gs, 0, none⟩), .int .i64 0, .int .i64 250] V (OwnAns 3 1 (chgX (fillF kst) 0 250 Y.pe).length (ints (chgX (fillF kst) 0 250 Y.pe)) V) from by
    have h := changes_x 5 (by omega) Y u V gs v1 (fillF kst) 0 0 250 (hV.evY HKY2.out 0 (tok_in (by omega) (by omega))) (keepT_right5 HKY2.out)
    obtain ⟨h1, h2, h3, h4, h5⟩ := HYV.out
    unfold XE.val at h
    rw [h1, h2, h3, h4, h5] at h; exact h)
  have HCM := Lib.hid (parts_chg (D := fillF kst) (f := 0) (t := 250) (x := X.pe) (y := Y.pe) hcb.1)
  have HCXO := Lib.hid (chgX_ok (fillF kst) 0 250 X.pe).2
  have HCXI := Lib.hid (chgX_in (D := fillF kst) (f := 0) (t := 250) (x := X.pe)); have HCYI := Lib.hid (chgX_in (D := fillF kst) (f := 0) (t := 250) (x := Y.pe))
  have HCLCX := Lib.hid (changes_len 5 X.pe (fillF kst) 0 250 HE10.out.sto.dok (by rw [HKX2.out.ty]; decide) HKX2.out.deep (lim_keep kst 5 (by omega)))
  have HCLCY := Lib.hid (changes_len 5 Y.pe (fillF kst) 0 250 HE10.out.sto.dok (by rw [HKY2.out.ty]; decide) HKY2.out.deep (lim_keep kst 5 (by omega)))
  generalize chgX (fillF kst) 0 250 X.pe = CX at *
  generalize chgX (fillF kst) 0 250 Y.pe = CY at *
  refine wp_region_facts (R := fun a b => Below a.heap.size a b) (G := (fun W => EpAt u gs v1 (fillF kst) g q zb bk c X Y W ∧ BSet W mb 0 (fun _ => false) 0 ∧ VAt P (.slice PA pn pc) W ∧ VAt Q (.slice QA qn qc) W ∧ VAt Z (.slice RA rn rc) W ∧ Below w10.heap.size w10 W)) (V := fun i' u' W => match i' with | 0 => u' = .agg #[.int .i64 xk, .int .i64 xn, .slice A1 lx1 c1, .slice A2 lx2 c2, .slice A3 lx3 c3] | 1 => u' = .pointer (some ⟨gs, 0, none⟩) | 2 => ∃ A n cc, u' = .slice A n cc ∧ W.ownsRow 0 3 1 (.slice A n cc) n (ints CX) ∧ CX.length = n ∧ n ≤ cc ∧ cc ≤ 9223372036854775807 | 3 => u' = .agg #[.int .i64 yk, .int .i64 yn, .slice B1 ly1 b1, .slice B2 ly2 b2, .slice B3 ly3 b3] | 4 => u' = .pointer (some ⟨gs, 0, none⟩) | 5 => ∃ A n cc, u' = .slice A n cc ∧ W.ownsRow 0 3 1 (.slice A n cc) n (ints CY) ∧ CY.length = n ∧ n ≤ cc ∧ cc ≤ 9223372036854775807 | 6 => ∃ b, u' = .slice (some ⟨b, 0, none⟩) 2 2 ∧ TwoR CX CY b W | 7 => u' = .int .i64 2 | 8 => u' = .int .i64 0 | _ => True) (by kernel_rfl) (fun w => Below.refl _ _) (fun a b c h1 h2 => h1.trans (h2.mono h1.size)) (by kernel_rfl) (by kernel_rfl) ?hG ⟨?o0, ?o1, ?o2, ?o3, ?o4, ?o5, ?o6, ?o7, ?o8, trivial⟩ ?hend
  case o0 =>
    intro a w hfr hG hd
    refine ⟨fun hw => ?_, fun hw => absurd hw (by simp [Region.wanted])⟩
    have s12 : a.tmps.getD 12 undef = .pointer (some ⟨g, 0, none⟩) := hfr.at 12 (by kernel_rfl)
    obtain ⟨y0, y1, y2, y3, y4⟩ := HCX.out w hG.now.1
    refine op_yields (.agg #[.int .i64 xk, .int .i64 xn, .slice A1 lx1 c1, .slice A2 lx2 c2, .slice A3 lx3 c3]) ?_ ?_ ?_
    · simp only [execOp, resolve, List.map_toArray, List.map_cons, List.map_nil, Act.eval, s12]; simp [go_sem, -Array.getD_eq_getD_getElem?, s12, y0, y1, y2, y3, y4]
    · exact Below.refl _ _
    · exact (fun _ _ => rfl)
  case o1 =>
    intro a w hfr hG hd
    refine ⟨fun hw => ?_, fun hw => absurd hw (by simp [Region.wanted])⟩
    have s11 : a.tmps.getD 11 undef = .pointer (some ⟨gs, 0, none⟩) := hfr.at 11 (by kernel_rfl)
    refine op_yields (.pointer (some ⟨gs, 0, none⟩)) ?_ ?_ ?_
    · simp only [execOp, resolve, List.map_toArray, List.map_cons, List.map_nil, Act.eval, s11]; simp [go_sem, -Array.getD_eq_getD_getElem?, s11]
    · exact Below.refl _ _
    · exact (fun _ _ => rfl)
  case o2 =>
    intro a w hfr hG hd
    obtain ⟨d0, d1, _⟩ := hd
    refine ⟨fun hw => ?_, fun hw => absurd hw (by simp [Region.wanted])⟩
    have s86 : a.tmps.getD 86 undef = .agg #[.int .i64 xk, .int .i64 xn, .slice A1 lx1 c1, .slice A2 lx2 c2, .slice A3 lx3 c3] := (d0 rfl).now
    have s87 : a.tmps.getD 87 undef = .pointer (some ⟨gs, 0, none⟩) := (d1 rfl).now
    refine op_calls2 ((HGX.out w hG.now.1).mono fun e' w' hh => ?_) (by simp only [execOp, resolve, List.map_toArray, List.map_cons, List.map_nil, Act.eval, s86, s87]; simp [go_sem, -Array.getD_eq_getD_getElem?, s86, s87]); obtain ⟨A9, c9, h1, h2, h3, h4, h5⟩ := hh; exact ⟨_, h1, h3, fun W' hW' => ⟨A9, _, c9, rfl, own_mono (own_below h2 hW' (Nat.le_refl _)) (Nat.zero_le _), rfl, h4, h5⟩⟩
  case o3 =>
    intro a w hfr hG hd
    refine ⟨fun hw => ?_, fun hw => absurd hw (by simp [Region.wanted])⟩
    have s13 : a.tmps.getD 13 undef = .pointer (some ⟨q, 0, none⟩) := hfr.at 13 (by kernel_rfl)
    obtain ⟨y0, y1, y2, y3, y4⟩ := HCY.out w hG.now.1
    refine op_yields (.agg #[.int .i64 yk, .int .i64 yn, .slice B1 ly1 b1, .slice B2 ly2 b2, .slice B3 ly3 b3]) ?_ ?_ ?_
    · simp only [execOp, resolve, List.map_toArray, List.map_cons, List.map_nil, Act.eval, s13]; simp [go_sem, -Array.getD_eq_getD_getElem?, s13, y0, y1, y2, y3, y4]
    · exact Below.refl _ _
    · exact (fun _ _ => rfl)
  case o4 =>
    intro a w hfr hG hd
    refine ⟨fun hw => ?_, fun hw => absurd hw (by simp [Region.wanted])⟩
    have s11 : a.tmps.getD 11 undef = .pointer (some ⟨gs, 0, none⟩) := hfr.at 11 (by kernel_rfl)
    refine op_yields (.pointer (some ⟨gs, 0, none⟩)) ?_ ?_ ?_
    · simp only [execOp, resolve, List.map_toArray, List.map_cons, List.map_nil, Act.eval, s11]; simp [go_sem, -Array.getD_eq_getD_getElem?, s11]
    · exact Below.refl _ _
    · exact (fun _ _ => rfl)
  case o5 =>
    intro a w hfr hG hd
    obtain ⟨d0, d1, d2, _⟩ := hd
    refine ⟨fun hw => ?_, fun hw => absurd hw (by simp [Region.wanted])⟩
    have s89 : a.tmps.getD 89 undef = .agg #[.int .i64 yk, .int .i64 yn, .slice B1 ly1 b1, .slice B2 ly2 b2, .slice B3 ly3 b3] := (d0 rfl).now
    have s90 : a.tmps.getD 90 undef = .pointer (some ⟨gs, 0, none⟩) := (d1 rfl).now
    refine op_calls2 ((HGY.out w hG.now.1).mono fun e' w' hh => ?_) (by simp only [execOp, resolve, List.map_toArray, List.map_cons, List.map_nil, Act.eval, s89, s90]; simp [go_sem, -Array.getD_eq_getD_getElem?, s89, s90]); obtain ⟨A9, c9, h1, h2, h3, h4, h5⟩ := hh; exact ⟨_, h1, h3, fun W' hW' => ⟨A9, _, c9, rfl, own_mono (own_below h2 hW' (Nat.le_refl _)) (Nat.zero_le _), rfl, h4, h5⟩⟩
  case o6 =>
    intro a w hfr hG hd
    obtain ⟨d0, d1, _⟩ := hd
    refine ⟨fun hw => ?_, fun hw => absurd hw (by simp [Region.wanted])⟩
    have p88 : Hold (fun a b => Below a.heap.size a b) (fun W => ∃ A n cc, (a.tmps.getD 88 undef) = .slice A n cc ∧ W.ownsRow 0 3 1 (.slice A n cc) n (ints CX) ∧ CX.length = n ∧ n ≤ cc ∧ cc ≤ 9223372036854775807) w := d0 rfl
    have p91 : Hold (fun a b => Below a.heap.size a b) (fun W => ∃ A n cc, (a.tmps.getD 91 undef) = .slice A n cc ∧ W.ownsRow 0 3 1 (.slice A n cc) n (ints CY) ∧ CY.length = n ∧ n ≤ cc ∧ cc ≤ 9223372036854775807) w := d1 rfl
    obtain ⟨S1, m1, d1, q1, r1, l1, k1', j1⟩ := p88.now; obtain ⟨S2, m2, d2, q2, r2, l2, k2', j2⟩ := p91.now; exact op_makes (.slice (some ⟨w.heap.size, 0, none⟩) 2 2) (w' := w.alloc (.cells #[.slice S1 m1 d1, .slice S2 m2 d2] 45)) (by simp only [execOp, resolve, List.map_toArray, List.map_cons, List.map_nil, Act.eval, q1, q2]; simp [go_sem, -Array.getD_eq_getD_getElem?, q1, q2]) ((Below.refl _ _).alloc (Nat.le_refl _) _) (fun W' hW' => ⟨_, rfl, (TwoR.made r1 r2 l1 l2 k1' k2' j1 j2).below hW'⟩)
  case o7 =>
    intro a w hfr hG hd
    obtain ⟨d0, _⟩ := hd
    refine ⟨fun hw => ?_, fun hw => absurd hw (by simp [Region.wanted])⟩
    have p92 : Hold (fun a b => Below a.heap.size a b) (fun W => ∃ b, (a.tmps.getD 92 undef) = .slice (some ⟨b, 0, none⟩) 2 2 ∧ TwoR CX CY b W) w := d0 rfl
    obtain ⟨b9, e9, h9⟩ := p92.now; refine op_yields (.int .i64 2) ?_ (Below.refl _ _) (fun _ _ => rfl); simp only [execOp, resolve, List.map_toArray, List.map_cons, List.map_nil, Act.eval, e9]; simp [go_sem, -Array.getD_eq_getD_getElem?, e9]
  case o8 =>
    intro a w hfr hG hd
    refine ⟨fun hw => ?_, fun hw => absurd hw (by simp [Region.wanted])⟩
    refine op_yields (.int .i64 0) ?_ ?_ ?_
    · simp only [execOp, resolve, List.map_toArray, List.map_cons, List.map_nil, Act.eval]; simp [go_sem, -Array.getD_eq_getD_getElem?]
    · exact Below.refl _ _
    · exact (fun _ _ => rfl)
  case hG => exact fun w' hb => ⟨HK14.out.1.below ((Below.refl _ _).drew.trans (hb.mono (by simp))), HK14.out.2.1.below ((Below.refl _ _).drew.trans (hb.mono (by simp))), HK14.out.2.2.1.below ((Below.refl _ _).drew.trans (hb.mono (by simp))), HK14.out.2.2.2.1.below ((Below.refl _ _).drew.trans (hb.mono (by simp))), HK14.out.2.2.2.2.1.below ((Below.refl _ _).drew.trans (hb.mono (by simp))), HK14.out.2.2.2.2.2.trans (((Below.refl _ _).drew.trans (hb.mono (by simp))).mono HK14.out.2.2.2.2.2.size)⟩
  case hend =>
    intro vs2 w' hG hv
    obtain ⟨_, _, _, _, _, _, hv6, hv7, hv8, _⟩ := hv
    obtain ⟨b9, hb9, htr⟩ := hv6.now
    have h7 : vs2 7 = .int .i64 2 := hv7.now
    have h8 : vs2 8 = .int .i64 0 := hv8.now
    obtain ⟨S1, d1, S2, d2, hq1, hq2, hq3, hq4⟩ := htr
    have HPA : Hid (PaAt w10 CX CY b9 S1 d1 S2 d2 0 [] w') := Lib.hid ⟨hG.now.2.2.2.2.2, ⟨_, _, by rw [HMB.out]; exact hG.now.2.1, KeyL.none⟩, hq1, hq2, hq3⟩
    have HSV := Lib.hid (fun V (hV : Below w10.heap.size w10 V) => HE10.out.below hV)
    simp only [putAll, Act.put, hb9, h7, h8]
    clear hv6 hv7 hv8 hb9 hq1 hq2 hq3 h7 h8 hG HK14
    go_simp
    generalize vs2 2 = sx2 at *
    generalize vs2 5 = sx5 at *
    generalize vs2 0 = sx0 at *
    generalize vs2 1 = sx1 at *
    generalize vs2 3 = sx3 at *
    generalize vs2 4 = sx4 at *
    go_wp2_with fail
    go_loopg [94] 2 (fun gg x94 wx => ∃ (i n : Nat) (K : List Int), i + gg = 2 ∧ x94 = .int .i64 i ∧ PaAt w10 CX CY b9 S1 d1 S2 d2 n K wx ∧ n ≤ i * 400000 ∧ (∀ y, y ∈ K ↔ (1 ≤ i ∧ y ∈ CX) ∨ (2 ≤ i ∧ y ∈ CY)))
    case atStart => exact ⟨0, 0, [], by omega, rfl, HPA.out, by omega, fun y => by simp⟩
    case round =>
      obtain ⟨i, n, K, hig, rfl, hpa, hnl, hmem⟩ := hrel
      have HPB := Lib.hid hpa; have HME := Lib.hid hmem
      clear hpa hmem HPA
      cases gk with
      | succ gg =>
        rcases (show i = 0 ∨ i = 1 by omega) with rfl | rfl
        · have hcl : CX.length ≤ 400000 := HCLCX.out
          have x0 : wr.cell? ⟨b9, 0, none⟩ = some (.slice S1 CX.length d1) := HPB.out.two.1.cell 0
          go_wp2_with fail
          go_loopg [100] CX.length (fun g2 x100 wx => ∃ (j n' : Nat) (K' : List Int), j + g2 = CX.length ∧ x100 = .int .i64 j ∧ PaAt w10 CX CY b9 S1 d1 S2 d2 n' K' wx ∧ n' ≤ n + j ∧ (∀ y, y ∈ K' ↔ y ∈ CX.take j ∨ y ∈ K))
          case atStart => exact ⟨0, n, K, by omega, rfl, HPB.out, by omega, fun y => by simp⟩
          case round =>
            obtain ⟨j, n', K', hjg, rfl, hpa, hnl2, hmem⟩ := hrel
            have HPC := Lib.hid hpa; have HMF := Lib.hid hmem
            clear hpa hmem
            cases gk with
            | succ g2 =>
              have hjl : j < CX.length := by omega
              have hrow := HPC.out.two.2.1
              obtain ⟨adc, hjl2, hAc, d0⟩ := (Sees.of_own hrow).int hjl
              clear hrow
              subst hAc
              have hyb := HCXI.out CX[j] (List.getElem_mem _)
              have HTN : Hid (CX.take (j + 1) = CX.take j ++ [CX[j]]) := Lib.hid (List.take_succ_eq_append_getElem hjl)
              generalize CX[j] = y at *
              have hy64 : I64 y := by unfold I64; omega
              obtain ⟨w8, K2, hrun, hp8, hm8⟩ := HPC.out.put (by omega) hy64
              have HRUN := Lib.hid hrun; have HP8 := Lib.hid hp8
              have HM8 : Hid (∀ x, x ∈ K2 ↔ x ∈ CX.take (j + 1) ∨ x ∈ K) := Lib.hid fun x => by
                rw [hm8 x, HMF.out x, HTN.out, List.mem_append, List.mem_singleton]
                constructor
                · rintro (h | h | h)
                  · exact .inl (.inr h)
                  · exact .inl (.inl h)
                  · exact .inr h
                · rintro ((h | h) | h)
                  · exact .inr (.inl h)
                  · exact .inl h
                  · exact .inr (.inr h)
              rw [HMB.out] at HRUN
              clear hrun hp8 hm8 HTN HMF
              go_wp2_with (at_mapUpdate; refine wpList_put_bmap rfl (.tmp 104) (.tmp 105) (.const (.bool true)) 70 rfl (.map (some mb)) (.int .i64 y) (.bool true) rfl rfl rfl w8 HRUN.out ?_)
              go_wp2_with fail
              go_roundg g2
              case measure => omega
              case rel => exact ⟨j + 1, n' + 1, K2, by omega, by go_num, HP8.out, by omega, HM8.out⟩
            | zero =>
              obtain rfl : j = CX.length := by omega
              go_wp2_with fail
              go_roundg gg
              case measure => omega
              case rel => exact ⟨1, n', K', by omega, by go_num, HPC.out, by omega, fun y => by
                rw [HMF.out y, List.take_of_length_le (Nat.le_refl _), HME.out y]
                constructor
                · rintro (h | ⟨h, _⟩ | ⟨h, _⟩)
                  · exact .inl ⟨by omega, h⟩
                  · omega
                  · omega
                · rintro (⟨_, h⟩ | ⟨h, _⟩)
                  · exact .inl h
                  · omega⟩
        · have hcl : CY.length ≤ 400000 := HCLCY.out
          have x0 : wr.cell? ⟨b9, 1, none⟩ = some (.slice S2 CY.length d2) := HPB.out.two.1.cell 1
          go_wp2_with fail
          go_loopg [100] CY.length (fun g2 x100 wx => ∃ (j n' : Nat) (K' : List Int), j + g2 = CY.length ∧ x100 = .int .i64 j ∧ PaAt w10 CX CY b9 S1 d1 S2 d2 n' K' wx ∧ n' ≤ n + j ∧ (∀ y, y ∈ K' ↔ y ∈ CY.take j ∨ y ∈ K))
          case atStart => exact ⟨0, n, K, by omega, rfl, HPB.out, by omega, fun y => by simp⟩
          case round =>
            obtain ⟨j, n', K', hjg, rfl, hpa, hnl2, hmem⟩ := hrel
            have HPC := Lib.hid hpa; have HMF := Lib.hid hmem
            clear hpa hmem
            cases gk with
            | succ g2 =>
              have hjl : j < CY.length := by omega
              have hrow := HPC.out.two.2.2
              obtain ⟨adc, hjl2, hAc, d0⟩ := (Sees.of_own hrow).int hjl
              clear hrow
              subst hAc
              have hyb := HCYI.out CY[j] (List.getElem_mem _)
              have HTN : Hid (CY.take (j + 1) = CY.take j ++ [CY[j]]) := Lib.hid (List.take_succ_eq_append_getElem hjl)
              generalize CY[j] = y at *
              have hy64 : I64 y := by unfold I64; omega
              obtain ⟨w8, K2, hrun, hp8, hm8⟩ := HPC.out.put (by omega) hy64
              have HRUN := Lib.hid hrun; have HP8 := Lib.hid hp8
              have HM8 : Hid (∀ x, x ∈ K2 ↔ x ∈ CY.take (j + 1) ∨ x ∈ K) := Lib.hid fun x => by
                rw [hm8 x, HMF.out x, HTN.out, List.mem_append, List.mem_singleton]
                constructor
                · rintro (h | h | h)
                  · exact .inl (.inr h)
                  · exact .inl (.inl h)
                  · exact .inr h
                · rintro ((h | h) | h)
                  · exact .inr (.inl h)
                  · exact .inl h
                  · exact .inr (.inr h)
              rw [HMB.out] at HRUN
              clear hrun hp8 hm8 HTN HMF
              go_wp2_with (at_mapUpdate; refine wpList_put_bmap rfl (.tmp 104) (.tmp 105) (.const (.bool true)) 70 rfl (.map (some mb)) (.int .i64 y) (.bool true) rfl rfl rfl w8 HRUN.out ?_)
              go_wp2_with fail
              go_roundg g2
              case measure => omega
              case rel => exact ⟨j + 1, n' + 1, K2, by omega, by go_num, HP8.out, by omega, HM8.out⟩
            | zero =>
              obtain rfl : j = CY.length := by omega
              go_wp2_with fail
              go_roundg gg
              case measure => omega
              case rel => exact ⟨2, n', K', by omega, by go_num, HPC.out, by omega, fun y => by
                rw [HMF.out y, List.take_of_length_le (Nat.le_refl _), HME.out y]
                constructor
                · rintro (h | ⟨_, h⟩ | ⟨h, _⟩)
                  · exact .inr ⟨by omega, h⟩
                  · exact .inl ⟨by omega, h⟩
                  · omega
                · rintro (⟨_, h⟩ | ⟨_, h⟩)
                  · exact .inr (.inl ⟨by omega, h⟩)
                  · exact .inl h⟩
      | zero =>
        obtain rfl : i = 2 := by omega
        have HKM : Hid (∀ y, y ∈ K ↔ y ∈ CX ∨ y ∈ CY) := Lib.hid fun y => by
          rw [HME.out y]
          exact ⟨fun h => h.elim (fun h => .inl h.2) (fun h => .inr h.2), fun h => h.elim (fun h => .inl ⟨by omega, h⟩) (fun h => .inr ⟨by omega, h⟩)⟩
        clear HME
        have HGZ := Lib.hid (fun V (hV : EpAt u gs v1 (fillF kst) g q zb bk c X Y V) => show Calls Tryz.prog 13 #[.agg #[.int .i64 c, .int .i64 0, .slice none 0 0, .slice none 0 0, .slice (some ⟨bk, 0, none⟩) 2 2], .pointer (some ⟨gs, 0, none⟩), .int .i64 0, .int .i64 250] V (OwnAns 3 1 (chgX (fillF kst) 0 250 (PE.mk c 0 [] [] [X.pe, Y.pe])).length (ints (chgX (fillF kst) 0 250 (PE.mk c 0 [] [] [X.pe, Y.pe]))) V) from
          changes_x 6 (by omega) (zX c bk X Y) u V gs v1 (fillF kst) 0 0 250 (hV.evZ HZT.out 0 (tok_in (by omega) (by omega))) (keepT_right6 HZT.out))
        have HCZO := Lib.hid (chgX_ok (fillF kst) 0 250 (PE.mk c 0 [] [] [X.pe, Y.pe])).2
        have HCZI := Lib.hid (chgX_in (D := fillF kst) (f := 0) (t := 250) (x := PE.mk c 0 [] [] [X.pe, Y.pe]))
        have HCLZ := Lib.hid (changes_len 6 (PE.mk c 0 [] [] [X.pe, Y.pe]) (fillF kst) 0 250 HE10.out.sto.dok (by rw [show (PE.mk c 0 [] [] [X.pe, Y.pe]).ty = 2 from HZT.out.ty]; decide) HZT.out.deep (lim_keep6 kst))
        generalize chgX (fillF kst) 0 250 (PE.mk c 0 [] [] [X.pe, Y.pe]) = CZ at *
        have HES := Lib.hid (HSV.out wr HPB.out.bel)
        obtain ⟨z0, z1, z2, z3, z4⟩ := blk_cells5 HES.out.bz
        go_wp2_with fail
        (with_reducible refine (HGZ.out wr HES.out).mono ?_); rintro e w23 ⟨AZ, cz, rfl, hown, hb23, hcz, hdz⟩
        have HPZ := Lib.hid (HPB.out.below hb23); have HRZ2 := Lib.hid (own_mono hown (Nat.zero_le _))
        clear hown hb23 HES HGZ z0 z1 z2 z3 z4 HPB
        obtain ⟨f, m, hbs, hkl⟩ := HPZ.out.map
        have HFK : Hid (∀ y, y ∈ CZ → f y = true) := Lib.hid fun y hy => (hkl.mem y).2 ((HKM.out y).2 ((HCM.out y).1 hy))
        obtain rfl : m = CZ.length := by rw [← hkl.len]; exact nodup_eqP hkl.nd (rising_nodup HCZO.out) fun x => by rw [HKM.out x, HCM.out x]
        rw [HMB.out] at hbs
        have HBS := Lib.hid hbs
        clear hbs hkl
        have hcl : CZ.length ≤ 400000 := HCLZ.out
        go_wp2_with fail
        go_loopg [113] CZ.length (fun gg x113 wx => ∃ (i : Nat), i + gg = CZ.length ∧ x113 = .int .i64 i ∧ Below w23.heap.size w23 wx)
        case atStart => exact ⟨0, by omega, rfl, Below.refl _ _⟩
        case round =>
          obtain ⟨i, hig, rfl, hbw⟩ := hrel
          have HBW := Lib.hid hbw
          clear hbw
          cases gk with
          | succ gg =>
            have hil : i < CZ.length := by omega
            have HRW := Lib.hid (own_below HRZ2.out HBW.out (Nat.le_refl _))
            have hyb := HCZI.out CZ[i] (List.getElem_mem _)
            have hlk := (HBS.out.below HBW.out).bmap.look (t := CZ[i]) (by unfold I64; omega)
            rw [HFK.out CZ[i] (List.getElem_mem _)] at hlk
            obtain ⟨adc, hjl2, hAc, d0⟩ := (Sees.of_own HRW.out).int hil
            subst hAc
            have HXY : Hid (∀ k, k + 1 = i → ∃ x, CZ[k]? = some x ∧ x < CZ[i] ∧ 0 ≤ x ∧ x ≤ 250) := Lib.hid fun k hk => by
              subst hk
              have hkl : k < CZ.length := by omega
              have hxb := HCZI.out CZ[k] (List.getElem_mem _)
              exact ⟨CZ[k], List.getElem?_eq_getElem hkl, List.pairwise_iff_getElem.1 HCZO.out k (k + 1) hkl hil (by omega), hxb.1, hxb.2⟩
            generalize CZ[i] = y at *
            go_upto_region 27 with fail
            cases i with
            | zero =>
              go_wp2_with fail
              go_roundg gg
              case measure => omega
              case rel => exact ⟨1, by omega, by go_num, HBW.out⟩
            | succ k =>
              have hkl : k < CZ.length := by omega
              obtain ⟨x, hx1, hxy, hx0, hx2⟩ := HXY.out k rfl
              obtain ⟨adp, hjl3, hAp, d1⟩ := (Sees.of_own HRW.out).int hkl
              cases hAp
              rw [show CZ[k] = x from (List.getElem?_eq_some_iff.1 hx1).2] at d1
              clear hx1 HXY
              go_wp2_with fail
              go_roundg gg
              case measure => omega
              case rel => exact ⟨k + 1 + 1, by omega, by go_num, HBW.out⟩
          | zero =>
            obtain rfl : i = CZ.length := by omega
            have HBL := Lib.hid (HBS.out.below HBW.out)
            have HB10 := Lib.hid (HPZ.out.bel.trans (HBW.out.mono HPZ.out.bel.size))
            have HPW := Lib.hid (HP10.out.below HB10.out); have HQW := Lib.hid (HQ10.out.below HB10.out); have HRW := Lib.hid (HR10.out.below HB10.out)
            clear HFK HBS HRZ2 HPZ HKM HCM HCZO HCZI HP10 HQ10 HR10 HBW
            have HRET : Hid (∀ V, Below wr.heap.size wr V → Below u.heap.size u V) := Lib.hid fun V hV => (HSV.out V (HB10.out.trans (hV.mono HB10.out.size))).sto.bel
            by_cases h1 : e1 = 0
            · by_cases h2 : e2 = 0
              · subst h1; subst h2
                have hze := HZE.out
                rw [if_neg (fun h => h rfl), if_neg (fun h => h rfl)] at hze
                unfold wantR at hze
                clear HZE
                by_cases h7 : c ≤ 7
                · rw [if_pos h7] at hze
                  have HM := Lib.hid (math_v c hze.symm HPW.out HQW.out (by have := HFP.out.2; have := HFQ.out.2; omega) HFP.out.1 HFQ.out.1)
                  clear hze
                  go_wp2_with (at_len; refine wpList_len_bset rfl (.tmp 138) rfl mb n CZ.length f rfl HBL.out ?_)
                  (with_reducible refine HM.out.mono ?_); rintro e WM ⟨sv, rfl, hsv, hbM⟩
                  obtain ⟨VA, vn, vc, rfl⟩ := hsv.form
                  have HVM := Lib.hid hsv; have HRM := Lib.hid (HRW.out.below hbM); have HBM := Lib.hid hbM
                  clear hsv hbM HM HPW HQW HRW HBL
                  have HPT := Lib.hid (points_v HRM.out HVM.out)
                  rw [decide_eq_true rfl] at HPT
                  go_wp2_with fail
                  (with_reducible refine HPT.out.mono ?_); rintro e WP ⟨rfl, hbP⟩
                  have HBP := Lib.hid (HBM.out.trans (hbP.mono HBM.out.size))
                  clear hbP HPT
                  go_wp2_with fail
                  (with_reducible refine (eval_runs _).mono ?_); rintro e WE ⟨rfl, hbE⟩
                  have HBE := Lib.hid (HRET.out _ (HBP.out.trans (hbE.mono HBP.out.size)))
                  clear hbE
                  go_wp2_with fail
                  go_ret
                  exact ⟨rfl, HBE.out⟩
                · by_cases h13 : c ≤ 13
                  · rw [if_neg h7, if_pos h13] at hze
                    have HM := Lib.hid (filter_v c hze.symm HPW.out HQW.out (by have := HFP.out.2; have := HFQ.out.2; omega) HFP.out.1 HFQ.out.1)
                    clear hze
                    go_wp2_with (at_len; refine wpList_len_bset rfl (.tmp 138) rfl mb n CZ.length f rfl HBL.out ?_)
                    (with_reducible refine HM.out.mono ?_); rintro e WM ⟨sv, rfl, hsv, hbM⟩
                    obtain ⟨VA, vn, vc, rfl⟩ := hsv.form
                    have HVM := Lib.hid hsv; have HRM := Lib.hid (HRW.out.below hbM); have HBM := Lib.hid hbM
                    clear hsv hbM HM HPW HQW HRW HBL
                    have HPT := Lib.hid (points_v HRM.out HVM.out)
                    rw [decide_eq_true rfl] at HPT
                    go_wp2_with fail
                    (with_reducible refine HPT.out.mono ?_); rintro e WP ⟨rfl, hbP⟩
                    have HBP := Lib.hid (HBM.out.trans (hbP.mono HBM.out.size))
                    clear hbP HPT
                    go_wp2_with fail
                    (with_reducible refine (eval_runs _).mono ?_); rintro e WE ⟨rfl, hbE⟩
                    have HBE := Lib.hid (HRET.out _ (HBP.out.trans (hbE.mono HBP.out.size)))
                    clear hbE
                    go_wp2_with fail
                    go_ret
                    exact ⟨rfl, HBE.out⟩
                  · rw [if_neg h7, if_neg h13] at hze
                    have HM := Lib.hid (logic_v c hze.symm HPW.out HQW.out (by have := HFP.out.2; have := HFQ.out.2; omega) HFP.out.1 HFQ.out.1)
                    clear hze
                    go_wp2_with (at_len; refine wpList_len_bset rfl (.tmp 138) rfl mb n CZ.length f rfl HBL.out ?_)
                    (with_reducible refine HM.out.mono ?_); rintro e WM ⟨sv, rfl, hsv, hbM⟩
                    obtain ⟨VA, vn, vc, rfl⟩ := hsv.form
                    have HVM := Lib.hid hsv; have HRM := Lib.hid (HRW.out.below hbM); have HBM := Lib.hid hbM
                    clear hsv hbM HM HPW HQW HRW HBL
                    have HPT := Lib.hid (points_v HRM.out HVM.out)
                    rw [decide_eq_true rfl] at HPT
                    go_wp2_with fail
                    (with_reducible refine HPT.out.mono ?_); rintro e WP ⟨rfl, hbP⟩
                    have HBP := Lib.hid (HBM.out.trans (hbP.mono HBM.out.size))
                    clear hbP HPT
                    go_wp2_with fail
                    (with_reducible refine (eval_runs _).mono ?_); rintro e WE ⟨rfl, hbE⟩
                    have HBE := Lib.hid (HRET.out _ (HBP.out.trans (hbE.mono HBP.out.size)))
                    clear hbE
                    go_wp2_with fail
                    go_ret
                    exact ⟨rfl, HBE.out⟩
              · subst h1
                have hze := HZE.out
                rw [if_neg (fun h => h rfl), if_pos h2] at hze
                injection hze with hz1 hz2
                subst hz2
                clear HZE
                have h2n : ¬ (0 : Int) = e3 := fun h => h2 h.symm
                go_wp2_with (at_len; refine wpList_len_bset rfl (.tmp 138) rfl mb n CZ.length f rfl HBL.out ?_)
                (with_reducible refine (eval_runs _).mono ?_); rintro e WE ⟨rfl, hbE⟩
                have HBE := Lib.hid (HRET.out _ hbE)
                clear hbE
                go_wp2_with fail
                go_ret
                exact ⟨rfl, HBE.out⟩
            · have hze := HZE.out
              rw [if_pos h1] at hze
              injection hze with hz1 hz2
              subst hz2
              clear HZE
              go_wp2_with (at_len; refine wpList_len_bset rfl (.tmp 138) rfl mb n CZ.length f rfl HBL.out ?_)
              (with_reducible refine (eval_runs _).mono ?_); rintro e WE ⟨rfl, hbE⟩
              have HBE := Lib.hid (HRET.out _ hbE)
              clear hbE
              go_wp2_with fail
              go_ret
              exact ⟨rfl, HBE.out⟩
end Go.Proofs.YtlmakdclebbbkaaGreat
