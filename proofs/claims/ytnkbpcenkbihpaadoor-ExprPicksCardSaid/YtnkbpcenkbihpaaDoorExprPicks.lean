/- Law ExprPicks. -/
import Derived.Test.YtnkbpcenkbihpaaDoorPairX
import Derived.Test.YtnkbpcenkbihpaaDoorPicksX
import Derived.Test.YtnkbpcenkbihpaaDoorBackX
import Derived.Test.YtnkbpcenkbihpaaDoorSameX
namespace Go.Proofs.YtnkbpcenkbihpaaDoor
open Go.ChangeShapes Go.WideShapes Go.ChangeAt Go.RowKit
set_option linter.unusedVariables false
set_option linter.unusedSimpArgs false
set_option maxRecDepth 100000
theorem blk_apart {W : World} {a b : Nat} {t t2 : TypeId} {u : Value} {r : List Value} (h1 : Blk W a t (u :: r)) (h2 : Blk W b t2 zeroCs) (hu : u ≠ .int .i64 0) : a ≠ b := by
  intro e
  subst e
  have h3 := h1.eq.symm.trans h2.eq
  injection h3 with h3
  injection h3 with h3
  have h4 := congrArg Array.toList h3
  simp only [zeroCs, List.toList_toArray] at h4
  injection h4 with h4 _
  exact hu h4
/-- Both expressions, and the one of both. -/
structure PZ (w0 : World) (g q R g9 : Nat) (x y : XE) (kk : Int) (W : World) : Prop where
  p : PairX w0 g q x y W
  bz : Blk W g9 26 [.int .i64 kk, .int .i64 0, .slice none 0 0, .slice none 0 0, .slice (some ⟨R, 0, none⟩) 2 2]
  oz : okX 6 (pairX kk R x y) W
  l9 : w0.heap.size ≤ g9
theorem PZ.below {w0 W W' : World} {g q R g9 : Nat} {x y : XE} {kk : Int} (h : PZ w0 g q R g9 x y kk W) (hb : Below W.heap.size W W') : PZ w0 g q R g9 x y kk W' :=
  ⟨h.p.below hb, h.bz.below hb h.bz.lt, okX_below hb 6 _ h.oz, h.l9⟩
theorem PZ.start {w0 W : World} {g q R g9 : Nat} {x y : XE} (kk : Int) (hp : PairX w0 g q x y W) (tx : x.pe.ty ≠ 0) (ty : y.pe.ty ≠ 0) (bR : Blk W R 26 (kcells [x, y])) (b9 : Blk W g9 26 zeroCs) (l9 : w0.heap.size ≤ g9) :
    PZ w0 g q R g9 x y kk (set5W W g9 (.int .i64 kk) (.int .i64 0) (.slice none 0 0) (.slice none 0 0) (.slice (some ⟨R, 0, none⟩) 2 2)) := by
  have hS : ∀ r, r = g9 → ∃ t, Blk W r t zeroCs := fun r hr => by subst hr; exact ⟨_, b9⟩
  have fx := okX_zero (S := fun r => r = g9) hS 5 x hp.ox tx
  have fy := okX_zero (S := fun r => r = g9) hS 5 y hp.oy ty
  have hg := set5W_grown W g9 (.int .i64 kk) (.int .i64 0) (.slice none 0 0) (.slice none 0 0) (.slice (some ⟨R, 0, none⟩) 2 2)
  have o1 : Only g9 W (set5W W g9 (.int .i64 kk) (.int .i64 0) (.slice none 0 0) (.slice none 0 0) (.slice (some ⟨R, 0, none⟩) 2 2)) := ⟨hg.size, hg.os, hg.tape, hg.output, fun r hr hn => hg.block r hr (fun e => hn (by injection e))⟩
  have nx : Value.int .i64 x.kd ≠ .int .i64 0 := by simpa using typed_kd tx
  have ny : Value.int .i64 y.kd ≠ .int .i64 0 := by simpa using typed_kd ty
  have h1 := blk_apart hp.bx b9 nx
  have h2 := blk_apart hp.by_ b9 ny
  have h3 : R ≠ g9 := blk_apart (show Blk W R 26 (.int .i64 x.kd :: _) from bR) b9 nx
  have ox := (fx.only rfl o1).now
  have oy := (fy.only rfl o1).now
  refine ⟨⟨below_only hp.bel o1 l9 hp.bel.size, hp.bx.only o1 h1, hp.by_.only o1 h2, ox, oy, hp.ne, hp.lg, hp.lh⟩, set5W_blk b9 _ _ _ _ _, ⟨slc_nil' _ 3, slc_nil' _ 1, (FarS.slc (S := fun _ => False) (n := 2) (size := 5) (bR.only o1 h3) (fun h => h) rfl (by omega)).now, fun k hk => ?_⟩, l9⟩
  have hk : k ∈ [x, y] := hk
  rw [List.mem_cons, List.mem_singleton] at hk
  rcases hk with rfl | rfl
  · exact ox
  · exact oy
theorem pick_facts : ∀ (d : Nat) (x p : PE), x.deep ≤ d → x.ty ≠ 0 → p ∈ x.picks → p.ty = 2 ∧ p.deep = 1 ∧ p.small
  | 0, x, p, hd, _, _ => by
    obtain ⟨k, n, ms, ns, ks⟩ := x
    unfold PE.deep at hd; omega
  | d + 1, x, p, hd, ht, hp => by
    have ht' := ht
    cases ty_typed ht with
    | num n => unfold PE.picks picksP at hp; rw [if_neg (by decide)] at hp; simp at hp
    | pick n ms hm h1 h2 =>
      unfold PE.picks picksP at hp
      rw [if_pos rfl, List.append_nil, List.mem_singleton] at hp
      subst hp
      have h6 := (rightM_facts hm).1
      refine ⟨?_, by unfold PE.deep deepsP; rfl, by unfold PE.small smallP; exact ⟨by omega, by simp, by simp, trivial⟩⟩
      unfold PE.ty
      rw [if_neg (by decide), if_pos rfl, if_pos ⟨by simp, hm, h1, h2⟩]
    | one k ns a h1 h2 hn ha =>
      have hda : a.deep ≤ d := by unfold PE.deep deepsP at hd; simp [deepsP] at hd; omega
      unfold PE.picks picksP picksP at hp
      rw [if_neg (by omega)] at hp
      simp only [List.nil_append, List.append_nil] at hp
      exact pick_facts d a p hda (by rw [ha]; decide) hp
    | two k a b h1 h2 ha hb =>
      have hds : a.deep ≤ d ∧ b.deep ≤ d := by unfold PE.deep deepsP deepsP at hd; omega
      unfold PE.picks picksP picksP picksP at hp
      rw [if_neg (by omega)] at hp
      simp only [List.nil_append, List.append_nil, List.mem_append] at hp
      rcases hp with hp | hp
      · exact pick_facts d a p hds.1 ha hp
      · exact pick_facts d b p hds.2 hb hp
theorem ty_12 {x : PE} (h : x.ty ≠ 0) : x.ty = 1 ∨ x.ty = 2 := by
  have ht := ty_typed h
  revert h
  cases ht with
  | num n =>
    unfold PE.ty
    repeat' split
    all_goals (intro h; first | exact .inl rfl | exact .inr rfl | exact absurd rfl h)
  | pick n ms hm h1 h2 =>
    unfold PE.ty
    rw [if_neg (by decide), if_pos rfl]
    repeat' split
    all_goals (intro h; first | exact .inl rfl | exact .inr rfl | exact absurd rfl h)
  | one k ns a h1 h2 hn ha =>
    unfold PE.ty oneT
    rw [if_neg (by omega), if_neg (by omega), if_neg (by simp), if_pos (word_is h1 h2)]
    repeat' split
    all_goals (intro h; first | exact .inl rfl | exact .inr rfl | exact absurd rfl h)
  | two k a b h1 h2 ha hb =>
    unfold PE.ty
    rw [if_neg (by omega), if_neg (by omega), if_neg (by simp), word_none (by omega), if_neg (by simp), if_pos (sign_is h1 h2)]
    simp only [tysP, twoT]
    repeat' split
    all_goals (intro h; first | exact .inl rfl | exact .inr rfl | exact absurd rfl h)
/-- A vector has a pick. -/
theorem picks_pos : ∀ (d : Nat) (x : PE), x.deep ≤ d → x.ty = 2 → 1 ≤ x.picks.length
  | 0, x, hd, _ => by
    obtain ⟨k, n, ms, ns, ks⟩ := x
    unfold PE.deep at hd; omega
  | d + 1, x, hd, ht => by
    cases ty_typed (show x.ty ≠ 0 by rw [ht]; decide) with
    | num n => unfold PE.ty at ht; rw [if_pos rfl] at ht; split at ht <;> exact absurd ht (by decide)
    | pick n ms hm h1 h2 => unfold PE.picks picksP; rw [if_pos rfl]; simp
    | one k ns a h1 h2 hn ha =>
      have hda : a.deep ≤ d := by unfold PE.deep deepsP at hd; simp [deepsP] at hd; omega
      have ih := picks_pos d a hda ha
      unfold PE.picks picksP picksP
      rw [if_neg (by omega)]
      simpa using ih
    | two k a b h1 h2 ha hb =>
      have hds : a.deep ≤ d ∧ b.deep ≤ d := by unfold PE.deep deepsP deepsP at hd; omega
      by_cases h : a.ty = 2
      · have ih := picks_pos d a hds.1 h
        unfold PE.picks picksP picksP picksP
        rw [if_neg (by omega)]
        simp only [List.nil_append, List.append_nil, List.length_append]; omega
      · by_cases h' : b.ty = 2
        · have ih := picks_pos d b hds.2 h'
          unfold PE.picks picksP picksP picksP
          rw [if_neg (by omega)]
          simp only [List.nil_append, List.append_nil, List.length_append]; omega
        · exfalso
          unfold PE.ty at ht
          rw [if_neg (by omega), if_neg (by omega), if_neg (by simp), word_none (by omega), if_neg (by simp), if_pos (sign_is h1 h2)] at ht
          simp only [tysP, twoT] at ht
          have h1' := (ty_12 ha).resolve_right h
          have h2' := (ty_12 hb).resolve_right h'
          rw [h1', h2'] at ht
          revert ht
          repeat' split
          all_goals (intro ht; first | (exact absurd ht (by decide)) | (simp at *; omega))
/-- Rows of picks that may be read. -/
structure PkR (B : Nat) (A : Option Addr) (n c : Nat) (qs : List XE) (W : World) : Prop where
  row : W.ownsRow B 26 5 (.slice A n c) n (kcells qs)
  pk : ∀ q ∈ qs, Pick B q W
theorem PkR.below {B : Nat} {A : Option Addr} {n c : Nat} {qs : List XE} {W W' : World} (h : PkR B A n c qs W) (hb : Below W.heap.size W W') : PkR B A n c qs W' := ⟨own_below h.row hb (Nat.le_refl _), fun q hq => (h.pk q hq).below hb⟩
theorem PkR.cells {B : Nat} {ad : Addr} {n c i : Nat} {qs : List XE} {W : World} (h : PkR B (some ad) n c qs W) (hi : i < n) (hl : i < qs.length) {k m : Int} {mv nv kv : Value} {ms : List Mtc} {ns : List ByteArray} {ks : List XE} (e : qs[i] = .mk k m mv ms nv ns kv ks) :
    W.cell? (ad.add (i * 5)) = some (.int .i64 k) ∧ W.cell? ⟨(ad.add (i * 5)).block, (ad.add (i * 5)).off + 1, none⟩ = some (.int .i64 m) ∧ W.cell? ⟨(ad.add (i * 5)).block, (ad.add (i * 5)).off + 2, none⟩ = some mv ∧ W.cell? ⟨(ad.add (i * 5)).block, (ad.add (i * 5)).off + 3, none⟩ = some nv ∧ W.cell? ⟨(ad.add (i * 5)).block, (ad.add (i * 5)).off + 4, none⟩ = some kv := by
  obtain ⟨ad', hl', e0, h0, h1, h2, h3, h4⟩ := (Sees.of_own h.row).kid hi
  injection e0 with e0
  subst e0
  rw [e] at h0 h1 h2 h3 h4
  exact ⟨h0, h1, h2, h3, h4⟩
theorem PkR.okAt {B : Nat} {A : Option Addr} {n c i : Nat} {qs : List XE} {W : World} (h : PkR B A n c qs W) (hl : i < qs.length) {x : XE} (e : qs[i] = x) : okX 1 x W := by
  subst e; exact (h.pk _ (List.getElem_mem hl)).ok 0
theorem PkR.at {B : Nat} {A : Option Addr} {n c i : Nat} {qs : List XE} {W : World} (h : PkR B A n c qs W) (hi : i < n) : ∃ ad, ∃ hl : i < qs.length, A = some ad ∧ ∃ (qn : Int) (M : Option Addr) (mc : Nat) (ms : List Mtc) (N : Option Addr) (nc : Nat) (K : Option Addr) (kc : Nat), qs[i] = .mk 2 qn (.slice M ms.length mc) ms (.slice N 0 nc) [] (.slice K 0 kc) [] := by
  obtain ⟨ad, hl, e0, _⟩ := (Sees.of_own h.row).kid hi
  refine ⟨ad, hl, e0, ?_⟩
  have hp := h.pk _ (List.getElem_mem hl)
  generalize qs[i] = q at *
  obtain ⟨qk, qn, mv, ms, nv, ns, kv, ks⟩ := q
  obtain ⟨h1, h2, h3, h4, ⟨N, nc, h5, _⟩, ⟨K, kc, h6, _⟩⟩ := hp
  obtain ⟨M, mc, h7, _, _⟩ := own_slice h4
  simp only [XE.kd, XE.mv, XE.ms, XE.nv, XE.ns, XE.kv, XE.kids] at h1 h2 h3 h5 h6 h7
  subst h1; subst h2; subst h3; subst h5; subst h6; subst h7
  exact ⟨qn, M, mc, ms, N, nc, K, kc, rfl⟩
/-- The one that is wanted, in its box. -/
structure WantIs (Wq : World) (g14 : Nat) (qk qn : Int) (M : Option Addr) (ms : List Mtc) (mc : Nat) (N : Option Addr) (nc : Nat) (K : Option Addr) (kc : Nat) (W : World) : Prop where
  bel : Below Wq.heap.size Wq W
  blk : Blk W g14 26 [.int .i64 qk, .int .i64 qn, .slice M ms.length mc, .slice N 0 nc, .slice K 0 kc]
  ok : okX 1 (.mk qk qn (.slice M ms.length mc) ms (.slice N 0 nc) [] (.slice K 0 kc) []) W
theorem WantIs.below {Wq W W' : World} {g14 : Nat} {qk qn : Int} {M N K : Option Addr} {ms : List Mtc} {mc nc kc : Nat} (h : WantIs Wq g14 qk qn M ms mc N nc K kc W) (hb : Below W.heap.size W W') : WantIs Wq g14 qk qn M ms mc N nc K kc W' :=
  ⟨h.bel.trans (hb.mono h.bel.size), h.blk.below hb h.blk.lt, okX_below hb 1 _ h.ok⟩
def WantAt (Wq : World) (g14 : Nat) (t : PE) (W : World) : Prop := ∃ (qk qn : Int) (M : Option Addr) (ms : List Mtc) (mc : Nat) (N : Option Addr) (nc : Nat) (K : Option Addr) (kc : Nat), WantIs Wq g14 qk qn M ms mc N nc K kc W ∧ PE.mk qk qn ms [] [] = t
theorem WantAt.set {Wq W : World} {B g14 : Nat} {ad : Addr} {n c i : Nat} {qs : List XE} {t : PE} {z0 z1 z2 z3 z4 : Value} {qn : Int} {M : Option Addr} {mc : Nat} {ms : List Mtc} {N : Option Addr} {nc : Nat} {K : Option Addr} {kc : Nat}
    (hb : Below Wq.heap.size Wq W) (hk : Blk W g14 26 [z0, z1, z2, z3, z4]) (l14 : Wq.heap.size ≤ g14) (hr : ∀ V, Below Wq.heap.size Wq V → PkR B (some ad) n c qs V) (hl : i < qs.length) (e : qs[i] = .mk 2 qn (.slice M ms.length mc) ms (.slice N 0 nc) [] (.slice K 0 kc) []) (ht : (qs[i]).pe = t) :
    WantAt Wq g14 t (set5W W g14 (.int .i64 2) (.int .i64 qn) (.slice M ms.length mc) (.slice N 0 nc) (.slice K 0 kc)) := by
  have hg := set5W_grown W g14 (.int .i64 2) (.int .i64 qn) (.slice M ms.length mc) (.slice N 0 nc) (.slice K 0 kc)
  have hb2 := hb.grown hg hb.size (fun g e => by injection e with e; omega)
  refine ⟨2, qn, M, ms, mc, N, nc, K, kc, ⟨hb2, set5W_blk hk _ _ _ _ _, (hr _ hb2).okAt hl e⟩, ?_⟩
  rw [← ht, e]; rfl
theorem own_set_any {w : World} {base : Nat} {e : TypeId} {size n : Nat} {v : Value} {xs : List Value} (h : w.ownsRow base e size v n xs) (b o : Nat) (u : Value) : ∃ xs', (w.setCell ⟨b, o, none⟩ u).ownsRow base e size v n xs' := by
  by_cases hb : v.ownBlock = some b
  · rcases h.2 with ⟨rfl, _⟩ | ⟨g, cap, cur, rfl, hbg, hh, hnc, hcm, hcs, htake⟩
    · simp [Value.ownBlock] at hb
    · have hg : g = b := by simpa [Value.ownBlock] using hb
      subst hg
      have hl : n * size ≤ cap * size := Nat.mul_le_mul_right _ hnc
      exact ⟨(cur.setIfInBounds o u).toList.take (n * size), by rw [List.length_take, Array.length_toList, Array.size_setIfInBounds, hcs]; omega, .inr ⟨g, cap, cur.setIfInBounds o u, rfl, hbg, by simp [World.setCell, Array.getElem?_modify, hh], hnc, hcm, by simpa using hcs, rfl⟩⟩
  · exact ⟨xs, ownsRow_setCell_other h hb u⟩
theorem own_form1 {w : World} {base : Nat} {e : TypeId} {size n : Nat} {v : Value} {xs : List Value} (h : w.ownsRow base e size v n xs) (hn : 0 < n) (hs : 0 < size) : ∃ g c, v = .slice (some ⟨g, 0, none⟩) n c ∧ (∀ o, w.frozen? ⟨g, o, none⟩ = false) ∧ ∀ o, o < n * size → ∃ u, w.cell? ⟨g, o, none⟩ = some u := by
  rcases h.2 with ⟨rfl, hx⟩ | ⟨g, cap, cur, hv, hbg, hh, hnc, hcm, hcs, htake⟩
  · have := h.1; rw [hx] at this; omega
  · refine ⟨g, cap, hv, fun o => by simp [World.frozen?, hh], fun o ho => ?_⟩
    have hl : n * size ≤ cap * size := Nat.mul_le_mul_right _ hnc
    exact ⟨cur[o], by simp [World.cell?, hh, hcs]⟩
theorem addr_at (b k : Nat) : (⟨b, 0, none⟩ : Addr).add k = ⟨b, k, none⟩ := by unfold Addr.add; split <;> simp_all
/-- What p holds while it is written. -/
structure TnAt (Wz : World) (A : Option Addr) (n c : Nat) (ps : List XE) (W : World) : Prop where
  bel : Below Wz.heap.size Wz W
  row : W.ownsRow Wz.heap.size 26 5 (.slice A n c) n (kcells ps)
  ms : ∀ q ∈ ps, ∃ cs, W.ownsRow Wz.heap.size 54 3 q.mv q.ms.length cs
theorem TnAt.set {Wz W : World} {A : Option Addr} {n c : Nat} {ps : List XE} (h : TnAt Wz A n c ps W) {q : XE} (hq : q ∈ ps) {b : Nat} (hb : q.mv.ownBlock = some b) (o : Nat) (u : Value) : TnAt Wz A n c ps (W.setCell ⟨b, o, none⟩ u) := by
  obtain ⟨cs, hcs⟩ := h.ms q hq
  exact ⟨h.bel.setCell (p := ⟨b, o, none⟩) (hcs.lt b hb).1 u, ownsRow_setCell_other h.row (fun e => own_ne h.row hcs (by decide) b e hb) u, fun q' hq' => by
    obtain ⟨cs', h'⟩ := h.ms q' hq'
    exact own_set_any h' b o u⟩
theorem kid_cells {W : World} {B : Nat} {ad : Addr} {n c i : Nat} {qs : List XE} (h : W.ownsRow B 26 5 (.slice (some ad) n c) n (kcells qs)) (hi : i < n) (hl : i < qs.length) {k m : Int} {mv nv kv : Value} {ms : List Mtc} {ns : List ByteArray} {ks : List XE} (e : qs[i] = .mk k m mv ms nv ns kv ks) :
    W.cell? ⟨(ad.add (i * 5)).block, (ad.add (i * 5)).off + 2, none⟩ = some mv := by
  obtain ⟨ad', hl', e0, h0, h1, h2, h3, h4⟩ := (Sees.of_own h).kid hi
  injection e0 with e0
  subst e0
  rw [e] at h2
  exact h2
set_option maxHeartbeats 8000000 in
theorem expr_picks (k1 k2 : KSet) (kind : Int) (w : World) (o1 : k1.ok w.heap.size w) (o2 : k2.ok w.heap.size w) (w1 : I64 kind) (tab : Tab w) :
    Calls Tryd.prog 8 #[k1.val, k2.val, .int .i64 kind] w fun e w' => e = .returned (.bool true) ∧ Below w.heap.size w w' := by
  have HT := Lib.hid tab
  have hsz : (w.alloc (.cells #[.slice k1.A k1.n k1.c, .slice k1.A2 k1.n2 k1.c2] 35)).heap.size = w.heap.size + 1 := by simp
  have hb : Below w.heap.size w ((w.alloc (.cells #[.slice k1.A k1.n k1.c, .slice k1.A2 k1.n2 k1.c2] 35)).alloc (.cells #[.slice k2.A k2.n k2.c, .slice k2.A2 k2.n2 k2.c2] 35)) := ((Below.refl _ _).alloc (Nat.le_refl _) _).alloc (by simp) _
  have HP0 : Hid (∀ vs, PairI w k1 k2 w.heap.size (w.heap.size + 1) (fun _ => false) vs ((w.alloc (.cells #[.slice k1.A k1.n k1.c, .slice k1.A2 k1.n2 k1.c2] 35)).alloc (.cells #[.slice k2.A k2.n k2.c, .slice k2.A2 k2.n2 k2.c2] 35))) := Lib.hid (fun vs => PairI.start hb ((Blk.mk (heap_alloc_new w _)).alloc _) (by have hh := (Blk.mk (heap_alloc_new (w.alloc (.cells #[.slice k1.A k1.n k1.c, .slice k1.A2 k1.n2 k1.c2] 35)) (.cells #[.slice k2.A k2.n k2.c, .slice k2.A2 k2.n2 k2.c2] 35)) : Blk _ (w.alloc (.cells #[.slice k1.A k1.n k1.c, .slice k1.A2 k1.n2 k1.c2] 35)).heap.size 35 [.slice k2.A k2.n k2.c, .slice k2.A2 k2.n2 k2.c2]); rw [hsz] at hh; exact hh) (o1.below hb) (o2.below hb) vs)
  have HW := Lib.hid (fun V => within_any kind 3 16 V w1 (by omega) (by omega) (by omega))
  obtain ⟨hk1, hk2⟩ := nWithin_in kind (lo := 3) (hi := 16) (by omega)
  obtain ⟨kk, hkk⟩ : ∃ k, nWithin kind 3 16 = k := ⟨_, rfl⟩
  rw [hkk] at HW hk1 hk2
  have HWC := Lib.hid (fun V => (HW.out V).mono fun e w' h => show e = .returned (.int .i64 kk) ∧ Below V.heap.size V w' from ⟨h.1, by rw [← h.2]; exact Below.refl _ _⟩)
  have HK1 := Lib.hid hk1; have HK2 := Lib.hid hk2
  clear hsz hb o1 o2 w1 tab hkk hk1 hk2 HW
  unfold KSet.val
  have HG := Lib.hid (show ∃ g, w.heap.size = g from ⟨_, rfl⟩)
  have HG1 := Lib.hid (show ∃ g, w.heap.size + 1 = g from ⟨_, rfl⟩)
  go_enter Tryd.func8, Tryd.ntmps8
  go_upto_region 1 with fail
  obtain ⟨g2, hg2⟩ := HG1.out
  rw [hg2] at HP0 ⊢
  obtain ⟨g1, hg1⟩ := HG.out
  rw [hg1] at HP0 ⊢
  clear HG HG1 hg1 hg2
  generalize (w.alloc (.cells #[.slice k1.A k1.n k1.c, .slice k1.A2 k1.n2 k1.c2] 35)).alloc (.cells #[.slice k2.A k2.n k2.c, .slice k2.A2 k2.n2 k2.c2] 35) = W0 at *
  refine wp_region_inv_tail 6 (I := PairI w k1 k2 g1 g2) (by kernel_rfl) (by kernel_rfl) (by kernel_rfl) (by kernel_rfl) (by kernel_rfl) (by decide) (by kernel_rfl) ?hI ⟨?o0, ?o1, ?o2, ?o3, ?o4, ?o5, trivial⟩ ?hend
  case hI => exact fun vs => (HP0.out vs).below (Below.refl _ _).drew
  case o0 =>
    intro a w9 L hfr hI hs
    refine ⟨fun hw => ?_, fun hw => absurd hw (by simp [Region.wanted])⟩
    have sA : a.tmps.getD 3 undef = .pointer (some ⟨g1, 0, none⟩) := hfr.at 3 (by kernel_rfl)
    have z0 := hI.b1.cell 0
    have z1 := hI.b1.cell 1
    simp only [List.getElem?_cons_zero, List.getElem?_cons_succ] at z0 z1
    refine opi_yields k1.val ?_ hI.op0
    unfold KSet.val
    simp only [execOp, resolve, List.map_toArray, List.map_cons, List.map_nil, Act.eval, sA, z0, z1]; simp [go_sem, -Array.getD_eq_getD_getElem?, sA, z0, z1]
  case o2 =>
    intro a w9 L hfr hI hs
    refine ⟨fun hw => ?_, fun hw => absurd hw (by simp [Region.wanted])⟩
    have sA : a.tmps.getD 4 undef = .pointer (some ⟨g2, 0, none⟩) := hfr.at 4 (by kernel_rfl)
    have z0 := hI.b2.cell 0
    have z1 := hI.b2.cell 1
    simp only [List.getElem?_cons_zero, List.getElem?_cons_succ] at z0 z1
    refine opi_yields k2.val ?_ hI.op2
    unfold KSet.val
    simp only [execOp, resolve, List.map_toArray, List.map_cons, List.map_nil, Act.eval, sA, z0, z1]; simp [go_sem, -Array.getD_eq_getD_getElem?, sA, z0, z1]
  case o1 =>
    intro a w9 L hfr hI hs
    refine ⟨fun hw => ?_, fun hw => absurd hw (by simp [Region.wanted])⟩
    have sT : a.tmps.getD 19 undef = k1.val := hI.v0 (hs.done (by decide) 0 (by kernel_rfl))
    refine opi_calls2 ((expr_any k1 w9 (hI.o1.up hI.bel.size)).mono fun e' w' hh => ?_) ?_
    · obtain ⟨x, rfl, hk, hx, hb⟩ := hh; exact ⟨_, rfl, hI.op1 hb hk hx⟩
    · simp only [execOp, resolve, List.map_toArray, List.map_cons, List.map_nil, Act.eval, sT]; simp [go_sem, -Array.getD_eq_getD_getElem?, sT]
  case o3 =>
    intro a w9 L hfr hI hs
    refine ⟨fun hw => ?_, fun hw => absurd hw (by simp [Region.wanted])⟩
    have sT : a.tmps.getD 21 undef = k2.val := hI.v2 (hs.done (by decide) 2 (by kernel_rfl))
    refine opi_calls2 ((expr_any k2 w9 (hI.o2.up hI.bel.size)).mono fun e' w' hh => ?_) ?_
    · obtain ⟨x, rfl, hk, hx, hb⟩ := hh; exact ⟨_, rfl, hI.op3 hb hk hx⟩
    · simp only [execOp, resolve, List.map_toArray, List.map_cons, List.map_nil, Act.eval, sT]; simp [go_sem, -Array.getD_eq_getD_getElem?, sT]
  case o4 =>
    intro a w9 L hfr hI hs
    refine ⟨fun hw => ?_, fun hw => absurd hw (by simp [Region.wanted])⟩
    refine opi_yields (w' := w9.alloc (.cells #[.int .i64 0, .int .i64 0, .slice none 0 0, .slice none 0 0, .slice none 0 0] 26)) (.pointer (some ⟨w9.heap.size, 0, none⟩)) ?_ hI.op4
    simp only [execOp, resolve, List.map_toArray, List.map_cons, List.map_nil, Act.eval]; simp [go_sem, -Array.getD_eq_getD_getElem?]
  case o5 =>
    intro a w9 L hfr hI hs
    refine ⟨fun hw => ?_, fun hw => absurd hw (by simp [Region.wanted])⟩
    refine opi_yields (w' := w9.alloc (.cells #[.int .i64 0, .int .i64 0, .slice none 0 0, .slice none 0 0, .slice none 0 0] 26)) (.pointer (some ⟨w9.heap.size, 0, none⟩)) ?_ hI.op5
    simp only [execOp, resolve, List.map_toArray, List.map_cons, List.map_nil, Act.eval]; simp [go_sem, -Array.getD_eq_getD_getElem?]
  case hend =>
  intro vs w8 hI
  obtain ⟨g, q, x, y, ex, ey, eg, eq, kx, ky, ox, oy, bg, bq, hne, hfin⟩ := hI.fin rfl rfl rfl rfl
  obtain ⟨A1, c1, A2, c2, A3, c3, u1, u2, u3⟩ := okX_forms ox
  obtain ⟨B1, b1, B2, b2, B3, b3, t1, t2, t3⟩ := okX_forms oy
  obtain ⟨xk, xn, xmv, xms, xnv, xns, xkv, xks⟩ := x
  obtain ⟨yk, yn, ymv, yms, ynv, yns, ykv, yks⟩ := y
  simp only [XE.mv, XE.nv, XE.kv, XE.ms, XE.ns, XE.kids] at u1 u2 u3 t1 t2 t3
  subst u1; subst u2; subst u3; subst t1; subst t2; subst t3
  have HKX := Lib.hid kx; have HKY := Lib.hid ky
  obtain ⟨z0, z1, z2, z3, z4⟩ := blk_cells5 bg
  obtain ⟨f0, f1, f2, f3, f4⟩ := blk_fr bg
  obtain ⟨y0, y1, y2, y3, y4⟩ := blk_cells5 bq
  obtain ⟨h0, h1, h2, h3, h4⟩ := blk_fr bq
  have hne2 : q ≠ g := Ne.symm hne
  obtain ⟨Wf, hWf⟩ : ∃ V, set5W (set5W w8 g (.int .i64 xk) (.int .i64 xn) (.slice A1 xms.length c1) (.slice A2 xns.length c2) (.slice A3 xks.length c3)) q (.int .i64 yk) (.int .i64 yn) (.slice B1 yms.length b1) (.slice B2 yns.length b2) (.slice B3 yks.length b3) = V := ⟨_, rfl⟩
  have HX : Hid (PairX w g q (.mk xk xn (.slice A1 xms.length c1) xms (.slice A2 xns.length c2) xns (.slice A3 xks.length c3) xks) (.mk yk yn (.slice B1 yms.length b1) yms (.slice B2 yns.length b2) yns (.slice B3 yks.length b3) yks) Wf) := Lib.hid (by rw [← hWf]; exact hfin)
  unfold set5W at hWf
  have HWF := Lib.hid hWf
  unfold XE.val at ex ey
  simp only [XE.kd, XE.n, XE.mv, XE.nv, XE.kv] at ex ey
  clear hI hfin hWf kx ky ox oy bg bq HP0
  change wpList _ _ _ [_, _] (putAll vs 0 [_, _, _, _, _, _] _) _
  simp only [putAll, Act.put, ex, ey, eg, eq]
  clear ex ey eg eq
  go_simp
  go_upto_region 2 with fail
  rw [HWF.out]
  clear HWF z0 z1 z2 z3 z4 f0 f1 f2 f3 f4 y0 y1 y2 y3 y4 h0 h1 h2 h3 h4
  have HBX := Lib.hid (keep_back HKX.out); have HBY := Lib.hid (keep_back HKY.out)
  clear HKX HKY
  obtain ⟨BW, hBW⟩ : ∃ B, w.heap.size = B := ⟨_, rfl⟩
  have HBW := Lib.hid hBW
  clear hBW
  go_cut [9] from 23 to 28 (fun y9 wx => ∃ R g9, y9 = .pointer (some ⟨g9, 0, none⟩) ∧ PZ w g q R g9 (XE.mk xk xn (.slice A1 xms.length c1) xms (.slice A2 xns.length c2) xns (.slice A3 xks.length c3) xks) (XE.mk yk yn (.slice B1 yms.length b1) yms (.slice B2 yns.length b2) yns (.slice B3 yks.length b3) yks) kk wx)
  case first => --done
    refine wp_region_facts_tail 7 (R := fun a b => Below a.heap.size a b) (G := (fun W => PairX w g q (XE.mk xk xn (.slice A1 xms.length c1) xms (.slice A2 xns.length c2) xns (.slice A3 xks.length c3) xks) (XE.mk yk yn (.slice B1 yms.length b1) yms (.slice B2 yns.length b2) yns (.slice B3 yks.length b3) yks) W)) (V := fun i' u' W => match i' with | 0 => u' = .int .i64 kind | 1 => u' = .int .i64 kk | 2 => u' = .agg #[.int .i64 xk, .int .i64 xn, .slice A1 xms.length c1, .slice A2 xns.length c2, .slice A3 xks.length c3] | 3 => u' = .agg #[.int .i64 yk, .int .i64 yn, .slice B1 yms.length b1, .slice B2 yns.length b2, .slice B3 yks.length b3] | 4 => ∃ R, u' = .slice (some ⟨R, 0, none⟩) 2 2 ∧ BW ≤ R ∧ Blk W R 26 (kcells [(XE.mk xk xn (.slice A1 xms.length c1) xms (.slice A2 xns.length c2) xns (.slice A3 xks.length c3) xks), (XE.mk yk yn (.slice B1 yms.length b1) yms (.slice B2 yns.length b2) yns (.slice B3 yks.length b3) yks)]) | 5 => ∃ R, u' = .agg #[.int .i64 kk, .int .i64 0, .slice none 0 0, .slice none 0 0, .slice (some ⟨R, 0, none⟩) 2 2] ∧ BW ≤ R ∧ Blk W R 26 (kcells [(XE.mk xk xn (.slice A1 xms.length c1) xms (.slice A2 xns.length c2) xns (.slice A3 xks.length c3) xks), (XE.mk yk yn (.slice B1 yms.length b1) yms (.slice B2 yns.length b2) yns (.slice B3 yks.length b3) yks)]) | 6 => ∃ G9, u' = .pointer (some ⟨G9, 0, none⟩) ∧ BW ≤ G9 ∧ Blk W G9 26 zeroCs | _ => True) (by kernel_rfl) (fun w => Below.refl _ _) (fun a b c h1 h2 => h1.trans (h2.mono h1.size)) (by kernel_rfl) (by kernel_rfl) (by kernel_rfl) (by kernel_rfl) (by decide) (by kernel_rfl) ?hG ⟨?o0, ?o1, ?o2, ?o3, ?o4, ?o5, ?o6, trivial⟩ ?hend
    case o0 =>
      intro a w hfr hG hd
      refine ⟨fun hw => ?_, fun hw => absurd hw (by simp [Region.wanted])⟩
      have s2 : a.tmps.getD 2 undef = .int .i64 kind := hfr.at 2 (by kernel_rfl)
      refine op_yields (.int .i64 kind) ?_ ?_ ?_
      · simp only [execOp, resolve, List.map_toArray, List.map_cons, List.map_nil, Act.eval, s2]; simp [go_sem, -Array.getD_eq_getD_getElem?, s2]
      · exact Below.refl _ _
      · exact (fun _ _ => rfl)
    case o1 =>
      intro a w hfr hG hd
      obtain ⟨d0, _⟩ := hd
      refine ⟨fun hw => ?_, fun hw => absurd hw (by simp [Region.wanted])⟩
      have s23 : a.tmps.getD 23 undef = .int .i64 kind := (d0 rfl).now
      refine op_calls2 ((HWC.out w).mono fun e' w' hh => ⟨_, hh.1, hh.2, (fun _ _ => rfl)⟩) ?_
      simp only [execOp, resolve, List.map_toArray, List.map_cons, List.map_nil, Act.eval, s23]; simp [go_sem, -Array.getD_eq_getD_getElem?, s23]
    case o2 =>
      intro a w hfr hG hd
      refine ⟨fun hw => ?_, fun hw => absurd hw (by simp [Region.wanted])⟩
      have s7 : a.tmps.getD 7 undef = .pointer (some ⟨g, 0, none⟩) := hfr.at 7 (by kernel_rfl)
      obtain ⟨z0, z1, z2, z3, z4⟩ := blk_cells5 hG.now.bx; simp only [XE.kd, XE.n, XE.mv, XE.nv, XE.kv] at z0 z1 z2 z3 z4
      refine op_yields (.agg #[.int .i64 xk, .int .i64 xn, .slice A1 xms.length c1, .slice A2 xns.length c2, .slice A3 xks.length c3]) ?_ ?_ ?_
      · simp only [execOp, resolve, List.map_toArray, List.map_cons, List.map_nil, Act.eval, s7]; simp [go_sem, -Array.getD_eq_getD_getElem?, s7, z0, z1, z2, z3, z4]
      · exact Below.refl _ _
      · exact (fun _ _ => rfl)
    case o3 =>
      intro a w hfr hG hd
      refine ⟨fun hw => ?_, fun hw => absurd hw (by simp [Region.wanted])⟩
      have s8 : a.tmps.getD 8 undef = .pointer (some ⟨q, 0, none⟩) := hfr.at 8 (by kernel_rfl)
      obtain ⟨z0, z1, z2, z3, z4⟩ := blk_cells5 hG.now.by_; simp only [XE.kd, XE.n, XE.mv, XE.nv, XE.kv] at z0 z1 z2 z3 z4
      refine op_yields (.agg #[.int .i64 yk, .int .i64 yn, .slice B1 yms.length b1, .slice B2 yns.length b2, .slice B3 yks.length b3]) ?_ ?_ ?_
      · simp only [execOp, resolve, List.map_toArray, List.map_cons, List.map_nil, Act.eval, s8]; simp [go_sem, -Array.getD_eq_getD_getElem?, s8, z0, z1, z2, z3, z4]
      · exact Below.refl _ _
      · exact (fun _ _ => rfl)
    case o4 =>
      intro a w hfr hG hd
      obtain ⟨d0, d1, _⟩ := hd
      refine ⟨fun hw => ?_, fun hw => absurd hw (by simp [Region.wanted])⟩
      have s25 : a.tmps.getD 25 undef = .agg #[.int .i64 xk, .int .i64 xn, .slice A1 xms.length c1, .slice A2 xns.length c2, .slice A3 xks.length c3] := (d0 rfl).now
      have s26 : a.tmps.getD 26 undef = .agg #[.int .i64 yk, .int .i64 yn, .slice B1 yms.length b1, .slice B2 yns.length b2, .slice B3 yks.length b3] := (d1 rfl).now
      exact op_makes (.slice (some ⟨w.heap.size, 0, none⟩) 2 2) (w' := w.alloc (.cells #[.int .i64 xk, .int .i64 xn, .slice A1 xms.length c1, .slice A2 xns.length c2, .slice A3 xks.length c3, .int .i64 yk, .int .i64 yn, .slice B1 yms.length b1, .slice B2 yns.length b2, .slice B3 yks.length b3] 26)) (by simp only [execOp, resolve, List.map_toArray, List.map_cons, List.map_nil, Act.eval, s25, s26]; simp [go_sem, -Array.getD_eq_getD_getElem?, s25, s26]) ((Below.refl _ _).alloc (Nat.le_refl _) _) (fun W' hW' => ⟨_, rfl, (by rw [← HBW.out]; exact hG.now.bel.size), (Blk.mk (heap_alloc_new _ _) : Blk _ _ _ (kcells [(XE.mk xk xn (.slice A1 xms.length c1) xms (.slice A2 xns.length c2) xns (.slice A3 xks.length c3) xks), (XE.mk yk yn (.slice B1 yms.length b1) yms (.slice B2 yns.length b2) yns (.slice B3 yks.length b3) yks)])).below hW' (by simp)⟩)
    case o5 =>
      intro a w hfr hG hd
      obtain ⟨d0, d1, _⟩ := hd
      refine ⟨fun hw => ?_, fun hw => absurd hw (by simp [Region.wanted])⟩
      have s24 : a.tmps.getD 24 undef = .int .i64 kk := (d0 rfl).now
      have p27 : Hold (fun a b => Below a.heap.size a b) (fun W => ∃ R, (a.tmps.getD 27 undef) = .slice (some ⟨R, 0, none⟩) 2 2 ∧ BW ≤ R ∧ Blk W R 26 (kcells [(XE.mk xk xn (.slice A1 xms.length c1) xms (.slice A2 xns.length c2) xns (.slice A3 xks.length c3) xks), (XE.mk yk yn (.slice B1 yms.length b1) yms (.slice B2 yns.length b2) yns (.slice B3 yks.length b3) yks)])) w := d1 rfl
      obtain ⟨R, s27, lR, f27⟩ := p27.now; exact op_yields (.agg #[.int .i64 kk, .int .i64 0, .slice none 0 0, .slice none 0 0, .slice (some ⟨R, 0, none⟩) 2 2]) (by simp only [execOp, resolve, List.map_toArray, List.map_cons, List.map_nil, Act.eval, s24, s27]; simp [go_sem, -Array.getD_eq_getD_getElem?, s24, s27]) (Below.refl _ _) (fun W' hW' => ⟨R, rfl, lR, f27.below hW' f27.lt⟩)
    case o6 =>
      intro a w hfr hG hd
      refine ⟨fun hw => ?_, fun hw => absurd hw (by simp [Region.wanted])⟩
      exact op_makes (.pointer (some ⟨w.heap.size, 0, none⟩)) (w' := w.alloc (.cells #[.int .i64 0, .int .i64 0, .slice none 0 0, .slice none 0 0, .slice none 0 0] 26)) (by simp only [execOp, Act.eval]; simp [go_sem, -Array.getD_eq_getD_getElem?]) ((Below.refl _ _).alloc (Nat.le_refl _) _) (fun W' hW' => ⟨_, rfl, (by rw [← HBW.out]; exact hG.now.bel.size), (Blk.mk (heap_alloc_new _ _) : Blk _ _ _ zeroCs).below hW' (by simp)⟩)
    case hG => exact fun w' hb => HX.out.below ((Below.refl _ _).drew.trans (hb.mono (by simp)))
    case hend =>
      intro vs w' hG hv
      have key : (∃ R, vs 5 = .agg #[.int .i64 kk, .int .i64 0, .slice none 0 0, .slice none 0 0, .slice (some ⟨R, 0, none⟩) 2 2] ∧ BW ≤ R ∧ Blk w' R 26 (kcells [(XE.mk xk xn (.slice A1 xms.length c1) xms (.slice A2 xns.length c2) xns (.slice A3 xks.length c3) xks), (XE.mk yk yn (.slice B1 yms.length b1) yms (.slice B2 yns.length b2) yns (.slice B3 yks.length b3) yks)])) ∧ (∃ G9, vs 6 = .pointer (some ⟨G9, 0, none⟩) ∧ BW ≤ G9 ∧ Blk w' G9 26 zeroCs) := by
        obtain ⟨_, _, _, _, _, h5, h6, _⟩ := hv
        exact ⟨h5.now, h6.now⟩
      obtain ⟨⟨R, e5, lR, bR⟩, ⟨g9, e6, l9, b9⟩⟩ := key
      have HZ := Lib.hid (PZ.start kk hG.now (by rw [HBX.out.ty]; decide) (by rw [HBY.out.ty]; decide) bR b9 (by rw [HBW.out]; exact l9))
      obtain ⟨z0, z1, z2, z3, z4⟩ := blk_cells5 b9
      obtain ⟨f0, f1, f2, f3, f4⟩ := blk_fr b9
      clear hv hG HX bR b9 lR l9
      change wpList _ _ _ [_] (putAll vs 0 [_, _, _, _, _, _, _] _) _
      simp only [putAll, Act.put, e5, e6]
      clear e5 e6
      go_simp
      go_wp2_with fail
      go_meet
      exact ⟨R, g9, rfl, HZ.out⟩
  case rest =>
    obtain ⟨R, g9, rfl, hat⟩ := hcut
    clear HX
    have HZ := Lib.hid hat
    clear hat
    obtain ⟨Wz, hWz⟩ : ∃ W, wc = W := ⟨_, rfl⟩
    rw [hWz] at HZ ⊢
    clear hWz
    obtain ⟨px, hpx⟩ : ∃ p, ((XE.mk xk xn (.slice A1 xms.length c1) xms (.slice A2 xns.length c2) xns (.slice A3 xks.length c3) xks)).pe.picks = p := ⟨_, rfl⟩
    obtain ⟨py, hpy⟩ : ∃ p, ((XE.mk yk yn (.slice B1 yms.length b1) yms (.slice B2 yns.length b2) yns (.slice B3 yks.length b3) yks)).pe.picks = p := ⟨_, rfl⟩
    have hlx := picks_le 5 _ HBX.out.deep (by rw [HBX.out.ty]; decide)
    have hly := picks_le 5 _ HBY.out.deep (by rw [HBY.out.ty]; decide)
    have e5 : (2 : Nat) ^ 5 = 32 := rfl
    rw [e5, hpx] at hlx
    rw [e5, hpy] at hly
    have HPX := Lib.hid (fun V (hV : Below Wz.heap.size Wz V) => show Calls Tryd.prog 23 #[.agg #[.int .i64 xk, .int .i64 xn, .slice A1 xms.length c1, .slice A2 xns.length c2, .slice A3 xks.length c3]] V fun e w' => ∃ v, e = .returned v ∧ PkV V.heap.size px v w' ∧ Below V.heap.size V w' by
      have h := picks_any 5 (XE.mk xk xn (.slice A1 xms.length c1) xms (.slice A2 xns.length c2) xns (.slice A3 xks.length c3) xks) V ((HZ.out.below hV).p.ox) (fit_typed (by rw [HBX.out.ty]; decide)) (by rw [hpx]; omega)
      rw [hpx] at h; exact h)
    have HPY := Lib.hid (fun V (hV : Below Wz.heap.size Wz V) => show Calls Tryd.prog 23 #[.agg #[.int .i64 yk, .int .i64 yn, .slice B1 yms.length b1, .slice B2 yns.length b2, .slice B3 yks.length b3]] V fun e w' => ∃ v, e = .returned v ∧ PkV V.heap.size py v w' ∧ Below V.heap.size V w' by
      have h := picks_any 5 (XE.mk yk yn (.slice B1 yms.length b1) yms (.slice B2 yns.length b2) yns (.slice B3 yks.length b3) yks) V ((HZ.out.below hV).p.oy) (fit_typed (by rw [HBY.out.ty]; decide)) (by rw [hpy]; omega)
      rw [hpy] at h; exact h)
    have hpz : (pairX kk R (XE.mk xk xn (.slice A1 xms.length c1) xms (.slice A2 xns.length c2) xns (.slice A3 xks.length c3) xks) (XE.mk yk yn (.slice B1 yms.length b1) yms (.slice B2 yns.length b2) yns (.slice B3 yks.length b3) yks)).pe.picks = px ++ py := by
      show PE.picks (.mk kk 0 [] [] [((XE.mk xk xn (.slice A1 xms.length c1) xms (.slice A2 xns.length c2) xns (.slice A3 xks.length c3) xks)).pe, ((XE.mk yk yn (.slice B1 yms.length b1) yms (.slice B2 yns.length b2) yns (.slice B3 yks.length b3) yks)).pe]) = _
      unfold PE.picks picksP picksP picksP
      rw [if_neg (by have := HK1.out; omega), hpx, hpy]
      simp
    have HPZ := Lib.hid (fun V (hV : Below Wz.heap.size Wz V) => show Calls Tryd.prog 23 #[.agg #[.int .i64 kk, .int .i64 0, .slice none 0 0, .slice none 0 0, .slice (some ⟨R, 0, none⟩) 2 2]] V fun e w' => ∃ v, e = .returned v ∧ PkV V.heap.size (px ++ py) v w' ∧ Below V.heap.size V w' by
      have h := picks_any 6 (pairX kk R (XE.mk xk xn (.slice A1 xms.length c1) xms (.slice A2 xns.length c2) xns (.slice A3 xks.length c3) xks) (XE.mk yk yn (.slice B1 yms.length b1) yms (.slice B2 yns.length b2) yns (.slice B3 yks.length b3) yks)) V ((HZ.out.below hV).oz) ⟨fun k hk => by
        have hk : k ∈ [(XE.mk xk xn (.slice A1 xms.length c1) xms (.slice A2 xns.length c2) xns (.slice A3 xks.length c3) xks), (XE.mk yk yn (.slice B1 yms.length b1) yms (.slice B2 yns.length b2) yns (.slice B3 yks.length b3) yks)] := hk
        rw [List.mem_cons, List.mem_singleton] at hk
        rcases hk with rfl | rfl
        · rw [HBX.out.ty]; decide
        · rw [HBY.out.ty]; decide, by show 2 ≤ 2; omega, fun e => by
        have e : kk = 2 := e
        have := HK1.out; omega⟩ (by rw [hpz, List.length_append]; omega)
      rw [hpz] at h; exact h)
    have HCX := Lib.hid (fun V (hV : Below Wz.heap.size Wz V) => show V.cell? ⟨g, 0, none⟩ = some (.int .i64 xk) ∧ V.cell? ⟨g, 1, none⟩ = some (.int .i64 xn) ∧ V.cell? ⟨g, 2, none⟩ = some (.slice A1 xms.length c1) ∧ V.cell? ⟨g, 3, none⟩ = some (.slice A2 xns.length c2) ∧ V.cell? ⟨g, 4, none⟩ = some (.slice A3 xks.length c3) from blk_cells5 (HZ.out.below hV).p.bx)
    have HCY := Lib.hid (fun V (hV : Below Wz.heap.size Wz V) => show V.cell? ⟨q, 0, none⟩ = some (.int .i64 yk) ∧ V.cell? ⟨q, 1, none⟩ = some (.int .i64 yn) ∧ V.cell? ⟨q, 2, none⟩ = some (.slice B1 yms.length b1) ∧ V.cell? ⟨q, 3, none⟩ = some (.slice B2 yns.length b2) ∧ V.cell? ⟨q, 4, none⟩ = some (.slice B3 yks.length b3) from blk_cells5 (HZ.out.below hV).p.by_)
    have HCZ := Lib.hid (fun V (hV : Below Wz.heap.size Wz V) => blk_cells5 (HZ.out.below hV).bz)
    go_upto_region 3 with fail
    go_cut [10, 11, 12] from 29 to 34 (fun y10 y11 y12 wx => PkV Wz.heap.size px y10 wx ∧ PkV Wz.heap.size py y11 wx ∧ PkV Wz.heap.size (px ++ py) y12 wx ∧ Below Wz.heap.size Wz wx)
    case first => --done
      refine wp_region_facts (R := fun a b => Below a.heap.size a b) (G := (fun W => Below Wz.heap.size Wz W)) (V := fun i' u' W => match i' with | 0 => u' = .agg #[.int .i64 xk, .int .i64 xn, .slice A1 xms.length c1, .slice A2 xns.length c2, .slice A3 xks.length c3] | 1 => PkV Wz.heap.size px u' W | 2 => u' = .agg #[.int .i64 yk, .int .i64 yn, .slice B1 yms.length b1, .slice B2 yns.length b2, .slice B3 yks.length b3] | 3 => PkV Wz.heap.size py u' W | 4 => u' = .agg #[.int .i64 kk, .int .i64 0, .slice none 0 0, .slice none 0 0, .slice (some ⟨R, 0, none⟩) 2 2] | 5 => PkV Wz.heap.size (px ++ py) u' W | 6 => PkV Wz.heap.size px u' W | 7 => PkV Wz.heap.size py u' W | 8 => PkV Wz.heap.size (px ++ py) u' W | _ => True) (by kernel_rfl) (fun w => Below.refl _ _) (fun a b c h1 h2 => h1.trans (h2.mono h1.size)) (by kernel_rfl) (by kernel_rfl) ?hG ⟨?o0, ?o1, ?o2, ?o3, ?o4, ?o5, ?o6, ?o7, ?o8, trivial⟩ ?hend
      case o0 =>
        intro a w hfr hG hd
        refine ⟨fun hw => ?_, fun hw => absurd hw (by simp [Region.wanted])⟩
        have s7 : a.tmps.getD 7 undef = .pointer (some ⟨g, 0, none⟩) := hfr.at 7 (by kernel_rfl)
        obtain ⟨z0, z1, z2, z3, z4⟩ := HCX.out w hG.now
        refine op_yields (.agg #[.int .i64 xk, .int .i64 xn, .slice A1 xms.length c1, .slice A2 xns.length c2, .slice A3 xks.length c3]) ?_ ?_ ?_
        · simp only [execOp, resolve, List.map_toArray, List.map_cons, List.map_nil, Act.eval, s7]; simp [go_sem, -Array.getD_eq_getD_getElem?, s7, z0, z1, z2, z3, z4]
        · exact Below.refl _ _
        · exact (fun _ _ => rfl)
      case o1 =>
        intro a w hfr hG hd
        obtain ⟨d0, _⟩ := hd
        refine ⟨fun hw => ?_, fun hw => absurd hw (by simp [Region.wanted])⟩
        have s29 : a.tmps.getD 29 undef = .agg #[.int .i64 xk, .int .i64 xn, .slice A1 xms.length c1, .slice A2 xns.length c2, .slice A3 xks.length c3] := (d0 rfl).now
        refine op_calls2 ((HPX.out w hG.now).mono fun e' w' hh => ?_) ?_; (obtain ⟨v, rfl, hpk, hb⟩ := hh; exact ⟨v, rfl, hb, fun W' hW' => (hpk.mono hG.now.size).below hW'⟩); simp only [execOp, resolve, List.map_toArray, List.map_cons, List.map_nil, Act.eval, s29]; simp [go_sem, -Array.getD_eq_getD_getElem?, s29]
      case o2 =>
        intro a w hfr hG hd
        refine ⟨fun hw => ?_, fun hw => absurd hw (by simp [Region.wanted])⟩
        have s8 : a.tmps.getD 8 undef = .pointer (some ⟨q, 0, none⟩) := hfr.at 8 (by kernel_rfl)
        obtain ⟨z0, z1, z2, z3, z4⟩ := HCY.out w hG.now
        refine op_yields (.agg #[.int .i64 yk, .int .i64 yn, .slice B1 yms.length b1, .slice B2 yns.length b2, .slice B3 yks.length b3]) ?_ ?_ ?_
        · simp only [execOp, resolve, List.map_toArray, List.map_cons, List.map_nil, Act.eval, s8]; simp [go_sem, -Array.getD_eq_getD_getElem?, s8, z0, z1, z2, z3, z4]
        · exact Below.refl _ _
        · exact (fun _ _ => rfl)
      case o3 =>
        intro a w hfr hG hd
        obtain ⟨d0, d1, _⟩ := hd
        refine ⟨fun hw => ?_, fun hw => absurd hw (by simp [Region.wanted])⟩
        have s31 : a.tmps.getD 31 undef = .agg #[.int .i64 yk, .int .i64 yn, .slice B1 yms.length b1, .slice B2 yns.length b2, .slice B3 yks.length b3] := (d0 rfl).now
        refine op_calls2 ((HPY.out w hG.now).mono fun e' w' hh => ?_) ?_; (obtain ⟨v, rfl, hpk, hb⟩ := hh; exact ⟨v, rfl, hb, fun W' hW' => (hpk.mono hG.now.size).below hW'⟩); simp only [execOp, resolve, List.map_toArray, List.map_cons, List.map_nil, Act.eval, s31]; simp [go_sem, -Array.getD_eq_getD_getElem?, s31]
      case o4 =>
        intro a w hfr hG hd
        refine ⟨fun hw => ?_, fun hw => absurd hw (by simp [Region.wanted])⟩
        have s9 : a.tmps.getD 9 undef = .pointer (some ⟨g9, 0, none⟩) := hfr.at 9 (by kernel_rfl)
        obtain ⟨z0, z1, z2, z3, z4⟩ := HCZ.out w hG.now
        refine op_yields (.agg #[.int .i64 kk, .int .i64 0, .slice none 0 0, .slice none 0 0, .slice (some ⟨R, 0, none⟩) 2 2]) ?_ ?_ ?_
        · simp only [execOp, resolve, List.map_toArray, List.map_cons, List.map_nil, Act.eval, s9]; simp [go_sem, -Array.getD_eq_getD_getElem?, s9, z0, z1, z2, z3, z4]
        · exact Below.refl _ _
        · exact (fun _ _ => rfl)
      case o5 =>
        intro a w hfr hG hd
        obtain ⟨d0, d1, _⟩ := hd
        refine ⟨fun hw => ?_, fun hw => absurd hw (by simp [Region.wanted])⟩
        have s33 : a.tmps.getD 33 undef = .agg #[.int .i64 kk, .int .i64 0, .slice none 0 0, .slice none 0 0, .slice (some ⟨R, 0, none⟩) 2 2] := (d0 rfl).now
        refine op_calls2 ((HPZ.out w hG.now).mono fun e' w' hh => ?_) ?_; (obtain ⟨v, rfl, hpk, hb⟩ := hh; exact ⟨v, rfl, hb, fun W' hW' => (hpk.mono hG.now.size).below hW'⟩); simp only [execOp, resolve, List.map_toArray, List.map_cons, List.map_nil, Act.eval, s33]; simp [go_sem, -Array.getD_eq_getD_getElem?, s33]
      case o6 =>
        intro a w hfr hG hd
        obtain ⟨d0, d1, d2, d3, d4, d5, d6, d7, _⟩ := hd
        refine ⟨fun hw => ?_, fun hw => absurd hw (by simp [Region.wanted])⟩
        have p30 : Hold (fun a b => Below a.heap.size a b) (fun W => PkV Wz.heap.size px (a.tmps.getD 30 undef) W) w := d0 rfl
        refine op_yields (a.tmps.getD 30 undef) ?_ ?_ ?_
        · simp only [execOp, Act.eval]; rfl
        · exact Below.refl _ _
        · exact p30
      case o7 =>
        intro a w hfr hG hd
        obtain ⟨d0, d1, d2, d3, d4, d5, d6, d7, d8, _⟩ := hd
        refine ⟨fun hw => ?_, fun hw => absurd hw (by simp [Region.wanted])⟩
        have p32 : Hold (fun a b => Below a.heap.size a b) (fun W => PkV Wz.heap.size py (a.tmps.getD 32 undef) W) w := d0 rfl
        refine op_yields (a.tmps.getD 32 undef) ?_ ?_ ?_
        · simp only [execOp, Act.eval]; rfl
        · exact Below.refl _ _
        · exact p32
      case o8 =>
        intro a w hfr hG hd
        obtain ⟨d0, d1, d2, d3, d4, d5, d6, d7, d8, d9, _⟩ := hd
        refine ⟨fun hw => ?_, fun hw => absurd hw (by simp [Region.wanted])⟩
        have p34 : Hold (fun a b => Below a.heap.size a b) (fun W => PkV Wz.heap.size (px ++ py) (a.tmps.getD 34 undef) W) w := d0 rfl
        refine op_yields (a.tmps.getD 34 undef) ?_ ?_ ?_
        · simp only [execOp, Act.eval]; rfl
        · exact Below.refl _ _
        · exact p34
      case hG => exact fun w' hb => (Below.refl _ _).drew.trans (hb.mono (by simp))
      case hend =>
        intro vs w' hG hv
        have key : PkV Wz.heap.size px (vs 6) w' ∧ PkV Wz.heap.size py (vs 7) w' ∧ PkV Wz.heap.size (px ++ py) (vs 8) w' := by
          obtain ⟨_, _, _, _, _, _, h6, h7, h8, _⟩ := hv
          exact ⟨h6.now, h7.now, h8.now⟩
        have HK := Lib.hid key
        have HB2 := Lib.hid hG.now
        clear hv hG key HPX HPY HPZ HCX HCY HCZ
        simp only [putAll, Act.put]
        go_simp
        go_wp2_with fail
        go_meet
        exact ⟨HK.out.1, HK.out.2.1, HK.out.2.2, HB2.out⟩
    case rest =>
      obtain ⟨hA, hB, hC, hbel⟩ := hcut
      obtain ⟨Wq, hWq⟩ : ∃ W, wc = W := ⟨_, rfl⟩
      rw [hWq] at hA hB hC hbel ⊢
      obtain ⟨Ap, np, cp, ps, rfl, r1, r2, r3, r4⟩ := hA
      obtain ⟨Aq, nq, cq, qs, rfl, s1, s2, s3, s4⟩ := hB
      obtain ⟨Al, nl, cl, ls, rfl, t1, t2, t3, t4⟩ := hC
      have HRP := Lib.hid (fun V (hV : Below Wq.heap.size Wq V) => PkR.below (⟨r1, r2⟩ : PkR Wz.heap.size Ap np cp ps Wq) hV)
      have HRQ := Lib.hid (fun V (hV : Below Wq.heap.size Wq V) => PkR.below (⟨s1, s2⟩ : PkR Wz.heap.size Aq nq cq qs Wq) hV)
      have HRL := Lib.hid (fun V (hV : Below Wq.heap.size Wq V) => PkR.below (⟨t1, t2⟩ : PkR Wz.heap.size Al nl cl ls Wq) hV)
      have HMP := Lib.hid r4; have HMQ := Lib.hid s4; have HML := Lib.hid t4
      have HLP := Lib.hid r3; have HLQ := Lib.hid s3; have HLL := Lib.hid t3
      have HBZ := Lib.hid hbel
      have HZQ := Lib.hid (fun V (hV : Below Wq.heap.size Wq V) => HZ.out.below (hbel.trans (hV.mono hbel.size)))
      have hnp : np = px.length := by rw [← r3, ← r4, List.length_map]
      have hnq : nq = py.length := by rw [← s3, ← s4, List.length_map]
      have hnl : nl = np + nq := by rw [← t3, ← List.length_map (f := XE.pe), t4, List.length_append, hnp, hnq]
      have hp1 : 1 ≤ np := by rw [hnp, ← hpx]; exact picks_pos 5 _ HBX.out.deep HBX.out.ty
      have hnp32 : np ≤ 32 := by rw [hnp]; exact hlx
      have hnq32 : nq ≤ 32 := by rw [hnq]; exact hly
      have HPXF := Lib.hid (fun p (hp : p ∈ px) => pick_facts 5 _ p HBX.out.deep (by rw [HBX.out.ty]; decide) (by rw [hpx]; exact hp))
      have HPYF := Lib.hid (fun p (hp : p ∈ py) => pick_facts 5 _ p HBY.out.deep (by rw [HBY.out.ty]; decide) (by rw [hpy]; exact hp))
      clear hWq r1 r2 r3 r4 s1 s2 s3 s4 t1 t2 t3 t4 hbel HPX HPY HPZ HCX HCY HCZ hpx hpy hpz hlx hly e5 hnp hnq
      have HCX := Lib.hid (fun V (hV : Below Wq.heap.size Wq V) => show V.cell? ⟨g, 0, none⟩ = some (.int .i64 xk) ∧ V.cell? ⟨g, 1, none⟩ = some (.int .i64 xn) ∧ V.cell? ⟨g, 2, none⟩ = some (.slice A1 xms.length c1) ∧ V.cell? ⟨g, 3, none⟩ = some (.slice A2 xns.length c2) ∧ V.cell? ⟨g, 4, none⟩ = some (.slice A3 xks.length c3) from blk_cells5 (HZQ.out V hV).p.bx)
      have HCY := Lib.hid (fun V (hV : Below Wq.heap.size Wq V) => show V.cell? ⟨q, 0, none⟩ = some (.int .i64 yk) ∧ V.cell? ⟨q, 1, none⟩ = some (.int .i64 yn) ∧ V.cell? ⟨q, 2, none⟩ = some (.slice B1 yms.length b1) ∧ V.cell? ⟨q, 3, none⟩ = some (.slice B2 yns.length b2) ∧ V.cell? ⟨q, 4, none⟩ = some (.slice B3 yks.length b3) from blk_cells5 (HZQ.out V hV).p.by_)
      have HCZ := Lib.hid (fun V (hV : Below Wq.heap.size Wq V) => blk_cells5 (HZQ.out V hV).bz)
      obtain ⟨dx, hdx⟩ : ∃ d, ((XE.mk xk xn (.slice A1 xms.length c1) xms (.slice A2 xns.length c2) xns (.slice A3 xks.length c3) xks)).pe.deep = d := ⟨_, rfl⟩
      obtain ⟨dy, hdy⟩ : ∃ d, ((XE.mk yk yn (.slice B1 yms.length b1) yms (.slice B2 yns.length b2) yns (.slice B3 yks.length b3) yks)).pe.deep = d := ⟨_, rfl⟩
      have hdx5 : dx ≤ 5 := by rw [← hdx]; exact HBX.out.deep
      have hdy5 : dy ≤ 5 := by rw [← hdy]; exact HBY.out.deep
      have HDX := Lib.hid (fun V (hV : Below Wq.heap.size Wq V) => show Calls Tryd.prog 11 #[.agg #[.int .i64 xk, .int .i64 xn, .slice A1 xms.length c1, .slice A2 xns.length c2, .slice A3 xks.length c3]] V fun e w' => e = .returned (.int .i64 (dx : Nat)) ∧ Below V.heap.size V w' by
        have h := deep_any 5 (XE.mk xk xn (.slice A1 xms.length c1) xms (.slice A2 xns.length c2) xns (.slice A3 xks.length c3) xks) V (HZQ.out V hV).p.ox (by decide)
        rw [hdx] at h; exact h)
      have HDY := Lib.hid (fun V (hV : Below Wq.heap.size Wq V) => show Calls Tryd.prog 11 #[.agg #[.int .i64 yk, .int .i64 yn, .slice B1 yms.length b1, .slice B2 yns.length b2, .slice B3 yks.length b3]] V fun e w' => e = .returned (.int .i64 (dy : Nat)) ∧ Below V.heap.size V w' by
        have h := deep_any 5 (XE.mk yk yn (.slice B1 yms.length b1) yms (.slice B2 yns.length b2) yns (.slice B3 yks.length b3) yks) V (HZQ.out V hV).p.oy (by decide)
        rw [hdy] at h; exact h)
      have HDZ := Lib.hid (fun V (hV : Below Wq.heap.size Wq V) => show Calls Tryd.prog 11 #[.agg #[.int .i64 kk, .int .i64 0, .slice none 0 0, .slice none 0 0, .slice (some ⟨R, 0, none⟩) 2 2]] V fun e w' => e = .returned (.int .i64 (1 + max (dx : Int) dy)) ∧ Below V.heap.size V w' by
        have h := deep_any 6 (pairX kk R (XE.mk xk xn (.slice A1 xms.length c1) xms (.slice A2 xns.length c2) xns (.slice A3 xks.length c3) xks) (XE.mk yk yn (.slice B1 yms.length b1) yms (.slice B2 yns.length b2) yns (.slice B3 yks.length b3) yks)) V (HZQ.out V hV).oz (by decide)
        rw [show ((pairX kk R (XE.mk xk xn (.slice A1 xms.length c1) xms (.slice A2 xns.length c2) xns (.slice A3 xks.length c3) xks) (XE.mk yk yn (.slice B1 yms.length b1) yms (.slice B2 yns.length b2) yns (.slice B3 yks.length b3) yks)).pe.deep : Int) = 1 + max (dx : Int) dy by
          show ((PE.mk kk 0 [] [] [((XE.mk xk xn (.slice A1 xms.length c1) xms (.slice A2 xns.length c2) xns (.slice A3 xks.length c3) xks)).pe, ((XE.mk yk yn (.slice B1 yms.length b1) yms (.slice B2 yns.length b2) yns (.slice B3 yks.length b3) yks)).pe]).deep : Int) = _
          unfold PE.deep deepsP deepsP deepsP
          rw [hdx, hdy]; omega] at h
        exact h)
      have hw4 : IntKind.i64.wrap ((np : Int) + nq) = (np : Int) + nq := IntWalk.i64_in _ (by omega)
      have hw5 : IntKind.i64.wrap (1 + max (dx : Int) dy) = 1 + max (dx : Int) dy := IntWalk.i64_in _ (by omega)
      have hnl4 : ((nl : Int) != (np : Int) + nq) = false := by rw [hnl]; simp
      have hnp4 : ¬ ((np : Int) < 1) := by omega
      have hnl64 : nl ≤ 64 := by omega
      have HNL := Lib.hid hnl
      clear hdx hdy hnl
      go_upto_region 4 with fail
      go_cut [58] from 35 to 58 (fun y58 wx => y58 = .bool false ∧ Below Wq.heap.size Wq wx)
      case first => --done
        refine wp_region_facts (R := fun a b => Below a.heap.size a b) (G := (fun W => Below Wq.heap.size Wq W)) (V := fun i' u' W => match i' with | 0 => u' = .slice Al nl cl | 1 => u' = .int .i64 nl | 2 => u' = .slice Ap np cp | 3 => u' = .int .i64 np | 4 => u' = .slice Aq nq cq | 5 => u' = .int .i64 nq | 6 => u' = .int .i64 ((np : Int) + nq) | 7 => u' = .bool false | 8 => u' = .bool false | 9 => u' = .agg #[.int .i64 kk, .int .i64 0, .slice none 0 0, .slice none 0 0, .slice (some ⟨R, 0, none⟩) 2 2] | 10 => u' = .int .i64 (1 + max (dx : Int) dy) | 11 => u' = .agg #[.int .i64 xk, .int .i64 xn, .slice A1 xms.length c1, .slice A2 xns.length c2, .slice A3 xks.length c3] | 12 => u' = .int .i64 dx | 13 => u' = .agg #[.int .i64 yk, .int .i64 yn, .slice B1 yms.length b1, .slice B2 yns.length b2, .slice B3 yks.length b3] | 14 => u' = .int .i64 dy | 15 => u' = .int .i64 (max (dx : Int) dy) | 16 => u' = .int .i64 (1 + max (dx : Int) dy) | 17 => u' = .bool false | 18 => u' = .bool false | 19 => u' = .bool false | 20 => u' = .slice Ap np cp | 21 => u' = .int .i64 np | 22 => u' = .bool false | 23 => u' = .bool false | _ => True) (by kernel_rfl) (fun w => Below.refl _ _) (fun a b c h1 h2 => h1.trans (h2.mono h1.size)) (by kernel_rfl) (by kernel_rfl) ?hG ⟨?o0, ?o1, ?o2, ?o3, ?o4, ?o5, ?o6, ?o7, ?o8, ?o9, ?o10, ?o11, ?o12, ?o13, ?o14, ?o15, ?o16, ?o17, ?o18, ?o19, ?o20, ?o21, ?o22, ?o23, trivial⟩ ?hend
        case o0 =>
          intro a w hfr hG hd
          refine ⟨fun hw => ?_, fun hw => absurd hw (by simp [Region.wanted])⟩
          have s12 : a.tmps.getD 12 undef = .slice Al nl cl := hfr.at 12 (by kernel_rfl)
          refine op_yields (.slice Al nl cl) ?_ ?_ ?_
          · simp only [execOp, resolve, List.map_toArray, List.map_cons, List.map_nil, Act.eval, s12]; simp [go_sem, -Array.getD_eq_getD_getElem?, s12]
          · exact Below.refl _ _
          · exact (fun _ _ => rfl)
        case o1 =>
          intro a w hfr hG hd
          obtain ⟨d0, _⟩ := hd
          refine ⟨fun hw => ?_, fun hw => absurd hw (by simp [Region.wanted])⟩
          have s35 : a.tmps.getD 35 undef = .slice Al nl cl := (d0 rfl).now
          refine op_yields (.int .i64 nl) ?_ ?_ ?_
          · simp only [execOp, resolve, List.map_toArray, List.map_cons, List.map_nil, Act.eval, s35]; simp [go_sem, -Array.getD_eq_getD_getElem?, s35]
          · exact Below.refl _ _
          · exact (fun _ _ => rfl)
        case o2 =>
          intro a w hfr hG hd
          refine ⟨fun hw => ?_, fun hw => absurd hw (by simp [Region.wanted])⟩
          have s10 : a.tmps.getD 10 undef = .slice Ap np cp := hfr.at 10 (by kernel_rfl)
          refine op_yields (.slice Ap np cp) ?_ ?_ ?_
          · simp only [execOp, resolve, List.map_toArray, List.map_cons, List.map_nil, Act.eval, s10]; simp [go_sem, -Array.getD_eq_getD_getElem?, s10]
          · exact Below.refl _ _
          · exact (fun _ _ => rfl)
        case o3 =>
          intro a w hfr hG hd
          obtain ⟨d0, _⟩ := hd
          refine ⟨fun hw => ?_, fun hw => absurd hw (by simp [Region.wanted])⟩
          have s37 : a.tmps.getD 37 undef = .slice Ap np cp := (d0 rfl).now
          refine op_yields (.int .i64 np) ?_ ?_ ?_
          · simp only [execOp, resolve, List.map_toArray, List.map_cons, List.map_nil, Act.eval, s37]; simp [go_sem, -Array.getD_eq_getD_getElem?, s37]
          · exact Below.refl _ _
          · exact (fun _ _ => rfl)
        case o4 =>
          intro a w hfr hG hd
          refine ⟨fun hw => ?_, fun hw => absurd hw (by simp [Region.wanted])⟩
          have s11 : a.tmps.getD 11 undef = .slice Aq nq cq := hfr.at 11 (by kernel_rfl)
          refine op_yields (.slice Aq nq cq) ?_ ?_ ?_
          · simp only [execOp, resolve, List.map_toArray, List.map_cons, List.map_nil, Act.eval, s11]; simp [go_sem, -Array.getD_eq_getD_getElem?, s11]
          · exact Below.refl _ _
          · exact (fun _ _ => rfl)
        case o5 =>
          intro a w hfr hG hd
          obtain ⟨d0, _⟩ := hd
          refine ⟨fun hw => ?_, fun hw => absurd hw (by simp [Region.wanted])⟩
          have s39 : a.tmps.getD 39 undef = .slice Aq nq cq := (d0 rfl).now
          refine op_yields (.int .i64 nq) ?_ ?_ ?_
          · simp only [execOp, resolve, List.map_toArray, List.map_cons, List.map_nil, Act.eval, s39]; simp [go_sem, -Array.getD_eq_getD_getElem?, s39]
          · exact Below.refl _ _
          · exact (fun _ _ => rfl)
        case o6 =>
          intro a w hfr hG hd
          obtain ⟨d0, d1, _⟩ := hd
          refine ⟨fun hw => ?_, fun hw => absurd hw (by simp [Region.wanted])⟩
          have s38 : a.tmps.getD 38 undef = .int .i64 np := (d0 rfl).now
          have s40 : a.tmps.getD 40 undef = .int .i64 nq := (d1 rfl).now
          refine op_yields (.int .i64 ((np : Int) + nq)) ?_ ?_ ?_
          · simp only [execOp, resolve, List.map_toArray, List.map_cons, List.map_nil, Act.eval, s38, s40]; simp [go_sem, -Array.getD_eq_getD_getElem?, s38, s40, hw4]
          · exact Below.refl _ _
          · exact (fun _ _ => rfl)
        case o7 =>
          intro a w hfr hG hd
          obtain ⟨d0, d1, _⟩ := hd
          refine ⟨fun hw => ?_, fun hw => absurd hw (by simp [Region.wanted])⟩
          have s36 : a.tmps.getD 36 undef = .int .i64 nl := (d0 rfl).now
          have s41 : a.tmps.getD 41 undef = .int .i64 ((np : Int) + nq) := (d1 rfl).now
          refine op_yields (.bool false) ?_ ?_ ?_
          · simp only [execOp, resolve, List.map_toArray, List.map_cons, List.map_nil, Act.eval, s36, s41]; simp [go_sem, -Array.getD_eq_getD_getElem?, s36, s41, hnl4]
          · exact Below.refl _ _
          · exact (fun _ _ => rfl)
        case o8 =>
          intro a w hfr hG hd
          obtain ⟨d0, _⟩ := hd
          refine ⟨fun hw => ?_, fun hw => absurd hw (by simp [Region.wanted])⟩
          have s42 : a.tmps.getD 42 undef = .bool false := (d0 rfl).now
          refine op_yields (.bool false) ?_ ?_ ?_
          · simp only [execOp, resolve, List.map_toArray, List.map_cons, List.map_nil, Act.eval, s42]; simp [go_sem, -Array.getD_eq_getD_getElem?, s42]
          · exact Below.refl _ _
          · exact (fun _ _ => rfl)
        case o9 =>
          intro a w hfr hG hd
          obtain ⟨d0, _⟩ := hd
          have sg : a.tmps.getD 43 undef = .bool false := (d0 rfl).now
          refine ⟨fun hw => ?_, fun hw => by rw [wanted_of rfl (yielded_of rfl sg)] at hw; exact absurd hw (by decide)⟩
          have s9 : a.tmps.getD 9 undef = .pointer (some ⟨g9, 0, none⟩) := hfr.at 9 (by kernel_rfl)
          obtain ⟨z0, z1, z2, z3, z4⟩ := HCZ.out w hG.now
          refine op_yields (.agg #[.int .i64 kk, .int .i64 0, .slice none 0 0, .slice none 0 0, .slice (some ⟨R, 0, none⟩) 2 2]) ?_ ?_ ?_
          · simp only [execOp, resolve, List.map_toArray, List.map_cons, List.map_nil, Act.eval, s9]; simp [go_sem, -Array.getD_eq_getD_getElem?, s9, z0, z1, z2, z3, z4]
          · exact Below.refl _ _
          · exact (fun _ _ => rfl)
        case o10 =>
          intro a w hfr hG hd
          obtain ⟨d0, d1, d2, _⟩ := hd
          have sg : a.tmps.getD 43 undef = .bool false := (d1 rfl).now
          refine ⟨fun hw => ?_, fun hw => by rw [wanted_of rfl (yielded_of rfl sg)] at hw; exact absurd hw (by decide)⟩
          have s44 : a.tmps.getD 44 undef = .agg #[.int .i64 kk, .int .i64 0, .slice none 0 0, .slice none 0 0, .slice (some ⟨R, 0, none⟩) 2 2] := (d0 rfl).now
          refine op_calls2 ((HDZ.out w hG.now).mono fun e' w' hh => ⟨_, hh.1, hh.2, (fun _ _ => rfl)⟩) ?_
          simp only [execOp, resolve, List.map_toArray, List.map_cons, List.map_nil, Act.eval, s44]; simp [go_sem, -Array.getD_eq_getD_getElem?, s44]
        case o11 =>
          intro a w hfr hG hd
          obtain ⟨d0, _⟩ := hd
          have sg : a.tmps.getD 43 undef = .bool false := (d0 rfl).now
          refine ⟨fun hw => ?_, fun hw => by rw [wanted_of rfl (yielded_of rfl sg)] at hw; exact absurd hw (by decide)⟩
          have s7 : a.tmps.getD 7 undef = .pointer (some ⟨g, 0, none⟩) := hfr.at 7 (by kernel_rfl)
          obtain ⟨z0, z1, z2, z3, z4⟩ := HCX.out w hG.now
          refine op_yields (.agg #[.int .i64 xk, .int .i64 xn, .slice A1 xms.length c1, .slice A2 xns.length c2, .slice A3 xks.length c3]) ?_ ?_ ?_
          · simp only [execOp, resolve, List.map_toArray, List.map_cons, List.map_nil, Act.eval, s7]; simp [go_sem, -Array.getD_eq_getD_getElem?, s7, z0, z1, z2, z3, z4]
          · exact Below.refl _ _
          · exact (fun _ _ => rfl)
        case o12 =>
          intro a w hfr hG hd
          obtain ⟨d0, d1, d2, _⟩ := hd
          have sg : a.tmps.getD 43 undef = .bool false := (d2 rfl).now
          refine ⟨fun hw => ?_, fun hw => by rw [wanted_of rfl (yielded_of rfl sg)] at hw; exact absurd hw (by decide)⟩
          have s46 : a.tmps.getD 46 undef = .agg #[.int .i64 xk, .int .i64 xn, .slice A1 xms.length c1, .slice A2 xns.length c2, .slice A3 xks.length c3] := (d0 rfl).now
          refine op_calls2 ((HDX.out w hG.now).mono fun e' w' hh => ⟨_, hh.1, hh.2, (fun _ _ => rfl)⟩) ?_
          simp only [execOp, resolve, List.map_toArray, List.map_cons, List.map_nil, Act.eval, s46]; simp [go_sem, -Array.getD_eq_getD_getElem?, s46]
        case o13 =>
          intro a w hfr hG hd
          obtain ⟨d0, _⟩ := hd
          have sg : a.tmps.getD 43 undef = .bool false := (d0 rfl).now
          refine ⟨fun hw => ?_, fun hw => by rw [wanted_of rfl (yielded_of rfl sg)] at hw; exact absurd hw (by decide)⟩
          have s8 : a.tmps.getD 8 undef = .pointer (some ⟨q, 0, none⟩) := hfr.at 8 (by kernel_rfl)
          obtain ⟨z0, z1, z2, z3, z4⟩ := HCY.out w hG.now
          refine op_yields (.agg #[.int .i64 yk, .int .i64 yn, .slice B1 yms.length b1, .slice B2 yns.length b2, .slice B3 yks.length b3]) ?_ ?_ ?_
          · simp only [execOp, resolve, List.map_toArray, List.map_cons, List.map_nil, Act.eval, s8]; simp [go_sem, -Array.getD_eq_getD_getElem?, s8, z0, z1, z2, z3, z4]
          · exact Below.refl _ _
          · exact (fun _ _ => rfl)
        case o14 =>
          intro a w hfr hG hd
          obtain ⟨d0, d1, d2, _⟩ := hd
          have sg : a.tmps.getD 43 undef = .bool false := (d2 rfl).now
          refine ⟨fun hw => ?_, fun hw => by rw [wanted_of rfl (yielded_of rfl sg)] at hw; exact absurd hw (by decide)⟩
          have s48 : a.tmps.getD 48 undef = .agg #[.int .i64 yk, .int .i64 yn, .slice B1 yms.length b1, .slice B2 yns.length b2, .slice B3 yks.length b3] := (d0 rfl).now
          refine op_calls2 ((HDY.out w hG.now).mono fun e' w' hh => ⟨_, hh.1, hh.2, (fun _ _ => rfl)⟩) ?_
          simp only [execOp, resolve, List.map_toArray, List.map_cons, List.map_nil, Act.eval, s48]; simp [go_sem, -Array.getD_eq_getD_getElem?, s48]
        case o15 =>
          intro a w hfr hG hd
          obtain ⟨d0, d1, d2, _⟩ := hd
          have sg : a.tmps.getD 43 undef = .bool false := (d2 rfl).now
          refine ⟨fun hw => ?_, fun hw => by rw [wanted_of rfl (yielded_of rfl sg)] at hw; exact absurd hw (by decide)⟩
          have s47 : a.tmps.getD 47 undef = .int .i64 dx := (d0 rfl).now
          have s49 : a.tmps.getD 49 undef = .int .i64 dy := (d1 rfl).now
          refine op_yields (.int .i64 (max (dx : Int) dy)) ?_ ?_ ?_
          · simp only [execOp, resolve, List.map_toArray, List.map_cons, List.map_nil, Act.eval, s47, s49]; simp [go_sem, -Array.getD_eq_getD_getElem?, s47, s49]
          · exact Below.refl _ _
          · exact (fun _ _ => rfl)
        case o16 =>
          intro a w hfr hG hd
          obtain ⟨d0, d1, _⟩ := hd
          have sg : a.tmps.getD 43 undef = .bool false := (d1 rfl).now
          refine ⟨fun hw => ?_, fun hw => by rw [wanted_of rfl (yielded_of rfl sg)] at hw; exact absurd hw (by decide)⟩
          have s50 : a.tmps.getD 50 undef = .int .i64 (max (dx : Int) dy) := (d0 rfl).now
          refine op_yields (.int .i64 (1 + max (dx : Int) dy)) ?_ ?_ ?_
          · simp only [execOp, resolve, List.map_toArray, List.map_cons, List.map_nil, Act.eval, s50]; simp [go_sem, -Array.getD_eq_getD_getElem?, s50, hw5]
          · exact Below.refl _ _
          · exact (fun _ _ => rfl)
        case o17 =>
          intro a w hfr hG hd
          obtain ⟨d0, d1, d2, _⟩ := hd
          have sg : a.tmps.getD 43 undef = .bool false := (d2 rfl).now
          refine ⟨fun hw => ?_, fun hw => by rw [wanted_of rfl (yielded_of rfl sg)] at hw; exact absurd hw (by decide)⟩
          have s45 : a.tmps.getD 45 undef = .int .i64 (1 + max (dx : Int) dy) := (d0 rfl).now
          have s51 : a.tmps.getD 51 undef = .int .i64 (1 + max (dx : Int) dy) := (d1 rfl).now
          refine op_yields (.bool false) ?_ ?_ ?_
          · simp only [execOp, resolve, List.map_toArray, List.map_cons, List.map_nil, Act.eval, s45, s51]; simp [go_sem, -Array.getD_eq_getD_getElem?, s45, s51]
          · exact Below.refl _ _
          · exact (fun _ _ => rfl)
        case o18 =>
          intro a w hfr hG hd
          obtain ⟨d0, d1, _⟩ := hd
          refine ⟨fun hw => ?_, fun hw => absurd hw (by simp [Region.wanted])⟩
          have s43 : a.tmps.getD 43 undef = .bool false := (d0 rfl).now
          have s52 : a.tmps.getD 52 undef = .bool false := (d1 rfl).now
          refine op_yields (.bool false) ?_ ?_ ?_
          · simp only [execOp, resolve, List.map_toArray, List.map_cons, List.map_nil, Act.eval, s43, s52]; simp [go_sem, -Array.getD_eq_getD_getElem?, s43, s52]
          · exact Below.refl _ _
          · exact (fun _ _ => rfl)
        case o19 =>
          intro a w hfr hG hd
          obtain ⟨d0, d1, _⟩ := hd
          refine ⟨fun hw => ?_, fun hw => absurd hw (by simp [Region.wanted])⟩
          have s53 : a.tmps.getD 53 undef = .bool false := (d0 rfl).now
          refine op_yields (.bool false) ?_ ?_ ?_
          · simp only [execOp, resolve, List.map_toArray, List.map_cons, List.map_nil, Act.eval, s53]; simp [go_sem, -Array.getD_eq_getD_getElem?, s53]
          · exact Below.refl _ _
          · exact (fun _ _ => rfl)
        case o20 =>
          intro a w hfr hG hd
          obtain ⟨d0, _⟩ := hd
          have sg : a.tmps.getD 54 undef = .bool false := (d0 rfl).now
          refine ⟨fun hw => ?_, fun hw => by rw [wanted_of rfl (yielded_of rfl sg)] at hw; exact absurd hw (by decide)⟩
          have s10 : a.tmps.getD 10 undef = .slice Ap np cp := hfr.at 10 (by kernel_rfl)
          refine op_yields (.slice Ap np cp) ?_ ?_ ?_
          · simp only [execOp, resolve, List.map_toArray, List.map_cons, List.map_nil, Act.eval, s10]; simp [go_sem, -Array.getD_eq_getD_getElem?, s10]
          · exact Below.refl _ _
          · exact (fun _ _ => rfl)
        case o21 =>
          intro a w hfr hG hd
          obtain ⟨d0, d1, _⟩ := hd
          have sg : a.tmps.getD 54 undef = .bool false := (d1 rfl).now
          refine ⟨fun hw => ?_, fun hw => by rw [wanted_of rfl (yielded_of rfl sg)] at hw; exact absurd hw (by decide)⟩
          have s55 : a.tmps.getD 55 undef = .slice Ap np cp := (d0 rfl).now
          refine op_yields (.int .i64 np) ?_ ?_ ?_
          · simp only [execOp, resolve, List.map_toArray, List.map_cons, List.map_nil, Act.eval, s55]; simp [go_sem, -Array.getD_eq_getD_getElem?, s55]
          · exact Below.refl _ _
          · exact (fun _ _ => rfl)
        case o22 =>
          intro a w hfr hG hd
          obtain ⟨d0, d1, _⟩ := hd
          have sg : a.tmps.getD 54 undef = .bool false := (d1 rfl).now
          refine ⟨fun hw => ?_, fun hw => by rw [wanted_of rfl (yielded_of rfl sg)] at hw; exact absurd hw (by decide)⟩
          have s56 : a.tmps.getD 56 undef = .int .i64 np := (d0 rfl).now
          refine op_yields (.bool false) ?_ ?_ ?_
          · simp only [execOp, resolve, List.map_toArray, List.map_cons, List.map_nil, Act.eval, s56]; simp [go_sem, -Array.getD_eq_getD_getElem?, s56, hnp4]
          · exact Below.refl _ _
          · exact (fun _ _ => rfl)
        case o23 =>
          intro a w hfr hG hd
          obtain ⟨d0, d1, _⟩ := hd
          refine ⟨fun hw => ?_, fun hw => absurd hw (by simp [Region.wanted])⟩
          have s54 : a.tmps.getD 54 undef = .bool false := (d0 rfl).now
          have s57 : a.tmps.getD 57 undef = .bool false := (d1 rfl).now
          refine op_yields (.bool false) ?_ ?_ ?_
          · simp only [execOp, resolve, List.map_toArray, List.map_cons, List.map_nil, Act.eval, s54, s57]; simp [go_sem, -Array.getD_eq_getD_getElem?, s54, s57]
          · exact Below.refl _ _
          · exact (fun _ _ => rfl)
        case hG => exact fun w' hb => (Below.refl _ _).drew.trans (hb.mono (by simp))
        case hend =>
          intro vs w' hG hv
          have key : vs 23 = .bool false := by
            obtain ⟨_, _, _, _, _, _, _, _, _, _, _, _, _, _, _, _, _, _, _, _, _, _, _, h23, _⟩ := hv
            exact h23.now
          have HB2 := Lib.hid hG.now
          clear hv hG HDX HDY HDZ
          simp only [putAll, Act.put, key]
          clear key
          go_simp
          go_wp2_with fail
          go_meet
          exact ⟨rfl, HB2.out⟩
      case rest =>
        obtain ⟨rfl, hat⟩ := hcut
        have HB5 := Lib.hid hat
        clear hat HDX HDY HDZ HCX HCY HCZ hw4 hw5 hnl4 hnp4
        go_wp2_with fail
        go_loopg [13, 14, 61] nl (fun g y13 y14 y61 wr => ∃ i : Nat, i + g = nl ∧ y61 = .int .i64 i ∧ Below Wq.heap.size Wq wr)
        case atStart => exact ⟨0, by omega, rfl, HB5.out⟩
        case round =>
          obtain ⟨i, hig, rfl, hbel⟩ := hrel
          have HBR := Lib.hid hbel
          clear hbel HB5
          cases gk with
          | zero =>
            obtain rfl : i = nl := by omega
            have hsx : ((⟨((XE.mk xk xn (.slice A1 xms.length c1) xms (.slice A2 xns.length c2) xns (.slice A3 xks.length c3) xks)).pe.text.toArray⟩ : ByteArray)).data.toList = ((XE.mk xk xn (.slice A1 xms.length c1) xms (.slice A2 xns.length c2) xns (.slice A3 xks.length c3) xks)).pe.text := rfl
            obtain ⟨sx, hsxe⟩ : ∃ s : ByteArray, (⟨((XE.mk xk xn (.slice A1 xms.length c1) xms (.slice A2 xns.length c2) xns (.slice A3 xks.length c3) xks)).pe.text.toArray⟩ : ByteArray) = s := ⟨_, rfl⟩
            have HPT := Lib.hid (fun V (hV : Below Wz.heap.size Wz V) => show Calls Tryd.prog 12 #[.agg #[.int .i64 xk, .int .i64 xn, .slice A1 xms.length c1, .slice A2 xns.length c2, .slice A3 xks.length c3]] V fun e w' => e = .returned (.string sx) ∧ Below V.heap.size V w' by
              have h := print_x 5 (by decide) (XE.mk xk xn (.slice A1 xms.length c1) xms (.slice A2 xns.length c2) xns (.slice A3 xks.length c3) xks) V HBX.out.small HBX.out.fits (tab_of HT.out (HZ.out.p.bel.trans (hV.mono HZ.out.p.bel.size))) (HZ.out.below hV).p.ox
              rw [HBX.out.print, hsxe] at h; exact h)
            have HBW2 := Lib.hid (HBZ.out.trans (HBR.out.mono HBZ.out.size))
            have HWR := Lib.hid (fun V (hV : Below wr.heap.size wr V) => show TnAt Wz Ap np cp ps V from ⟨HBW2.out.trans (hV.mono HBW2.out.size), own_below (HRP.out wr HBR.out).row hV (Nat.le_refl _), fun q hq => ⟨_, own_below ((HRP.out wr HBR.out).pk q hq).mv hV (Nat.le_refl _)⟩⟩)
            have HST := Lib.hid (fun i (hi : i < np) => (HRP.out Wq (Below.refl _ _)).at hi)
            have hxt := xe_typed (show ((XE.mk xk xn (.slice A1 xms.length c1) xms (.slice A2 xns.length c2) xns (.slice A3 xks.length c3) xks)).pe.ty ≠ 0 by rw [HBX.out.ty]; decide)
            have hxn : 0 ≤ xn ∧ xn ≤ 1048576 := by
              have hf : I64 xn := by have h := HBX.out.fits; change PE.fits (.mk xk xn xms xns (pesX xks)) at h; unfold PE.fits at h; exact h.1
              rcases hxt with ⟨h1, _⟩ | ⟨_, _, h1, h2, _⟩ | ⟨_, _, h1, _⟩ | ⟨_, _, h1, _⟩
              · exfalso
                have h := HBX.out.ty
                change PE.ty (.mk xk xn xms xns (pesX xks)) = 2 at h
                subst h1
                unfold PE.ty at h
                rw [if_pos rfl] at h
                split at h <;> exact absurd h (by decide)
              · omega
              · omega
              · omega
            clear hxt hsx hsxe HRL HRQ HMQ HML HLQ HLL HPXF HPYF HNL HZQ hig
            have HX0 := Lib.hid (show wr.cell? ⟨g, 0, none⟩ = some (.int .i64 xk) ∧ wr.cell? ⟨g, 1, none⟩ = some (.int .i64 xn) ∧ wr.cell? ⟨g, 2, none⟩ = some (.slice A1 xms.length c1) ∧ wr.cell? ⟨g, 3, none⟩ = some (.slice A2 xns.length c2) ∧ wr.cell? ⟨g, 4, none⟩ = some (.slice A3 xks.length c3) from blk_cells5 (HZ.out.below HBW2.out).p.bx)
            go_upto_region 16 with fail
            obtain ⟨x0, x1, x2, x3, x4⟩ := HX0.out
            go_wp2_with fail
            (with_reducible refine (HPT.out _ HBW2.out).mono ?_); rintro e w7 ⟨rfl, hb⟩
            have HW7 := Lib.hid (HWR.out _ hb)
            clear hb x0 x1 x2 x3 x4 HWR HX0 HBW2 HBR HRP
            go_wp2_with fail
            go_loopg [16, 17, 108] np (fun g y16 y17 y108 wr => ∃ i : Nat, i + g = np ∧ y108 = .int .i64 i ∧ TnAt Wz Ap np cp ps wr)
            case atStart => exact ⟨0, by omega, rfl, HW7.out⟩
            case round =>
              obtain ⟨i, hig, rfl, hw⟩ := hrel
              have HWA := Lib.hid hw
              clear hw HW7
              cases gk with
              | zero =>
                obtain rfl : i = np := by omega
                have HBF := Lib.hid HWA.out.bel
                have HXC := Lib.hid (fun V (hV : Below Wz.heap.size Wz V) => show V.cell? ⟨g, 0, none⟩ = some (.int .i64 xk) ∧ V.cell? ⟨g, 1, none⟩ = some (.int .i64 xn) ∧ V.cell? ⟨g, 2, none⟩ = some (.slice A1 xms.length c1) ∧ V.cell? ⟨g, 3, none⟩ = some (.slice A2 xns.length c2) ∧ V.cell? ⟨g, 4, none⟩ = some (.slice A3 xks.length c3) from blk_cells5 (HZ.out.below hV).p.bx)
                have HZC := Lib.hid (fun V (hV : Below Wz.heap.size Wz V) => blk_cells5 (HZ.out.below hV).bz)
                have H18 : Hid (Blk (wr.alloc (.cells #[.int .i64 xk, .int .i64 xn, .slice A1 xms.length c1, .slice A2 xns.length c2, .slice A3 xks.length c3] 26)) wr.heap.size 26 [.int .i64 xk, .int .i64 xn, .slice A1 xms.length c1, .slice A2 xns.length c2, .slice A3 xks.length c3]) := Lib.hid (Blk.mk (heap_alloc_new wr _))
                have HBA := Lib.hid (HBF.out.alloc HBF.out.size (.cells #[.int .i64 xk, .int .i64 xn, .slice A1 xms.length c1, .slice A2 xns.length c2, .slice A3 xks.length c3] 26))
                have HL18 := Lib.hid HBF.out.size
                have hw1 : IntKind.i64.wrap (xn + 1) = xn + 1 := IntWalk.i64_in _ (by omega)
                obtain ⟨x0, x1, x2, x3, x4⟩ := HXC.out _ HBF.out
                clear hig HWA HST
                go_upto_region 27 with fail
                obtain ⟨g18, hg18⟩ : ∃ g, wr.heap.size = g := ⟨_, rfl⟩
                rw [hg18] at H18 HL18 ⊢
                clear hg18 x0 x1 x2 x3 x4 HBF
                generalize wr.alloc (.cells #[.int .i64 xk, .int .i64 xn, .slice A1 xms.length c1, .slice A2 xns.length c2, .slice A3 xks.length c3] 26) = W8 at *
                have hx1 := H18.out.cell 1
                simp only [List.getElem?_cons_zero, List.getElem?_cons_succ] at hx1
                have hf1 := H18.out.frozen 1
                have HT18 : Hid (Blk (W8.setCell ⟨g18, 1, none⟩ (.int .i64 (xn + 1))) g18 26 [.int .i64 xk, .int .i64 (xn + 1), .slice A1 xms.length c1, .slice A2 xns.length c2, .slice A3 xks.length c3]) := Lib.hid (H18.out.set 1 _)
                have HB9 := Lib.hid (HBA.out.setCell (p := ⟨g18, 1, none⟩) HL18.out (.int .i64 (xn + 1)))
                go_upto_region 28 with fail
                obtain ⟨W9, hW9⟩ : ∃ W, W8.setCell ⟨g18, 1, none⟩ (.int .i64 (xn + 1)) = W := ⟨_, rfl⟩
                rw [hW9] at HT18 HB9 ⊢
                clear hW9 hx1 hf1 hw1 H18 HBA HL18
                have hse : (sx.toList == sx.toList) = true := by simp
                have HSA := Lib.hid (fun V (hV : Below Wz.heap.size Wz V) => show Calls Tryd.prog 16 #[.agg #[.int .i64 xk, .int .i64 (xn + 1), .slice A1 xms.length c1, .slice A2 xns.length c2, .slice A3 xks.length c3], .agg #[.int .i64 xk, .int .i64 xn, .slice A1 xms.length c1, .slice A2 xns.length c2, .slice A3 xks.length c3]] V fun e w' => e = .returned (.bool false) ∧ Below V.heap.size V w' by
                  have hx := (HZ.out.below hV).p.ox
                  have ht : okX 5 (XE.mk xk (xn + 1) (.slice A1 xms.length c1) xms (.slice A2 xns.length c2) xns (.slice A3 xks.length c3) xks) V := ⟨hx.1, hx.2.1, hx.2.2.1, hx.2.2.2⟩
                  have h := sameX_any 5 (XE.mk xk (xn + 1) (.slice A1 xms.length c1) xms (.slice A2 xns.length c2) xns (.slice A3 xks.length c3) xks) (XE.mk xk xn (.slice A1 xms.length c1) xms (.slice A2 xns.length c2) xns (.slice A3 xks.length c3) xks) V ht hx
                  rw [eqPE_no (by
                    intro e
                    have e : PE.mk xk (xn + 1) xms xns (pesX xks) = PE.mk xk xn xms xns (pesX xks) := e
                    injection e with _ e; omega)] at h
                  exact h)
                have HSZ := Lib.hid (fun V (hV : Below Wz.heap.size Wz V) => show Calls Tryd.prog 16 #[.agg #[.int .i64 kk, .int .i64 0, .slice none 0 0, .slice none 0 0, .slice (some ⟨R, 0, none⟩) 2 2], .agg #[.int .i64 kk, .int .i64 0, .slice none 0 0, .slice none 0 0, .slice (some ⟨R, 0, none⟩) 2 2]] V fun e w' => e = .returned (.bool true) ∧ Below V.heap.size V w' by
                  have h := sameX_any 6 (pairX kk R (XE.mk xk xn (.slice A1 xms.length c1) xms (.slice A2 xns.length c2) xns (.slice A3 xks.length c3) xks) (XE.mk yk yn (.slice B1 yms.length b1) yms (.slice B2 yns.length b2) yns (.slice B3 yks.length b3) yks)) (pairX kk R (XE.mk xk xn (.slice A1 xms.length c1) xms (.slice A2 xns.length c2) xns (.slice A3 xks.length c3) xks) (XE.mk yk yn (.slice B1 yms.length b1) yms (.slice B2 yns.length b2) yns (.slice B3 yks.length b3) yks)) V (HZ.out.below hV).oz (HZ.out.below hV).oz
                  rw [eqPE_yes rfl] at h; exact h)
                have HPN := Lib.hid (fun V => show Calls Tryd.prog 23 #[.agg #[.int .i64 1, .int .i64 0, .slice none 0 0, .slice none 0 0, .slice none 0 0]] V fun e w' => (∃ A c, e = .returned (.slice A 0 c)) ∧ Below V.heap.size V w' by
                  have h := picks_any 1 (XE.mk 1 0 (.slice none 0 0) [] (.slice none 0 0) [] (.slice none 0 0) []) V ⟨slc_nil' _ 3, slc_nil' _ 1, slc_nil' _ 5, fun k hk => absurd hk List.not_mem_nil⟩ ⟨fun k hk => absurd hk List.not_mem_nil, by show 0 ≤ 2; omega, fun e => by have e : (1 : Int) = 2 := e; exact absurd e (by decide)⟩ (by show 0 ≤ 1000000; omega)
                  exact h.mono fun e w' hh => by
                    obtain ⟨v, rfl, ⟨A, n, c, qs, rfl, _, _, h4, h5⟩, hb⟩ := hh
                    have h5 : qs.map XE.pe = [] := h5
                    have h6 : qs = [] := List.map_eq_nil_iff.1 h5
                    subst h6
                    have h4 : 0 = n := h4
                    subst h4
                    exact ⟨⟨A, c, rfl⟩, hb⟩)
                have HRU := Lib.hid (fun V (hV : Below Wz.heap.size Wz V) => expr_runs V (tab_of HT.out (HZ.out.p.bel.trans (hV.mono HZ.out.p.bel.size))))
                obtain ⟨x0, x1, x2, x3, x4⟩ := HXC.out _ HB9.out
                go_wp2_with fail
                (with_reducible refine (HPT.out _ HB9.out).mono ?_); rintro e w10 ⟨rfl, hb⟩
                have HB10 := Lib.hid (HB9.out.trans (hb.mono HB9.out.size))
                have HT18_n := Lib.hid (HT18.out.below hb HT18.out.lt); clear HT18; have HT18 := HT18_n; clear HT18_n
                clear hb x0 x1 x2 x3 x4 HB9
                obtain ⟨x0, x1, x2, x3, x4⟩ := HXC.out _ HB10.out
                obtain ⟨y0, y1, y2, y3, y4⟩ := blk_cells5 HT18.out
                go_wp2_with fail
                (with_reducible refine (HSA.out _ HB10.out).mono ?_); rintro e w11 ⟨rfl, hb⟩
                have HB11 := Lib.hid (HB10.out.trans (hb.mono HB10.out.size))
                clear hb x0 x1 x2 x3 x4 y0 y1 y2 y3 y4 HB10 HT18
                obtain ⟨z0, z1, z2, z3, z4⟩ := HZC.out _ HB11.out
                go_wp2_with fail
                (with_reducible refine (HSZ.out _ HB11.out).mono ?_); rintro e w12 ⟨rfl, hb⟩
                have HB12 := Lib.hid (HB11.out.trans (hb.mono HB11.out.size))
                clear hb z0 z1 z2 z3 z4 HB11
                go_wp2_with fail
                (with_reducible refine (HPN.out _).mono ?_); rintro e w13 ⟨⟨A9, c9, rfl⟩, hb⟩
                have HB13 := Lib.hid (HB12.out.trans (hb.mono HB12.out.size))
                clear hb HB12
                go_wp2_with fail
                (with_reducible refine (HRU.out _ HB13.out).mono ?_); rintro e w14 ⟨rfl, hb⟩
                have HB14 := Lib.hid (HZ.out.p.bel.trans ((HB13.out.trans (hb.mono HB13.out.size)).mono HZ.out.p.bel.size))
                clear hb
                go_wp2_with fail
                go_ret
                exact ⟨rfl, HB14.out⟩
              | succ gg =>
                have hin : i < np := by omega
                have hinI : (i : Int) < np := by omega
                have hi0 : (0 : Int) ≤ i := by omega
                obtain ⟨ad, hl, hA, qn, M, mc, ms, N, nc, K, kc, he⟩ := HST.out i hin
                subst hA
                have HRC := Lib.hid (fun V (hV : TnAt Wz (some ad) np cp ps V) => kid_cells hV.row hin hl he)
                have HMS := Lib.hid (fun V (hV : TnAt Wz (some ad) np cp ps V) => show ∃ cs, V.ownsRow Wz.heap.size 54 3 (.slice M ms.length mc) ms.length cs by
                  have h := hV.ms _ (List.getElem_mem hl)
                  rw [he] at h; exact h)
                have HSET := Lib.hid (fun V (hV : TnAt Wz (some ad) np cp ps V) (b o : Nat) (u : Value) (hb : (Value.slice M ms.length mc).ownBlock = some b) => hV.set (List.getElem_mem hl) (b := b) (by rw [he]; exact hb) o u)
                obtain ⟨m, hm⟩ : ∃ m, ms.length = m := ⟨_, rfl⟩
                rw [hm] at HRC HMS HSET
                have hm64 : m ≤ 9223372036854775807 := by
                  obtain ⟨cs, hcs⟩ := HMS.out _ HWA.out
                  obtain ⟨_, _, e1, e2, e3⟩ := own_slice hcs
                  omega
                clear he hl hm
                have z2 := HRC.out _ HWA.out
                go_wp2_with fail
                go_loopg [17, 117] m (fun g y17 y117 wr2 => ∃ j : Nat, j + g = m ∧ y117 = .int .i64 j ∧ TnAt Wz (some ad) np cp ps wr2)
                case atStart => exact ⟨0, by omega, rfl, HWA.out⟩
                case round =>
                  obtain ⟨j, hjg, rfl, hw⟩ := hrel
                  have HWB := Lib.hid hw
                  clear hw HWA z2
                  cases gk with
                  | zero =>
                    obtain rfl : j = m := by omega
                    go_wp2_with fail
                    go_roundg gg
                    case measure => omega
                    case rel => exact ⟨i + 1, by omega, by go_num, HWB.out⟩
                  | succ g3 =>
                    have hjm : j < m := by omega
                    have hjmI : (j : Int) < m := by omega
                    have hj0 : (0 : Int) ≤ j := by omega
                    obtain ⟨cs, hcs⟩ := HMS.out _ HWB.out
                    obtain ⟨b, mc', hv, hfr, hcell⟩ := own_form1 hcs (by omega) (by decide)
                    injection hv with hM _ hmc
                    subst hM; subst hmc
                    have fr1 := hfr (j * 3 + 1)
                    obtain ⟨u0, c1'⟩ := hcell (j * 3 + 1) (by omega)
                    have hadd := addr_at b (j * 3)
                    have HS := Lib.hid (HSET.out _ HWB.out b (j * 3 + 1) (.string ⟨#[116, 117, 114, 110, 101, 100]⟩) rfl)
                    have z2 := HRC.out _ HWB.out
                    clear hcs hfr hcell
                    go_wp2_with fail
                    go_roundg g3
                    case measure => omega
                    case rel => exact ⟨j + 1, by omega, by go_num, HS.out⟩
          | succ gg => --done
            have hlt : i < nl := by omega
            have hltI : (i : Int) < nl := by omega
            have hi0 : (0 : Int) ≤ i := by omega
            have HB14 : Hid (Blk (wr.alloc (.cells #[.int .i64 0, .int .i64 0, .slice none 0 0, .slice none 0 0, .slice none 0 0] 26)) wr.heap.size 26 [.int .i64 0, .int .i64 0, .slice none 0 0, .slice none 0 0, .slice none 0 0]) := Lib.hid (Blk.mk (heap_alloc_new wr _))
            have HBA := Lib.hid (HBR.out.alloc HBR.out.size (.cells #[.int .i64 0, .int .i64 0, .slice none 0 0, .slice none 0 0, .slice none 0 0] 26))
            have HL14 := Lib.hid HBR.out.size
            obtain ⟨lad, hll, hAl, ln, LM, lmc, lms, LN, lnc, LK, lkc, hle⟩ := (HRL.out Wq (Below.refl _ _)).at hlt
            subst hAl
            have HLC := Lib.hid (fun V (hV : Below Wq.heap.size Wq V) => (HRL.out V hV).cells hlt hll hle)
            have HLO := Lib.hid (fun V (hV : Below Wq.heap.size Wq V) => (HRL.out V hV).okAt hll hle)
            obtain ⟨t, ht⟩ : ∃ t, (ls[i]).pe = t := ⟨_, rfl⟩
            have htL : PE.mk 2 ln lms [] [] = t := by rw [← ht, hle]; rfl
            have hti : (px ++ py)[i]? = some t := by rw [← HML.out, List.getElem?_map, List.getElem?_eq_getElem hll, ← ht]; rfl
            have htf : t.ty = 2 ∧ t.deep = 1 ∧ t.small := by
              rcases List.mem_append.1 (List.mem_of_getElem? hti) with h | h
              · exact HPXF.out t h
              · exact HPYF.out t h
            have HTI := Lib.hid hti; have HTF := Lib.hid htf; have HTL := Lib.hid htL
            clear ht htL hti htf hle hll
            go_upto_region 10 with fail
            obtain ⟨g14, hg14⟩ : ∃ g, wr.heap.size = g := ⟨_, rfl⟩
            rw [hg14] at HB14 HL14 ⊢
            clear hg14 HBR
            generalize wr.alloc (.cells #[.int .i64 0, .int .i64 0, .slice none 0 0, .slice none 0 0, .slice none 0 0] 26) = W6 at *
            obtain ⟨pb, hpb⟩ : ∃ p, decide (i < np) = p := ⟨_, rfl⟩
            have HPB := Lib.hid hpb
            go_upto_if 68 with fail
            clear hpb
            go_cut [13, 14] from 69 to 79 (fun y13 y14 wx => y13 = .int .i64 i ∧ y14 = .pointer (some ⟨g14, 0, none⟩) ∧ WantAt Wq g14 t wx)
            case first =>
              obtain ⟨z0, z1, z2, z3, z4⟩ := blk_cells5 HB14.out
              obtain ⟨f0, f1, f2, f3, f4⟩ := blk_fr HB14.out
              cases pb with
              | true =>
                have hin : i < np := of_decide_eq_true HPB.out
                have hinI : (i : Int) < np := by omega
                obtain ⟨ad, hl, hA, qn, M, mc, ms, N, nc, K, kc, he⟩ := (HRP.out Wq (Below.refl _ _)).at hin
                subst hA
                have HWA := Lib.hid (WantAt.set (t := t) HBA.out HB14.out HL14.out HRP.out hl he (by
                  have h := HTI.out
                  rw [List.getElem?_append_left (by rw [← HMP.out, List.length_map, HLP.out]; exact hin), ← HMP.out, List.getElem?_map, List.getElem?_eq_getElem hl] at h
                  injection h))
                obtain ⟨e0, e1, e2, e3, e4⟩ := (HRP.out W6 HBA.out).cells hin hl he
                clear he hl
                unfold set5W at HWA
                go_wp2_with fail
                go_meet
                exact ⟨rfl, rfl, HWA.out⟩
              | false =>
                have hin : ¬ i < np := of_decide_eq_false HPB.out
                obtain ⟨j, hj⟩ : ∃ j : Nat, j = i - np := ⟨_, rfl⟩
                have hjI : (i : Int) - np = j := by omega
                have hjn : j < nq := by have := HNL.out; omega
                have hjnI : (j : Int) < nq := by omega
                have hj0 : (0 : Int) ≤ j := by omega
                obtain ⟨ad, hl, hA, qn, M, mc, ms, N, nc, K, kc, he⟩ := (HRQ.out Wq (Below.refl _ _)).at hjn
                subst hA
                have HWA := Lib.hid (WantAt.set (t := t) HBA.out HB14.out HL14.out HRQ.out hl he (by
                  have h := HTI.out
                  rw [List.getElem?_append_right (by rw [← HMP.out, List.length_map, HLP.out]; omega), ← HMP.out, List.length_map, HLP.out, ← hj, ← HMQ.out, List.getElem?_map, List.getElem?_eq_getElem hl] at h
                  injection h))
                obtain ⟨e0, e1, e2, e3, e4⟩ := (HRQ.out W6 HBA.out).cells hjn hl he
                clear he hl hj
                unfold set5W at HWA
                go_wp2_with fail
                go_meet
                exact ⟨rfl, rfl, HWA.out⟩
            case rest =>
              obtain ⟨rfl, rfl, qk, qn, M, ms, mc, N, nc, K, kc, hwi, hqt⟩ := hcut
              have HWI := Lib.hid hwi; have HQT := Lib.hid hqt
              clear hwi hqt HB14 HBA HL14 HPB HTI
              have HE1 := Lib.hid (fun V (hV : WantIs Wq g14 qk qn M ms mc N nc K kc V) => show Calls Tryd.prog 15 #[.agg #[.int .i64 2, .int .i64 ln, .slice LM lms.length lmc, .slice LN 0 lnc, .slice LK 0 lkc], .agg #[.int .i64 qk, .int .i64 qn, .slice M ms.length mc, .slice N 0 nc, .slice K 0 kc]] V fun e w' => e = .returned (.bool true) ∧ Below V.heap.size V w' by
                have h := exprs_any 1 (XE.mk 2 ln (.slice LM lms.length lmc) lms (.slice LN 0 lnc) [] (.slice LK 0 lkc) []) (XE.mk qk qn (.slice M ms.length mc) ms (.slice N 0 nc) [] (.slice K 0 kc) []) V (HLO.out V hV.bel) hV.ok (by show (PE.mk 2 ln lms [] []).small; rw [HTL.out]; exact HTF.out.2.2)
                rw [eqPE_yes (show ((XE.mk 2 ln (.slice LM lms.length lmc) lms (.slice LN 0 lnc) [] (.slice LK 0 lkc) [])).pe = ((XE.mk qk qn (.slice M ms.length mc) ms (.slice N 0 nc) [] (.slice K 0 kc) [])).pe by show PE.mk 2 ln lms [] [] = PE.mk qk qn ms [] []; rw [HTL.out, HQT.out])] at h; exact h)
              have HE2 := Lib.hid (fun V (hV : WantIs Wq g14 qk qn M ms mc N nc K kc V) => show Calls Tryd.prog 10 #[.agg #[.int .i64 2, .int .i64 ln, .slice LM lms.length lmc, .slice LN 0 lnc, .slice LK 0 lkc]] V fun e w' => e = .returned (.int .i64 2) ∧ Below V.heap.size V w' by
                have h := type_any 1 (XE.mk 2 ln (.slice LM lms.length lmc) lms (.slice LN 0 lnc) [] (.slice LK 0 lkc) []) V (by show (PE.mk 2 ln lms [] []).small; rw [HTL.out]; exact HTF.out.2.2) (HLO.out V hV.bel)
                rw [show ((XE.mk 2 ln (.slice LM lms.length lmc) lms (.slice LN 0 lnc) [] (.slice LK 0 lkc) [])).pe.ty = 2 by show (PE.mk 2 ln lms [] []).ty = 2; rw [HTL.out]; exact HTF.out.1] at h; exact h)
              have HE3 := Lib.hid (fun V (hV : WantIs Wq g14 qk qn M ms mc N nc K kc V) => show Calls Tryd.prog 11 #[.agg #[.int .i64 2, .int .i64 ln, .slice LM lms.length lmc, .slice LN 0 lnc, .slice LK 0 lkc]] V fun e w' => e = .returned (.int .i64 1) ∧ Below V.heap.size V w' by
                have h := deep_any 1 (XE.mk 2 ln (.slice LM lms.length lmc) lms (.slice LN 0 lnc) [] (.slice LK 0 lkc) []) V (HLO.out V hV.bel) (by decide)
                rw [show ((XE.mk 2 ln (.slice LM lms.length lmc) lms (.slice LN 0 lnc) [] (.slice LK 0 lkc) [])).pe.deep = 1 by show (PE.mk 2 ln lms [] []).deep = 1; rw [HTL.out]; exact HTF.out.2.1] at h; exact h)
              go_upto_region 13 with fail
              go_cut [102] from 80 to 102 (fun y102 wx => y102 = .bool false ∧ Below Wq.heap.size Wq wx)
              case first =>
                refine wp_region_facts (R := fun a b => Below a.heap.size a b) (G := (fun W => WantIs Wq g14 qk qn M ms mc N nc K kc W)) (V := fun i' u' W => match i' with | 0 => u' = .slice (some lad) nl cl | 1 => u' = .int .i64 i | 2 => u' = .pointer (some (lad.add (i * 5))) | 3 => u' = .agg #[.int .i64 2, .int .i64 ln, .slice LM lms.length lmc, .slice LN 0 lnc, .slice LK 0 lkc] | 4 => u' = .agg #[.int .i64 qk, .int .i64 qn, .slice M ms.length mc, .slice N 0 nc, .slice K 0 kc] | 5 => u' = .bool true | 6 => u' = .bool false | 7 => u' = .bool false | 8 => u' = .slice (some lad) nl cl | 9 => u' = .int .i64 i | 10 => u' = .pointer (some (lad.add (i * 5))) | 11 => u' = .agg #[.int .i64 2, .int .i64 ln, .slice LM lms.length lmc, .slice LN 0 lnc, .slice LK 0 lkc] | 12 => u' = .int .i64 2 | 13 => u' = .bool false | 14 => u' = .bool false | 15 => u' = .bool false | 16 => u' = .slice (some lad) nl cl | 17 => u' = .int .i64 i | 18 => u' = .pointer (some (lad.add (i * 5))) | 19 => u' = .agg #[.int .i64 2, .int .i64 ln, .slice LM lms.length lmc, .slice LN 0 lnc, .slice LK 0 lkc] | 20 => u' = .int .i64 1 | 21 => u' = .bool false | 22 => u' = .bool false | _ => True) (by kernel_rfl) (fun w => Below.refl _ _) (fun a b c h1 h2 => h1.trans (h2.mono h1.size)) (by kernel_rfl) (by kernel_rfl) ?hG ⟨?o0, ?o1, ?o2, ?o3, ?o4, ?o5, ?o6, ?o7, ?o8, ?o9, ?o10, ?o11, ?o12, ?o13, ?o14, ?o15, ?o16, ?o17, ?o18, ?o19, ?o20, ?o21, ?o22, trivial⟩ ?hend
                case o0 =>
                  intro a w hfr hG hd
                  refine ⟨fun hw => ?_, fun hw => absurd hw (by simp [Region.wanted])⟩
                  have s12 : a.tmps.getD 12 undef = .slice (some lad) nl cl := hfr.at 12 (by kernel_rfl)
                  refine op_yields (.slice (some lad) nl cl) ?_ ?_ ?_
                  · simp only [execOp, resolve, List.map_toArray, List.map_cons, List.map_nil, Act.eval, s12]; simp [go_sem, -Array.getD_eq_getD_getElem?, s12]
                  · exact Below.refl _ _
                  · exact (fun _ _ => rfl)
                case o1 =>
                  intro a w hfr hG hd
                  refine ⟨fun hw => ?_, fun hw => absurd hw (by simp [Region.wanted])⟩
                  have s13 : a.tmps.getD 13 undef = .int .i64 i := hfr.at 13 (by kernel_rfl)
                  refine op_yields (.int .i64 i) ?_ ?_ ?_
                  · simp only [execOp, resolve, List.map_toArray, List.map_cons, List.map_nil, Act.eval, s13]; simp [go_sem, -Array.getD_eq_getD_getElem?, s13]
                  · exact Below.refl _ _
                  · exact (fun _ _ => rfl)
                case o2 =>
                  intro a w hfr hG hd
                  obtain ⟨d0, d1, _⟩ := hd
                  refine ⟨fun hw => ?_, fun hw => absurd hw (by simp [Region.wanted])⟩
                  have s80 : a.tmps.getD 80 undef = .slice (some lad) nl cl := (d0 rfl).now
                  have s81 : a.tmps.getD 81 undef = .int .i64 i := (d1 rfl).now
                  refine op_yields (.pointer (some (lad.add (i * 5)))) ?_ ?_ ?_
                  · simp only [execOp, resolve, List.map_toArray, List.map_cons, List.map_nil, Act.eval, s80, s81]; simp [go_sem, -Array.getD_eq_getD_getElem?, s80, s81, hltI, hi0]
                  · exact Below.refl _ _
                  · exact (fun _ _ => rfl)
                case o3 =>
                  intro a w hfr hG hd
                  obtain ⟨d0, _⟩ := hd
                  refine ⟨fun hw => ?_, fun hw => absurd hw (by simp [Region.wanted])⟩
                  have s82 : a.tmps.getD 82 undef = .pointer (some (lad.add (i * 5))) := (d0 rfl).now
                  obtain ⟨z0, z1, z2, z3, z4⟩ := HLC.out w hG.now.bel
                  refine op_yields (.agg #[.int .i64 2, .int .i64 ln, .slice LM lms.length lmc, .slice LN 0 lnc, .slice LK 0 lkc]) ?_ ?_ ?_
                  · simp only [execOp, resolve, List.map_toArray, List.map_cons, List.map_nil, Act.eval, s82]; simp [go_sem, -Array.getD_eq_getD_getElem?, s82, z0, z1, z2, z3, z4]
                  · exact Below.refl _ _
                  · exact (fun _ _ => rfl)
                case o4 =>
                  intro a w hfr hG hd
                  refine ⟨fun hw => ?_, fun hw => absurd hw (by simp [Region.wanted])⟩
                  have s14 : a.tmps.getD 14 undef = .pointer (some ⟨g14, 0, none⟩) := hfr.at 14 (by kernel_rfl)
                  obtain ⟨z0, z1, z2, z3, z4⟩ := blk_cells5 hG.now.blk
                  refine op_yields (.agg #[.int .i64 qk, .int .i64 qn, .slice M ms.length mc, .slice N 0 nc, .slice K 0 kc]) ?_ ?_ ?_
                  · simp only [execOp, resolve, List.map_toArray, List.map_cons, List.map_nil, Act.eval, s14]; simp [go_sem, -Array.getD_eq_getD_getElem?, s14, z0, z1, z2, z3, z4]
                  · exact Below.refl _ _
                  · exact (fun _ _ => rfl)
                case o5 =>
                  intro a w hfr hG hd
                  obtain ⟨d0, d1, _⟩ := hd
                  refine ⟨fun hw => ?_, fun hw => absurd hw (by simp [Region.wanted])⟩
                  have s83 : a.tmps.getD 83 undef = .agg #[.int .i64 2, .int .i64 ln, .slice LM lms.length lmc, .slice LN 0 lnc, .slice LK 0 lkc] := (d0 rfl).now
                  have s84 : a.tmps.getD 84 undef = .agg #[.int .i64 qk, .int .i64 qn, .slice M ms.length mc, .slice N 0 nc, .slice K 0 kc] := (d1 rfl).now
                  refine op_calls2 ((HE1.out w hG.now).mono fun e' w' hh => ⟨_, hh.1, hh.2, (fun _ _ => rfl)⟩) ?_
                  simp only [execOp, resolve, List.map_toArray, List.map_cons, List.map_nil, Act.eval, s83, s84]; simp [go_sem, -Array.getD_eq_getD_getElem?, s83, s84]
                case o6 =>
                  intro a w hfr hG hd
                  obtain ⟨d0, _⟩ := hd
                  refine ⟨fun hw => ?_, fun hw => absurd hw (by simp [Region.wanted])⟩
                  have s85 : a.tmps.getD 85 undef = .bool true := (d0 rfl).now
                  refine op_yields (.bool false) ?_ ?_ ?_
                  · simp only [execOp, resolve, List.map_toArray, List.map_cons, List.map_nil, Act.eval, s85]; simp [go_sem, -Array.getD_eq_getD_getElem?, s85]
                  · exact Below.refl _ _
                  · exact (fun _ _ => rfl)
                case o7 =>
                  intro a w hfr hG hd
                  obtain ⟨d0, d1, _⟩ := hd
                  refine ⟨fun hw => ?_, fun hw => absurd hw (by simp [Region.wanted])⟩
                  have s86 : a.tmps.getD 86 undef = .bool false := (d0 rfl).now
                  refine op_yields (.bool false) ?_ ?_ ?_
                  · simp only [execOp, resolve, List.map_toArray, List.map_cons, List.map_nil, Act.eval, s86]; simp [go_sem, -Array.getD_eq_getD_getElem?, s86]
                  · exact Below.refl _ _
                  · exact (fun _ _ => rfl)
                case o8 =>
                  intro a w hfr hG hd
                  obtain ⟨d0, _⟩ := hd
                  have sg : a.tmps.getD 87 undef = .bool false := (d0 rfl).now
                  refine ⟨fun hw => ?_, fun hw => by rw [wanted_of rfl (yielded_of rfl sg)] at hw; exact absurd hw (by decide)⟩
                  have s12 : a.tmps.getD 12 undef = .slice (some lad) nl cl := hfr.at 12 (by kernel_rfl)
                  refine op_yields (.slice (some lad) nl cl) ?_ ?_ ?_
                  · simp only [execOp, resolve, List.map_toArray, List.map_cons, List.map_nil, Act.eval, s12]; simp [go_sem, -Array.getD_eq_getD_getElem?, s12]
                  · exact Below.refl _ _
                  · exact (fun _ _ => rfl)
                case o9 =>
                  intro a w hfr hG hd
                  obtain ⟨d0, _⟩ := hd
                  have sg : a.tmps.getD 87 undef = .bool false := (d0 rfl).now
                  refine ⟨fun hw => ?_, fun hw => by rw [wanted_of rfl (yielded_of rfl sg)] at hw; exact absurd hw (by decide)⟩
                  have s13 : a.tmps.getD 13 undef = .int .i64 i := hfr.at 13 (by kernel_rfl)
                  refine op_yields (.int .i64 i) ?_ ?_ ?_
                  · simp only [execOp, resolve, List.map_toArray, List.map_cons, List.map_nil, Act.eval, s13]; simp [go_sem, -Array.getD_eq_getD_getElem?, s13]
                  · exact Below.refl _ _
                  · exact (fun _ _ => rfl)
                case o10 =>
                  intro a w hfr hG hd
                  obtain ⟨d0, d1, d2, _⟩ := hd
                  have sg : a.tmps.getD 87 undef = .bool false := (d2 rfl).now
                  refine ⟨fun hw => ?_, fun hw => by rw [wanted_of rfl (yielded_of rfl sg)] at hw; exact absurd hw (by decide)⟩
                  have s88 : a.tmps.getD 88 undef = .slice (some lad) nl cl := (d0 rfl).now
                  have s89 : a.tmps.getD 89 undef = .int .i64 i := (d1 rfl).now
                  refine op_yields (.pointer (some (lad.add (i * 5)))) ?_ ?_ ?_
                  · simp only [execOp, resolve, List.map_toArray, List.map_cons, List.map_nil, Act.eval, s88, s89]; simp [go_sem, -Array.getD_eq_getD_getElem?, s88, s89, hltI, hi0]
                  · exact Below.refl _ _
                  · exact (fun _ _ => rfl)
                case o11 =>
                  intro a w hfr hG hd
                  obtain ⟨d0, d1, _⟩ := hd
                  have sg : a.tmps.getD 87 undef = .bool false := (d1 rfl).now
                  refine ⟨fun hw => ?_, fun hw => by rw [wanted_of rfl (yielded_of rfl sg)] at hw; exact absurd hw (by decide)⟩
                  have s90 : a.tmps.getD 90 undef = .pointer (some (lad.add (i * 5))) := (d0 rfl).now
                  obtain ⟨z0, z1, z2, z3, z4⟩ := HLC.out w hG.now.bel
                  refine op_yields (.agg #[.int .i64 2, .int .i64 ln, .slice LM lms.length lmc, .slice LN 0 lnc, .slice LK 0 lkc]) ?_ ?_ ?_
                  · simp only [execOp, resolve, List.map_toArray, List.map_cons, List.map_nil, Act.eval, s90]; simp [go_sem, -Array.getD_eq_getD_getElem?, s90, z0, z1, z2, z3, z4]
                  · exact Below.refl _ _
                  · exact (fun _ _ => rfl)
                case o12 =>
                  intro a w hfr hG hd
                  obtain ⟨d0, d1, d2, _⟩ := hd
                  have sg : a.tmps.getD 87 undef = .bool false := (d1 rfl).now
                  refine ⟨fun hw => ?_, fun hw => by rw [wanted_of rfl (yielded_of rfl sg)] at hw; exact absurd hw (by decide)⟩
                  have s91 : a.tmps.getD 91 undef = .agg #[.int .i64 2, .int .i64 ln, .slice LM lms.length lmc, .slice LN 0 lnc, .slice LK 0 lkc] := (d0 rfl).now
                  refine op_calls2 ((HE2.out w hG.now).mono fun e' w' hh => ⟨_, hh.1, hh.2, (fun _ _ => rfl)⟩) ?_
                  simp only [execOp, resolve, List.map_toArray, List.map_cons, List.map_nil, Act.eval, s91]; simp [go_sem, -Array.getD_eq_getD_getElem?, s91]
                case o13 =>
                  intro a w hfr hG hd
                  obtain ⟨d0, d1, _⟩ := hd
                  have sg : a.tmps.getD 87 undef = .bool false := (d1 rfl).now
                  refine ⟨fun hw => ?_, fun hw => by rw [wanted_of rfl (yielded_of rfl sg)] at hw; exact absurd hw (by decide)⟩
                  have s92 : a.tmps.getD 92 undef = .int .i64 2 := (d0 rfl).now
                  refine op_yields (.bool false) ?_ ?_ ?_
                  · simp only [execOp, resolve, List.map_toArray, List.map_cons, List.map_nil, Act.eval, s92]; simp [go_sem, -Array.getD_eq_getD_getElem?, s92]
                  · exact Below.refl _ _
                  · exact (fun _ _ => rfl)
                case o14 =>
                  intro a w hfr hG hd
                  obtain ⟨d0, d1, _⟩ := hd
                  refine ⟨fun hw => ?_, fun hw => absurd hw (by simp [Region.wanted])⟩
                  have s87 : a.tmps.getD 87 undef = .bool false := (d0 rfl).now
                  have s93 : a.tmps.getD 93 undef = .bool false := (d1 rfl).now
                  refine op_yields (.bool false) ?_ ?_ ?_
                  · simp only [execOp, resolve, List.map_toArray, List.map_cons, List.map_nil, Act.eval, s87, s93]; simp [go_sem, -Array.getD_eq_getD_getElem?, s87, s93]
                  · exact Below.refl _ _
                  · exact (fun _ _ => rfl)
                case o15 =>
                  intro a w hfr hG hd
                  obtain ⟨d0, d1, _⟩ := hd
                  refine ⟨fun hw => ?_, fun hw => absurd hw (by simp [Region.wanted])⟩
                  have s94 : a.tmps.getD 94 undef = .bool false := (d0 rfl).now
                  refine op_yields (.bool false) ?_ ?_ ?_
                  · simp only [execOp, resolve, List.map_toArray, List.map_cons, List.map_nil, Act.eval, s94]; simp [go_sem, -Array.getD_eq_getD_getElem?, s94]
                  · exact Below.refl _ _
                  · exact (fun _ _ => rfl)
                case o16 =>
                  intro a w hfr hG hd
                  obtain ⟨d0, _⟩ := hd
                  have sg : a.tmps.getD 95 undef = .bool false := (d0 rfl).now
                  refine ⟨fun hw => ?_, fun hw => by rw [wanted_of rfl (yielded_of rfl sg)] at hw; exact absurd hw (by decide)⟩
                  have s12 : a.tmps.getD 12 undef = .slice (some lad) nl cl := hfr.at 12 (by kernel_rfl)
                  refine op_yields (.slice (some lad) nl cl) ?_ ?_ ?_
                  · simp only [execOp, resolve, List.map_toArray, List.map_cons, List.map_nil, Act.eval, s12]; simp [go_sem, -Array.getD_eq_getD_getElem?, s12]
                  · exact Below.refl _ _
                  · exact (fun _ _ => rfl)
                case o17 =>
                  intro a w hfr hG hd
                  obtain ⟨d0, _⟩ := hd
                  have sg : a.tmps.getD 95 undef = .bool false := (d0 rfl).now
                  refine ⟨fun hw => ?_, fun hw => by rw [wanted_of rfl (yielded_of rfl sg)] at hw; exact absurd hw (by decide)⟩
                  have s13 : a.tmps.getD 13 undef = .int .i64 i := hfr.at 13 (by kernel_rfl)
                  refine op_yields (.int .i64 i) ?_ ?_ ?_
                  · simp only [execOp, resolve, List.map_toArray, List.map_cons, List.map_nil, Act.eval, s13]; simp [go_sem, -Array.getD_eq_getD_getElem?, s13]
                  · exact Below.refl _ _
                  · exact (fun _ _ => rfl)
                case o18 =>
                  intro a w hfr hG hd
                  obtain ⟨d0, d1, d2, _⟩ := hd
                  have sg : a.tmps.getD 95 undef = .bool false := (d2 rfl).now
                  refine ⟨fun hw => ?_, fun hw => by rw [wanted_of rfl (yielded_of rfl sg)] at hw; exact absurd hw (by decide)⟩
                  have s96 : a.tmps.getD 96 undef = .slice (some lad) nl cl := (d0 rfl).now
                  have s97 : a.tmps.getD 97 undef = .int .i64 i := (d1 rfl).now
                  refine op_yields (.pointer (some (lad.add (i * 5)))) ?_ ?_ ?_
                  · simp only [execOp, resolve, List.map_toArray, List.map_cons, List.map_nil, Act.eval, s96, s97]; simp [go_sem, -Array.getD_eq_getD_getElem?, s96, s97, hltI, hi0]
                  · exact Below.refl _ _
                  · exact (fun _ _ => rfl)
                case o19 =>
                  intro a w hfr hG hd
                  obtain ⟨d0, d1, _⟩ := hd
                  have sg : a.tmps.getD 95 undef = .bool false := (d1 rfl).now
                  refine ⟨fun hw => ?_, fun hw => by rw [wanted_of rfl (yielded_of rfl sg)] at hw; exact absurd hw (by decide)⟩
                  have s98 : a.tmps.getD 98 undef = .pointer (some (lad.add (i * 5))) := (d0 rfl).now
                  obtain ⟨z0, z1, z2, z3, z4⟩ := HLC.out w hG.now.bel
                  refine op_yields (.agg #[.int .i64 2, .int .i64 ln, .slice LM lms.length lmc, .slice LN 0 lnc, .slice LK 0 lkc]) ?_ ?_ ?_
                  · simp only [execOp, resolve, List.map_toArray, List.map_cons, List.map_nil, Act.eval, s98]; simp [go_sem, -Array.getD_eq_getD_getElem?, s98, z0, z1, z2, z3, z4]
                  · exact Below.refl _ _
                  · exact (fun _ _ => rfl)
                case o20 =>
                  intro a w hfr hG hd
                  obtain ⟨d0, d1, d2, _⟩ := hd
                  have sg : a.tmps.getD 95 undef = .bool false := (d1 rfl).now
                  refine ⟨fun hw => ?_, fun hw => by rw [wanted_of rfl (yielded_of rfl sg)] at hw; exact absurd hw (by decide)⟩
                  have s99 : a.tmps.getD 99 undef = .agg #[.int .i64 2, .int .i64 ln, .slice LM lms.length lmc, .slice LN 0 lnc, .slice LK 0 lkc] := (d0 rfl).now
                  refine op_calls2 ((HE3.out w hG.now).mono fun e' w' hh => ⟨_, hh.1, hh.2, (fun _ _ => rfl)⟩) ?_
                  simp only [execOp, resolve, List.map_toArray, List.map_cons, List.map_nil, Act.eval, s99]; simp [go_sem, -Array.getD_eq_getD_getElem?, s99]
                case o21 =>
                  intro a w hfr hG hd
                  obtain ⟨d0, d1, _⟩ := hd
                  have sg : a.tmps.getD 95 undef = .bool false := (d1 rfl).now
                  refine ⟨fun hw => ?_, fun hw => by rw [wanted_of rfl (yielded_of rfl sg)] at hw; exact absurd hw (by decide)⟩
                  have s100 : a.tmps.getD 100 undef = .int .i64 1 := (d0 rfl).now
                  refine op_yields (.bool false) ?_ ?_ ?_
                  · simp only [execOp, resolve, List.map_toArray, List.map_cons, List.map_nil, Act.eval, s100]; simp [go_sem, -Array.getD_eq_getD_getElem?, s100]
                  · exact Below.refl _ _
                  · exact (fun _ _ => rfl)
                case o22 =>
                  intro a w hfr hG hd
                  obtain ⟨d0, d1, _⟩ := hd
                  refine ⟨fun hw => ?_, fun hw => absurd hw (by simp [Region.wanted])⟩
                  have s95 : a.tmps.getD 95 undef = .bool false := (d0 rfl).now
                  have s101 : a.tmps.getD 101 undef = .bool false := (d1 rfl).now
                  refine op_yields (.bool false) ?_ ?_ ?_
                  · simp only [execOp, resolve, List.map_toArray, List.map_cons, List.map_nil, Act.eval, s95, s101]; simp [go_sem, -Array.getD_eq_getD_getElem?, s95, s101]
                  · exact Below.refl _ _
                  · exact (fun _ _ => rfl)
                case hG => exact fun w' hb => HWI.out.below ((Below.refl _ _).drew.trans (hb.mono (by simp)))
                case hend =>
                  intro vs w' hG hv
                  have key : vs 22 = .bool false := by
                    obtain ⟨_, _, _, _, _, _, _, _, _, _, _, _, _, _, _, _, _, _, _, _, _, _, h22, _⟩ := hv
                    exact h22.now
                  have HB2 := Lib.hid hG.now.bel
                  clear hv hG HE1 HE2 HE3
                  simp only [putAll, Act.put, key]
                  clear key
                  go_simp
                  go_wp2_with fail
                  go_meet
                  exact ⟨rfl, HB2.out⟩
              case rest =>
                obtain ⟨rfl, hat⟩ := hcut
                have HB7 := Lib.hid hat
                clear hat HE1 HE2 HE3 HWI
                go_wp2_with fail
                go_roundg gg
                case measure => omega
                case rel => exact ⟨i + 1, by omega, by go_num, HB7.out⟩
end Go.Proofs.YtnkbpcenkbihpaaDoor
