/- Two expressions of klaxonkeep, made and boxed in one statement that draws its order. -/
import Derived.Test.YtcaapbbbekggiaaGreatDoorBase2
import Derived.Test.YtcaapbbbekggiaaGreatDoorBase3
import Derived.Test.YtcaapbbbekggiaaGreatDoorPe4
import Derived.Test.YtcaapbbbekggiaaGreatDoorExprRuns
namespace Go.Proofs.YtcaapbbbekggiaaGreatDoor
open Go.ChangeShapes Go.WideShapes Go.ChangeAt Go.RowKit
set_option linter.unusedVariables false
set_option linter.unusedSimpArgs false
set_option maxRecDepth 100000
def zeroCs : List Value := [.int .i64 0, .int .i64 0, .slice none 0 0, .slice none 0 0, .slice none 0 0]
theorem blk_zero_no {W : World} {ad : Addr} {t : TypeId} {u : Value} (hb : Blk W ad.block t zeroCs) (hc : W.cell? ad = some u) (h1 : u ≠ .int .i64 0) (h2 : u ≠ .slice none 0 0) : False := by
  unfold World.cell? at hc
  rw [hb.eq] at hc
  simp only at hc
  split at hc
  · cases hc
  · have hm : u ∈ zeroCs := by
      have h3 : (zeroCs.toArray)[ad.off]? = some u := hc
      rw [List.getElem?_toArray] at h3
      exact List.mem_of_getElem? h3
    simp only [zeroCs, List.mem_cons, List.not_mem_nil, or_false] at hm
    rcases hm with h | h | h | h | h
    · exact h1 h
    · exact h1 h
    · exact h2 h
    · exact h2 h
    · exact h2 h
/-- A row whose first cell no zero box has stays whatever becomes of zero boxes. -/
theorem slc_zero {S : Nat → Prop} {W : World} {size n : Nat} {v : Value} {xs : List Value} (h : Slc W size v n xs) (hS : ∀ q, S q → ∃ t, Blk W q t zeroCs) (hx : 0 < n → ∃ u r, xs = u :: r ∧ u ≠ .int .i64 0 ∧ u ≠ .slice none 0 0) : FarS S (fun V => Slc V size v n xs) W := by
  obtain ⟨A, c, rfl, hs, h1, h2⟩ := h
  rcases Nat.eq_zero_or_pos n with h0 | h0
  · subst h0
    have he : xs = [] := List.eq_nil_of_length_eq_zero (by have := hs.len; omega)
    subst he
    exact fun V _ _ => ⟨A, c, rfl, ⟨by simp, fun hp => absurd hp (by omega)⟩, h1, h2⟩
  · obtain ⟨u, r, rfl, hu1, hu2⟩ := hx h0
    have hf := FarS.sees (S := S) hs (fun ad e hq => by
      obtain ⟨t, hb⟩ := hS _ hq
      obtain ⟨ad', e', hlt, hc⟩ := hs.at_ h0
      rw [e] at e'; injection e' with e'; subst e'
      have h3 := hc 0 u rfl
      rw [add_zero'] at h3
      exact blk_zero_no hb h3 hu1 hu2)
    exact fun V hs' hk => ⟨A, c, rfl, hf V hs' hk, h1, h2⟩
theorem typed_kd {x : XE} (h : x.pe.ty ≠ 0) : x.kd ≠ 0 := by
  obtain ⟨kk, nn, mv, ms, nv, ns, kv, ks⟩ := x
  rcases xe_typed h with ⟨e, _⟩ | ⟨e, _⟩ | ⟨e, _⟩ | ⟨e, _⟩
  · show kk ≠ 0; omega
  · show kk ≠ 0; omega
  · show kk ≠ 0; omega
  · show kk ≠ 0; omega
theorem typed_kids {x : XE} (h : x.pe.ty ≠ 0) : ∀ k ∈ x.kids, k.pe.ty ≠ 0 := by
  obtain ⟨kk, nn, mv, ms, nv, ns, kv, ks⟩ := x
  intro k hk
  have hk : k ∈ ks := hk
  rcases xe_typed h with ⟨_, _, _, rfl⟩ | ⟨_, _, _, _, _, rfl⟩ | ⟨_, _, _, _, _, a, rfl, ha⟩ | ⟨_, _, _, _, _, a, b, rfl, ha, hb⟩
  · cases hk
  · cases hk
  · rw [List.mem_singleton] at hk; subst hk; rw [ha]; decide
  · rw [List.mem_cons, List.mem_singleton] at hk
    rcases hk with rfl | rfl
    · exact ha
    · exact hb
/-- A typed expression stays whatever becomes of zero boxes. -/
theorem okX_zero {S : Nat → Prop} {W : World} (hS : ∀ q, S q → ∃ t, Blk W q t zeroCs) : ∀ (d : Nat) (x : XE), okX d x W → x.pe.ty ≠ 0 → FarS S (okX d x) W
  | 0, _, h, _ => h.elim
  | d + 1, x, h, ht => by
    have h1 := slc_zero h.1 hS (fun hp => by
      cases hm : x.ms with
      | nil => rw [hm] at hp; simp at hp
      | cons m l => exact ⟨.string m.1, _, rfl, by simp, by simp⟩)
    have h2 := slc_zero h.2.1 hS (fun hp => by
      cases hm : x.ns with
      | nil => rw [hm] at hp; simp at hp
      | cons m l => exact ⟨.string m, _, rfl, by simp, by simp⟩)
    have h3 := slc_zero h.2.2.1 hS (fun hp => by
      have hkt := typed_kids ht
      cases hm : x.kids with
      | nil => rw [hm] at hp; simp at hp
      | cons m l =>
        have := typed_kd (hkt m (by rw [hm]; simp))
        exact ⟨.int .i64 m.kd, _, rfl, by simp [this], by simp⟩)
    have h4 : ∀ k ∈ x.kids, FarS S (okX d k) W := fun k hk => okX_zero hS d k (h.2.2.2 k hk) (typed_kids ht k hk)
    exact fun V hs hk => ⟨h1 V hs hk, h2 V hs hk, h3 V hs hk, fun k hm => h4 k hm V hs hk⟩
theorem KSet.ok.up {k : KSet} {B B' : Nat} {w : World} (h : k.ok B w) (hB : B ≤ B') : k.ok B' w := ⟨h.has_.more hB, h.hasI, h.n_, h.vals_.more hB, h.valsI, h.n2_⟩
/-- Within the statement: what is done, what it yielded. -/
structure PairI (w0 : World) (k1 k2 : KSet) (g1 g2 : Nat) (L : Nat → Bool) (vs : Nat → Value) (W : World) : Prop where
  bel : Below w0.heap.size w0 W
  b1 : Blk W g1 29 [.slice k1.A k1.n k1.c, .slice k1.A2 k1.n2 k1.c2]
  b2 : Blk W g2 29 [.slice k2.A k2.n k2.c, .slice k2.A2 k2.n2 k2.c2]
  o1 : k1.ok w0.heap.size W
  o2 : k2.ok w0.heap.size W
  v0 : L 0 = true → vs 0 = k1.val
  v1 : L 1 = true → ∃ x, vs 1 = x.val ∧ keepV 5 x ∧ okX 5 x W
  v2 : L 2 = true → vs 2 = k2.val
  v3 : L 3 = true → ∃ x, vs 3 = x.val ∧ keepV 5 x ∧ okX 5 x W
  v4 : L 4 = true → ∃ g, vs 4 = .pointer (some ⟨g, 0, none⟩) ∧ Blk W g 26 zeroCs ∧ w0.heap.size ≤ g
  v5 : L 5 = true → ∃ g, vs 5 = .pointer (some ⟨g, 0, none⟩) ∧ Blk W g 26 zeroCs ∧ w0.heap.size ≤ g
  ne : L 4 = true → L 5 = true → vs 4 ≠ vs 5
section
variable {w0 W W' : World} {k1 k2 : KSet} {g1 g2 : Nat} {L : Nat → Bool} {vs : Nat → Value}
theorem PairI.below (h : PairI w0 k1 k2 g1 g2 L vs W) (hb : Below W.heap.size W W') : PairI w0 k1 k2 g1 g2 L vs W' :=
  have hs := h.bel.size
  ⟨h.bel.trans (hb.mono hs), h.b1.below hb h.b1.lt, h.b2.below hb h.b2.lt, h.o1.below (hb.mono hs), h.o2.below (hb.mono hs), h.v0,
    fun e => by obtain ⟨x, e1, e2, e3⟩ := h.v1 e; exact ⟨x, e1, e2, okX_below hb 5 x e3⟩, h.v2,
    fun e => by obtain ⟨x, e1, e2, e3⟩ := h.v3 e; exact ⟨x, e1, e2, okX_below hb 5 x e3⟩,
    fun e => by obtain ⟨g, e1, e2, e3⟩ := h.v4 e; exact ⟨g, e1, e2.below hb e2.lt, e3⟩,
    fun e => by obtain ⟨g, e1, e2, e3⟩ := h.v5 e; exact ⟨g, e1, e2.below hb e2.lt, e3⟩, h.ne⟩
theorem PairI.start (h1 : Below w0.heap.size w0 W) (h2 : Blk W g1 29 [.slice k1.A k1.n k1.c, .slice k1.A2 k1.n2 k1.c2]) (h3 : Blk W g2 29 [.slice k2.A k2.n k2.c, .slice k2.A2 k2.n2 k2.c2]) (h4 : k1.ok w0.heap.size W) (h5 : k2.ok w0.heap.size W) (vs : Nat → Value) : PairI w0 k1 k2 g1 g2 (fun _ => false) vs W :=
  ⟨h1, h2, h3, h4, h5, (fun h => by cases h), (fun h => by cases h), (fun h => by cases h), (fun h => by cases h), (fun h => by cases h), (fun h => by cases h), (fun h => by cases h)⟩
theorem PairI.op0 (h : PairI w0 k1 k2 g1 g2 L vs W) : PairI w0 k1 k2 g1 g2 (upd L 0) (updV vs 0 k1.val) W :=
  ⟨h.bel, h.b1, h.b2, h.o1, h.o2, fun _ => updV_self _ _ _, h.v1, h.v2, h.v3, h.v4, h.v5, h.ne⟩
theorem PairI.op2 (h : PairI w0 k1 k2 g1 g2 L vs W) : PairI w0 k1 k2 g1 g2 (upd L 2) (updV vs 2 k2.val) W :=
  ⟨h.bel, h.b1, h.b2, h.o1, h.o2, h.v0, h.v1, fun _ => updV_self _ _ _, h.v3, h.v4, h.v5, h.ne⟩
theorem PairI.op1 (h : PairI w0 k1 k2 g1 g2 L vs W) (hb : Below W.heap.size W W') {x : XE} (hk : keepV 5 x) (hx : okX 5 x W') : PairI w0 k1 k2 g1 g2 (upd L 1) (updV vs 1 x.val) W' :=
  have h := h.below hb
  ⟨h.bel, h.b1, h.b2, h.o1, h.o2, h.v0, fun _ => ⟨x, updV_self _ _ _, hk, hx⟩, h.v2, h.v3, h.v4, h.v5, h.ne⟩
theorem PairI.op3 (h : PairI w0 k1 k2 g1 g2 L vs W) (hb : Below W.heap.size W W') {x : XE} (hk : keepV 5 x) (hx : okX 5 x W') : PairI w0 k1 k2 g1 g2 (upd L 3) (updV vs 3 x.val) W' :=
  have h := h.below hb
  ⟨h.bel, h.b1, h.b2, h.o1, h.o2, h.v0, h.v1, h.v2, fun _ => ⟨x, updV_self _ _ _, hk, hx⟩, h.v4, h.v5, h.ne⟩
theorem PairI.op4 (h : PairI w0 k1 k2 g1 g2 L vs W) : PairI w0 k1 k2 g1 g2 (upd L 4) (updV vs 4 (.pointer (some ⟨W.heap.size, 0, none⟩))) (W.alloc (.cells zeroCs.toArray 26)) := by
  have hb : Below W.heap.size W (W.alloc (.cells zeroCs.toArray 26)) := (Below.refl _ _).alloc (Nat.le_refl _) _
  have h2 := h.below hb
  refine ⟨h2.bel, h2.b1, h2.b2, h2.o1, h2.o2, h2.v0, h2.v1, h2.v2, h2.v3, fun _ => ⟨W.heap.size, updV_self _ _ _, Blk.mk (heap_alloc_new W _), h.bel.size⟩, h2.v5, fun _ e5 e => ?_⟩
  rw [updV_self] at e
  obtain ⟨g, e1, e2, _⟩ := h.v5 e5
  rw [updV_other _ _ (by decide), e1] at e
  injection e with e; injection e with e; injection e with e
  have := e2.lt; omega
theorem PairI.op5 (h : PairI w0 k1 k2 g1 g2 L vs W) : PairI w0 k1 k2 g1 g2 (upd L 5) (updV vs 5 (.pointer (some ⟨W.heap.size, 0, none⟩))) (W.alloc (.cells zeroCs.toArray 26)) := by
  have hb : Below W.heap.size W (W.alloc (.cells zeroCs.toArray 26)) := (Below.refl _ _).alloc (Nat.le_refl _) _
  have h2 := h.below hb
  refine ⟨h2.bel, h2.b1, h2.b2, h2.o1, h2.o2, h2.v0, h2.v1, h2.v2, h2.v3, h2.v4, fun _ => ⟨W.heap.size, updV_self _ _ _, Blk.mk (heap_alloc_new W _), h.bel.size⟩, fun e4 _ e => ?_⟩
  rw [updV_self] at e
  obtain ⟨g, e1, e2, _⟩ := h.v4 e4
  rw [updV_other _ _ (by decide), e1] at e
  injection e with e; injection e with e; injection e with e
  have := e2.lt; omega
/-- Both expressions in their boxes. -/
structure PairX (w0 : World) (g h : Nat) (x y : XE) (W : World) : Prop where
  bel : Below w0.heap.size w0 W
  bx : Blk W g 26 [.int .i64 x.kd, .int .i64 x.n, x.mv, x.nv, x.kv]
  by_ : Blk W h 26 [.int .i64 y.kd, .int .i64 y.n, y.mv, y.nv, y.kv]
  ox : okX 5 x W
  oy : okX 5 y W
  ne : g ≠ h
  lg : w0.heap.size ≤ g
  lh : w0.heap.size ≤ h
theorem PairX.below {w0 W W' : World} {g h : Nat} {x y : XE} (p : PairX w0 g h x y W) (hb : Below W.heap.size W W') : PairX w0 g h x y W' :=
  ⟨p.bel.trans (hb.mono p.bel.size), p.bx.below hb p.bx.lt, p.by_.below hb p.by_.lt, okX_below hb 5 x p.ox, okX_below hb 5 y p.oy, p.ne, p.lg, p.lh⟩
/-- At the end: both boxes, both expressions, the stores to come. -/
theorem PairI.fin (h : PairI w0 k1 k2 g1 g2 L vs W) (l1 : L 1 = true) (l3 : L 3 = true) (l4 : L 4 = true) (l5 : L 5 = true) : ∃ (g q : Nat) (x y : XE), vs 1 = x.val ∧ vs 3 = y.val ∧ vs 4 = .pointer (some ⟨g, 0, none⟩) ∧ vs 5 = .pointer (some ⟨q, 0, none⟩) ∧ keepV 5 x ∧ keepV 5 y ∧ okX 5 x W ∧ okX 5 y W ∧
    Blk W g 26 [.int .i64 0, .int .i64 0, .slice none 0 0, .slice none 0 0, .slice none 0 0] ∧ Blk W q 26 [.int .i64 0, .int .i64 0, .slice none 0 0, .slice none 0 0, .slice none 0 0] ∧ g ≠ q ∧ PairX w0 g q x y (set5W (set5W W g (.int .i64 x.kd) (.int .i64 x.n) x.mv x.nv x.kv) q (.int .i64 y.kd) (.int .i64 y.n) y.mv y.nv y.kv) := by
  obtain ⟨x, ex, kx, ox⟩ := h.v1 l1
  obtain ⟨y, ey, ky, oy⟩ := h.v3 l3
  obtain ⟨g, eg, bg, lg⟩ := h.v4 l4
  obtain ⟨q, eq, bq, lq⟩ := h.v5 l5
  have hne : g ≠ q := fun e => h.ne l4 l5 (by rw [eg, eq, e])
  refine ⟨g, q, x, y, ex, ey, eg, eq, kx, ky, ox, oy, bg, bq, hne, ?_⟩
  have hS : ∀ r, (r = g ∨ r = q) → ∃ t, Blk W r t zeroCs := fun r hr => by
    rcases hr with rfl | rfl
    · exact ⟨_, bg⟩
    · exact ⟨_, bq⟩
  have fx := okX_zero (S := fun r => r = g ∨ r = q) hS 5 x ox (by rw [(keepV_facts 5 x kx).ty]; decide)
  have fy := okX_zero (S := fun r => r = g ∨ r = q) hS 5 y oy (by rw [(keepV_facts 5 y ky).ty]; decide)
  have hg1 := set5W_grown W g (.int .i64 x.kd) (.int .i64 x.n) x.mv x.nv x.kv
  have hg2 := set5W_grown (set5W W g (.int .i64 x.kd) (.int .i64 x.n) x.mv x.nv x.kv) q (.int .i64 y.kd) (.int .i64 y.n) y.mv y.nv y.kv
  have o1 : Only g W (set5W W g (.int .i64 x.kd) (.int .i64 x.n) x.mv x.nv x.kv) := ⟨hg1.size, hg1.os, hg1.tape, hg1.output, fun r hr hn => hg1.block r hr (fun e => hn (by injection e))⟩
  have o2 : Only q (set5W W g (.int .i64 x.kd) (.int .i64 x.n) x.mv x.nv x.kv) (set5W (set5W W g (.int .i64 x.kd) (.int .i64 x.n) x.mv x.nv x.kv) q (.int .i64 y.kd) (.int .i64 y.n) y.mv y.nv y.kv) := ⟨hg2.size, hg2.os, hg2.tape, hg2.output, fun r hr hn => hg2.block r hr (fun e => hn (by injection e))⟩
  have hb1 := below_only h.bel o1 lg h.bel.size
  refine ⟨below_only hb1 o2 lq hb1.size, (set5W_blk bg _ _ _ _ _).only o2 hne, set5W_blk (bq.only o1 (Ne.symm hne)) _ _ _ _ _, ?_, ?_, hne, lg, lq⟩
  · exact ((fx.only (.inl rfl) o1).only (.inr rfl) o2).now
  · exact ((fy.only (.inl rfl) o1).only (.inr rfl) o2).now
end
end Go.Proofs.YtcaapbbbekggiaaGreatDoor
