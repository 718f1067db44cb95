/- Texts, merged in one. -/
import Derived.Test.YtlmakdclebbbkaaGreatBase44
import Derived.Test.YtlmakdclebbbkaaGreatBase45
import Derived.Test.YtlmakdclebbbkaaGreatBase7
import Derived.Lib.Hide
import Derived.Deep.QuietTactic
import Derived.BigQuiet
import Derived.Test.YtlmakdclebbbkaaGreatBase43
namespace Go.Proofs.YtlmakdclebbbkaaGreat
open Go.ChangeShapes Go.WideShapes Go.ChangeAt Go.RowKit
set_option linter.unusedVariables false
set_option linter.unusedSimpArgs false
set_option maxRecDepth 100000
def zeroCs : List Value := [.int .i64 0, .int .i64 0, .slice none 0 0, .slice none 0 0, .slice none 0 0]
theorem blk_zero_no {W : World} {ad : Addr} {t : TypeId} {u : Value} (hb : Blk W ad.block t zeroCs) (hc : W.cell? ad = some u) (h1 : u ≠ .int .i64 0) (h2 : u ≠ .slice none 0 0) : False := by
  unfold World.cell? at hc
  rw [hb.eq] at hc
  simp only at hc
  split at hc
  · cases hc
  · have hm : u ∈ zeroCs := by
      have h3 : (zeroCs.toArray)[ad.off]? = some u := hc
      rw [List.getElem?_toArray] at h3
      exact List.mem_of_getElem? h3
    simp only [zeroCs, List.mem_cons, List.not_mem_nil, or_false] at hm
    rcases hm with h | h | h | h | h
    · exact h1 h
    · exact h1 h
    · exact h2 h
    · exact h2 h
    · exact h2 h
theorem slc_zero {S : Nat → Prop} {W : World} {size n : Nat} {v : Value} {xs : List Value} (h : Slc W size v n xs) (hS : ∀ q, S q → ∃ t, Blk W q t zeroCs) (hx : 0 < n → ∃ u r, xs = u :: r ∧ u ≠ .int .i64 0 ∧ u ≠ .slice none 0 0) : FarS S (fun V => Slc V size v n xs) W := by
  obtain ⟨A, c, rfl, hs, h1, h2⟩ := h
  rcases Nat.eq_zero_or_pos n with h0 | h0
  · subst h0
    have he : xs = [] := List.eq_nil_of_length_eq_zero (by have := hs.len; omega)
    subst he
    exact fun V _ _ => ⟨A, c, rfl, ⟨by simp, fun hp => absurd hp (by omega)⟩, h1, h2⟩
  · obtain ⟨u, r, rfl, hu1, hu2⟩ := hx h0
    have hf := FarS.sees (S := S) hs (fun ad e hq => by
      obtain ⟨t, hb⟩ := hS _ hq
      obtain ⟨ad', e', hlt, hc⟩ := hs.at_ h0
      rw [e] at e'; injection e' with e'; subst e'
      have h3 := hc 0 u rfl
      rw [add_zero'] at h3
      exact blk_zero_no hb h3 hu1 hu2)
    exact fun V hs' hk => ⟨A, c, rfl, hf V hs' hk, h1, h2⟩
theorem typed_kd {x : XE} (h : x.pe.ty ≠ 0) : x.kd ≠ 0 := by
  obtain ⟨kk, nn, mv, ms, nv, ns, kv, ks⟩ := x
  rcases xe_typed h with ⟨e, _⟩ | ⟨e, _⟩ | ⟨e, _⟩ | ⟨e, _⟩
  · show kk ≠ 0; omega
  · show kk ≠ 0; omega
  · show kk ≠ 0; omega
  · show kk ≠ 0; omega
theorem typed_kids {x : XE} (h : x.pe.ty ≠ 0) : ∀ k ∈ x.kids, k.pe.ty ≠ 0 := by
  obtain ⟨kk, nn, mv, ms, nv, ns, kv, ks⟩ := x
  intro k hk
  have hk : k ∈ ks := hk
  rcases xe_typed h with ⟨_, _, _, rfl⟩ | ⟨_, _, _, _, _, rfl⟩ | ⟨_, _, _, _, _, a, rfl, ha⟩ | ⟨_, _, _, _, _, a, b, rfl, ha, hb⟩
  · cases hk
  · cases hk
  · rw [List.mem_singleton] at hk; subst hk; rw [ha]; decide
  · rw [List.mem_cons, List.mem_singleton] at hk
    rcases hk with rfl | rfl
    · exact ha
    · exact hb
theorem okX_zero {S : Nat → Prop} {W : World} (hS : ∀ q, S q → ∃ t, Blk W q t zeroCs) : ∀ (d : Nat) (x : XE), okX d x W → x.pe.ty ≠ 0 → FarS S (okX d x) W
  | 0, _, h, _ => h.elim
  | d + 1, x, h, ht => by
    have h1 := slc_zero h.1 hS (fun hp => by
      cases hm : x.ms with
      | nil => rw [hm] at hp; simp at hp
      | cons m l => exact ⟨.string m.1, _, rfl, by simp, by simp⟩)
    have h2 := slc_zero h.2.1 hS (fun hp => by
      cases hm : x.ns with
      | nil => rw [hm] at hp; simp at hp
      | cons m l => exact ⟨.string m, _, rfl, by simp, by simp⟩)
    have h3 := slc_zero h.2.2.1 hS (fun hp => by
      have hkt := typed_kids ht
      cases hm : x.kids with
      | nil => rw [hm] at hp; simp at hp
      | cons m l =>
        have := typed_kd (hkt m (by rw [hm]; simp))
        exact ⟨.int .i64 m.kd, _, rfl, by simp [this], by simp⟩)
    have h4 : ∀ k ∈ x.kids, FarS S (okX d k) W := fun k hk => okX_zero hS d k (h.2.2.2 k hk) (typed_kids ht k hk)
    exact fun V hs hk => ⟨h1 V hs hk, h2 V hs hk, h3 V hs hk, fun k hm => h4 k hm V hs hk⟩
theorem KSet.ok.up {k : KSet} {B B' : Nat} {w : World} (h : k.ok B w) (hB : B ≤ B') : k.ok B' w := ⟨h.has_.more hB, h.hasI, h.n_, h.vals_.more hB, h.valsI, h.n2_⟩
structure PairI (w0 : World) (k1 k2 : KSet) (g1 g2 : Nat) (L : Nat → Bool) (vs : Nat → Value) (W : World) : Prop where
  bel : Below w0.heap.size w0 W
  b1 : Blk W g1 53 [.slice k1.A k1.n k1.c, .slice k1.A2 k1.n2 k1.c2]
  b2 : Blk W g2 53 [.slice k2.A k2.n k2.c, .slice k2.A2 k2.n2 k2.c2]
  o1 : k1.ok w0.heap.size W
  o2 : k2.ok w0.heap.size W
  v0 : L 0 = true → vs 0 = k1.val
  v1 : L 1 = true → ∃ x, vs 1 = x.val ∧ keepV 5 x ∧ okX 5 x W
  v2 : L 2 = true → vs 2 = k2.val
  v3 : L 3 = true → ∃ x, vs 3 = x.val ∧ keepV 5 x ∧ okX 5 x W
  v4 : L 4 = true → ∃ g, vs 4 = .pointer (some ⟨g, 0, none⟩) ∧ Blk W g 37 zeroCs ∧ w0.heap.size ≤ g
  v5 : L 5 = true → ∃ g, vs 5 = .pointer (some ⟨g, 0, none⟩) ∧ Blk W g 37 zeroCs ∧ w0.heap.size ≤ g
  ne : L 4 = true → L 5 = true → vs 4 ≠ vs 5
section
variable {w0 W W' : World} {k1 k2 : KSet} {g1 g2 : Nat} {L : Nat → Bool} {vs : Nat → Value}
theorem PairI.below (h : PairI w0 k1 k2 g1 g2 L vs W) (hb : Below W.heap.size W W') : PairI w0 k1 k2 g1 g2 L vs W' :=
  have hs := h.bel.size
  ⟨h.bel.trans (hb.mono hs), h.b1.below hb h.b1.lt, h.b2.below hb h.b2.lt, h.o1.below (hb.mono hs), h.o2.below (hb.mono hs), h.v0,
    fun e => by obtain ⟨x, e1, e2, e3⟩ := h.v1 e; exact ⟨x, e1, e2, okX_below hb 5 x e3⟩, h.v2,
    fun e => by obtain ⟨x, e1, e2, e3⟩ := h.v3 e; exact ⟨x, e1, e2, okX_below hb 5 x e3⟩,
    fun e => by obtain ⟨g, e1, e2, e3⟩ := h.v4 e; exact ⟨g, e1, e2.below hb e2.lt, e3⟩,
    fun e => by obtain ⟨g, e1, e2, e3⟩ := h.v5 e; exact ⟨g, e1, e2.below hb e2.lt, e3⟩, h.ne⟩
theorem PairI.start (h1 : Below w0.heap.size w0 W) (h2 : Blk W g1 53 [.slice k1.A k1.n k1.c, .slice k1.A2 k1.n2 k1.c2]) (h3 : Blk W g2 53 [.slice k2.A k2.n k2.c, .slice k2.A2 k2.n2 k2.c2]) (h4 : k1.ok w0.heap.size W) (h5 : k2.ok w0.heap.size W) (vs : Nat → Value) : PairI w0 k1 k2 g1 g2 (fun _ => false) vs W :=
  ⟨h1, h2, h3, h4, h5, (fun h => by cases h), (fun h => by cases h), (fun h => by cases h), (fun h => by cases h), (fun h => by cases h), (fun h => by cases h), (fun h => by cases h)⟩
theorem PairI.op0 (h : PairI w0 k1 k2 g1 g2 L vs W) : PairI w0 k1 k2 g1 g2 (upd L 0) (updV vs 0 k1.val) W :=
  ⟨h.bel, h.b1, h.b2, h.o1, h.o2, fun _ => updV_self _ _ _, h.v1, h.v2, h.v3, h.v4, h.v5, h.ne⟩
theorem PairI.op2 (h : PairI w0 k1 k2 g1 g2 L vs W) : PairI w0 k1 k2 g1 g2 (upd L 2) (updV vs 2 k2.val) W :=
  ⟨h.bel, h.b1, h.b2, h.o1, h.o2, h.v0, h.v1, fun _ => updV_self _ _ _, h.v3, h.v4, h.v5, h.ne⟩
theorem PairI.op1 (h : PairI w0 k1 k2 g1 g2 L vs W) (hb : Below W.heap.size W W') {x : XE} (hk : keepV 5 x) (hx : okX 5 x W') : PairI w0 k1 k2 g1 g2 (upd L 1) (updV vs 1 x.val) W' :=
  have h := h.below hb
  ⟨h.bel, h.b1, h.b2, h.o1, h.o2, h.v0, fun _ => ⟨x, updV_self _ _ _, hk, hx⟩, h.v2, h.v3, h.v4, h.v5, h.ne⟩
theorem PairI.op3 (h : PairI w0 k1 k2 g1 g2 L vs W) (hb : Below W.heap.size W W') {x : XE} (hk : keepV 5 x) (hx : okX 5 x W') : PairI w0 k1 k2 g1 g2 (upd L 3) (updV vs 3 x.val) W' :=
  have h := h.below hb
  ⟨h.bel, h.b1, h.b2, h.o1, h.o2, h.v0, h.v1, h.v2, fun _ => ⟨x, updV_self _ _ _, hk, hx⟩, h.v4, h.v5, h.ne⟩
theorem PairI.op4 (h : PairI w0 k1 k2 g1 g2 L vs W) : PairI w0 k1 k2 g1 g2 (upd L 4) (updV vs 4 (.pointer (some ⟨W.heap.size, 0, none⟩))) (W.alloc (.cells zeroCs.toArray 37)) := by
  have hb : Below W.heap.size W (W.alloc (.cells zeroCs.toArray 37)) := (Below.refl _ _).alloc (Nat.le_refl _) _
  have h2 := h.below hb
  refine ⟨h2.bel, h2.b1, h2.b2, h2.o1, h2.o2, h2.v0, h2.v1, h2.v2, h2.v3, fun _ => ⟨W.heap.size, updV_self _ _ _, Blk.mk (heap_alloc_new W _), h.bel.size⟩, h2.v5, fun _ e5 e => ?_⟩
  rw [updV_self] at e
  obtain ⟨g, e1, e2, _⟩ := h.v5 e5
  rw [updV_other _ _ (by decide), e1] at e
  injection e with e; injection e with e; injection e with e
  have := e2.lt; omega
theorem PairI.op5 (h : PairI w0 k1 k2 g1 g2 L vs W) : PairI w0 k1 k2 g1 g2 (upd L 5) (updV vs 5 (.pointer (some ⟨W.heap.size, 0, none⟩))) (W.alloc (.cells zeroCs.toArray 37)) := by
  have hb : Below W.heap.size W (W.alloc (.cells zeroCs.toArray 37)) := (Below.refl _ _).alloc (Nat.le_refl _) _
  have h2 := h.below hb
  refine ⟨h2.bel, h2.b1, h2.b2, h2.o1, h2.o2, h2.v0, h2.v1, h2.v2, h2.v3, h2.v4, fun _ => ⟨W.heap.size, updV_self _ _ _, Blk.mk (heap_alloc_new W _), h.bel.size⟩, fun e4 _ e => ?_⟩
  rw [updV_self] at e
  obtain ⟨g, e1, e2, _⟩ := h.v4 e4
  rw [updV_other _ _ (by decide), e1] at e
  injection e with e; injection e with e; injection e with e
  have := e2.lt; omega
structure PairX (w0 : World) (g h : Nat) (x y : XE) (W : World) : Prop where
  bel : Below w0.heap.size w0 W
  bx : Blk W g 37 [.int .i64 x.kd, .int .i64 x.n, x.mv, x.nv, x.kv]
  by_ : Blk W h 37 [.int .i64 y.kd, .int .i64 y.n, y.mv, y.nv, y.kv]
  ox : okX 5 x W
  oy : okX 5 y W
  ne : g ≠ h
  lg : w0.heap.size ≤ g
  lh : w0.heap.size ≤ h
theorem PairX.below {w0 W W' : World} {g h : Nat} {x y : XE} (p : PairX w0 g h x y W) (hb : Below W.heap.size W W') : PairX w0 g h x y W' :=
  ⟨p.bel.trans (hb.mono p.bel.size), p.bx.below hb p.bx.lt, p.by_.below hb p.by_.lt, okX_below hb 5 x p.ox, okX_below hb 5 y p.oy, p.ne, p.lg, p.lh⟩
theorem PairI.fin (h : PairI w0 k1 k2 g1 g2 L vs W) (l1 : L 1 = true) (l3 : L 3 = true) (l4 : L 4 = true) (l5 : L 5 = true) : ∃ (g q : Nat) (x y : XE), vs 1 = x.val ∧ vs 3 = y.val ∧ vs 4 = .pointer (some ⟨g, 0, none⟩) ∧ vs 5 = .pointer (some ⟨q, 0, none⟩) ∧ keepV 5 x ∧ keepV 5 y ∧ okX 5 x W ∧ okX 5 y W ∧
    Blk W g 37 [.int .i64 0, .int .i64 0, .slice none 0 0, .slice none 0 0, .slice none 0 0] ∧ Blk W q 37 [.int .i64 0, .int .i64 0, .slice none 0 0, .slice none 0 0, .slice none 0 0] ∧ g ≠ q ∧ PairX w0 g q x y (set5W (set5W W g (.int .i64 x.kd) (.int .i64 x.n) x.mv x.nv x.kv) q (.int .i64 y.kd) (.int .i64 y.n) y.mv y.nv y.kv) := by
  obtain ⟨x, ex, kx, ox⟩ := h.v1 l1
  obtain ⟨y, ey, ky, oy⟩ := h.v3 l3
  obtain ⟨g, eg, bg, lg⟩ := h.v4 l4
  obtain ⟨q, eq, bq, lq⟩ := h.v5 l5
  have hne : g ≠ q := fun e => h.ne l4 l5 (by rw [eg, eq, e])
  refine ⟨g, q, x, y, ex, ey, eg, eq, kx, ky, ox, oy, bg, bq, hne, ?_⟩
  have hS : ∀ r, (r = g ∨ r = q) → ∃ t, Blk W r t zeroCs := fun r hr => by
    rcases hr with rfl | rfl
    · exact ⟨_, bg⟩
    · exact ⟨_, bq⟩
  have fx := okX_zero (S := fun r => r = g ∨ r = q) hS 5 x ox (by rw [(keepV_facts 5 x kx).ty]; decide)
  have fy := okX_zero (S := fun r => r = g ∨ r = q) hS 5 y oy (by rw [(keepV_facts 5 y ky).ty]; decide)
  have hg1 := set5W_grown W g (.int .i64 x.kd) (.int .i64 x.n) x.mv x.nv x.kv
  have hg2 := set5W_grown (set5W W g (.int .i64 x.kd) (.int .i64 x.n) x.mv x.nv x.kv) q (.int .i64 y.kd) (.int .i64 y.n) y.mv y.nv y.kv
  have o1 : Only g W (set5W W g (.int .i64 x.kd) (.int .i64 x.n) x.mv x.nv x.kv) := ⟨hg1.size, hg1.os, hg1.tape, hg1.output, fun r hr hn => hg1.block r hr (fun e => hn (by injection e))⟩
  have o2 : Only q (set5W W g (.int .i64 x.kd) (.int .i64 x.n) x.mv x.nv x.kv) (set5W (set5W W g (.int .i64 x.kd) (.int .i64 x.n) x.mv x.nv x.kv) q (.int .i64 y.kd) (.int .i64 y.n) y.mv y.nv y.kv) := ⟨hg2.size, hg2.os, hg2.tape, hg2.output, fun r hr hn => hg2.block r hr (fun e => hn (by injection e))⟩
  have hb1 := below_only h.bel o1 lg h.bel.size
  refine ⟨below_only hb1 o2 lq hb1.size, (set5W_blk bg _ _ _ _ _).only o2 hne, set5W_blk (bq.only o1 (Ne.symm hne)) _ _ _ _ _, ?_, ?_, hne, lg, lq⟩
  · exact ((fx.only (.inl rfl) o1).only (.inr rfl) o2).now
  · exact ((fy.only (.inl rfl) o1).only (.inr rfl) o2).now
end
end Go.Proofs.YtlmakdclebbbkaaGreat

namespace Go.Proofs.YtlmakdclebbbkaaGreat
open Go.ChangeShapes Go.WideShapes Go.ChangeAt Go.RowKit
set_option linter.unusedVariables false
set_option linter.unusedSimpArgs false
set_option maxRecDepth 100000
theorem clone_mtc (A : Option Addr) (n c B : Nat) (zs : List Mtc) (w : World) (h : Sees w B 3 A n (mtcs zs)) (hB : B ≤ w.heap.size) (hn : n ≤ 1000000) :
    Calls Tryz.prog 153 #[.slice A n c] w (OwnAns 32 3 n (mtcs zs) w) := by
  have HL := Lib.hid h.mtc_len
  have H := Lib.hid h; clear h
  obtain ⟨i0, hi, hz0, hz1, hz2⟩ := info_parts Tryz.infoMtc5
  have hnil := fun w => Lib.run_eql_slice_nil (P := Tryz.prog) w 33 32 A n c 0 0 Tryz.underlying33
  cases A with
  | none =>
    have hn0 : n = 0 := by
      rcases Nat.eq_zero_or_pos n with h | h
      · exact h
      · obtain ⟨ad, h, _⟩ := H.out.at_ h; cases h
    subst hn0
    have hl0 : zs = [] := List.eq_nil_of_length_eq_zero HL.out
    subst hl0
    have hr := Lib.hid (show w.ownsRow w.heap.size 32 3 (.slice none 0 0) 0 (mtcs []) by simpa [mtcs] using World.ownsRow_nil w w.heap.size 32 3)
    go_enter Tryz.func153, Tryz.ntmps153
    go_wp2_with fail
    go_ret
    exact ownAns hr.out (Below.refl _ _) rfl (Nat.le_refl _) (by omega)
  | some ad =>
    have hown0 : (w.alloc (.cells #[] 32)).ownsRow w.heap.size 32 3 (.slice (some ⟨w.heap.size, 0, none⟩) 0 0) 0 [] := World.ownsRow_made w #[] 0 (Nat.le_refl _) (by unfold maxLen; omega) rfl
    have HO := Lib.hid hown0; clear hown0
    have HS := Lib.hid (H.out.below (((Below.refl B w).alloc hB (.cells #[] 32)))); clear H
    go_enter Tryz.func153, Tryz.ntmps153
    go_wp2_with (at_builtin; refine wpList_append_sees rfl (.tmp 5) (.tmp 6) 33 rfl w.heap.size 32 i0 (.agg #[.string ⟨#[]⟩, .string ⟨#[]⟩, .int .i64 0]) 3 40 Tryz.underlying33 hi hz0 hz1 hz2 rfl (by decide) _ 0 [] rfl HO.out B (some ad) n _ (mtcs zs) rfl HS.out (mtcs_one _) (by unfold maxLen; omega) (by omega) (by simp) ?_)
    intro v' w1 hown hg
    have hb := ((Below.refl w.heap.size w).alloc (Nat.le_refl _) _).grown hg (by simp) (by simp [Value.ownBlock])
    try simp only [Nat.zero_add, List.nil_append] at hown
    obtain ⟨A2, c2, rfl, hc3, hc4⟩ := own_slice hown
    have H1 := Lib.hid hown; have H2 := Lib.hid hb; clear hown hb hg
    go_wp2_with fail
    go_ret
    exact ownAns H1.out H2.out rfl hc3 hc4
theorem Tryz.infoExprC : (Tryz.prog.info? 37).map (fun i => (i.zero, i.size, i.bytes)) = some (some (.agg #[.int .i64 0, .int .i64 0, .slice none 0 0, .slice none 0 0, .slice none 0 0]), 5, 88) := by kernel_rfl
theorem each_none (A : Option Addr) (c : Nat) (w : World) : Calls Tryz.prog 155 #[.slice A 0 c, .func (.func 118) #[] #[]] w fun e w' => e = .returned (.slice (some ⟨w.heap.size, 0, none⟩) 0 0) ∧ Below w.heap.size w w' := by
  obtain ⟨i0, hi, hz0, hz1, hz2⟩ := info_parts Tryz.infoExprC
  have HR := Lib.hid (Below.refl w.heap.size w)
  go_enter Tryz.func155, Tryz.ntmps155
  go_wp2_with (at_make; refine wpList_make_own _ rfl _ _ 35 rfl w.heap.size 37 i0 (.agg #[.int .i64 0, .int .i64 0, .slice none 0 0, .slice none 0 0, .slice none 0 0]) 5 Tryz.underlying35 hi hz0 hz1 _ _ _ 0 rfl rfl rfl (by omega) (by unfold maxLen; omega) (Nat.le_refl _) ?_)
  intro w1 hown hg
  have HB := Lib.hid (HR.out.grown hg (Nat.le_refl _) (fun k h => by cases h))
  clear hown hg
  go_wp2_with fail
  go_loopg [5, 7, 13] 0 (fun g x5 x7 x13 wr => x5 = .slice (some ⟨w.heap.size, 0, none⟩) 0 0 ∧ x13 = .int .i64 0 ∧ wr = w1)
  case atStart => exact ⟨rfl, rfl, rfl⟩
  case round =>
    obtain ⟨rfl, rfl, rfl⟩ := hrel
    go_wp2_with fail
    go_ret
    exact ⟨rfl, HB.out⟩
structure Pick (B : Nat) (q : XE) (W : World) : Prop where
  kd : q.kd = 2
  ns : q.ns = []
  kids : q.kids = []
  mv : W.ownsRow B 32 3 q.mv q.ms.length (mtcs q.ms)
  nv : ∃ A c, q.nv = .slice A 0 c ∧ c ≤ 9223372036854775807
  kv : ∃ A c, q.kv = .slice A 0 c ∧ c ≤ 9223372036854775807
section
variable {B : Nat} {q : XE} {W W' : World}
theorem Pick.below (h : Pick B q W) (hb : Below W.heap.size W W') : Pick B q W' := ⟨h.kd, h.ns, h.kids, own_below h.mv hb (Nat.le_refl _), h.nv, h.kv⟩
theorem Pick.mono {B' : Nat} (h : Pick B q W) (hb : B' ≤ B) : Pick B' q W := ⟨h.kd, h.ns, h.kids, own_mono h.mv hb, h.nv, h.kv⟩
theorem slc_none (W : World) (size : Nat) {v : Value} (h : ∃ A c, v = .slice A 0 c ∧ c ≤ 9223372036854775807) : Slc W size v 0 [] := by
  obtain ⟨A, c, rfl, hc⟩ := h
  exact ⟨A, c, rfl, ⟨by simp, fun hp => absurd hp (by omega)⟩, Nat.zero_le _, hc⟩
theorem Pick.ok (h : Pick B q W) (d : Nat) : okX (d + 1) q W := by
  obtain ⟨A, c, e, h1, h2⟩ := own_slice h.mv
  have hm := h.mv
  rw [e] at hm
  refine ⟨⟨A, c, e, Sees.of_own hm, h1, h2⟩, ?_, ?_, fun k hk => ?_⟩
  · rw [h.ns]; exact slc_none W 1 h.nv
  · rw [h.kids]; exact slc_none W 5 h.kv
  · rw [h.kids] at hk; cases hk
end
structure ClAt (w0 : World) (b1 b2 : Nat) (k n : Int) (mv nv kv : Value) (W : World) : Prop where
  bel : Below w0.heap.size w0 W
  bx : Blk W b1 37 [.int .i64 k, .int .i64 n, mv, nv, kv]
  bz : Blk W b2 37 [.int .i64 0, .int .i64 0, .slice none 0 0, .slice none 0 0, .slice none 0 0]
  l1 : w0.heap.size ≤ b1
  l2 : w0.heap.size ≤ b2
  ne : b1 ≠ b2
section
variable {w0 W W' : World} {b1 b2 : Nat} {k n : Int} {mv nv kv : Value}
theorem ClAt.below (h : ClAt w0 b1 b2 k n mv nv kv W) (hb : Below W.heap.size W W') : ClAt w0 b1 b2 k n mv nv kv W' :=
  ⟨h.bel.trans (hb.mono h.bel.size), h.bx.below hb h.bx.lt, h.bz.below hb h.bz.lt, h.l1, h.l2, h.ne⟩
theorem ClAt.set2 (h : ClAt w0 b1 b2 k n mv nv kv W) (u : Value) : ClAt w0 b1 b2 k n u nv kv (W.setCell ⟨b1, 2, none⟩ u) :=
  ⟨h.bel.setCell (p := ⟨b1, 2, none⟩) h.l1 u, h.bx.set 2 u, h.bz.far (p := ⟨b1, 2, none⟩) h.ne.symm u, h.l1, h.l2, h.ne⟩
theorem ClAt.set3 (h : ClAt w0 b1 b2 k n mv nv kv W) (u : Value) : ClAt w0 b1 b2 k n mv u kv (W.setCell ⟨b1, 3, none⟩ u) :=
  ⟨h.bel.setCell (p := ⟨b1, 3, none⟩) h.l1 u, h.bx.set 3 u, h.bz.far (p := ⟨b1, 3, none⟩) h.ne.symm u, h.l1, h.l2, h.ne⟩
theorem ClAt.set4 (h : ClAt w0 b1 b2 k n mv nv kv W) (u : Value) : ClAt w0 b1 b2 k n mv nv u (W.setCell ⟨b1, 4, none⟩ u) :=
  ⟨h.bel.setCell (p := ⟨b1, 4, none⟩) h.l1 u, h.bx.set 4 u, h.bz.far (p := ⟨b1, 4, none⟩) h.ne.symm u, h.l1, h.l2, h.ne⟩
end
set_option maxHeartbeats 4000000 in
theorem clone_pick (n : Int) (A1 : Option Addr) (c1 : Nat) (ms : List Mtc) (A2 : Option Addr) (c2 : Nat) (A3 : Option Addr) (c3 : Nat) (w : World) (h : Slc w 3 (.slice A1 ms.length c1) ms.length (mtcs ms)) (hl : ms.length ≤ 1000) :
    Calls Tryz.prog 118 #[.agg #[.int .i64 2, .int .i64 n, .slice A1 ms.length c1, .slice A2 0 c2, .slice A3 0 c3]] w fun e w' => ∃ q : XE, e = .returned q.val ∧ q.pe = .mk 2 n ms [] [] ∧ Pick w.heap.size q w' ∧ Below w.heap.size w w' := by
  have hsz : (w.alloc (.cells #[.int .i64 2, .int .i64 n, .slice A1 ms.length c1, .slice A2 0 c2, .slice A3 0 c3] 37)).heap.size = w.heap.size + 1 := by simp
  have hb : Below w.heap.size w ((w.alloc (.cells #[.int .i64 2, .int .i64 n, .slice A1 ms.length c1, .slice A2 0 c2, .slice A3 0 c3] 37)).alloc (.cells #[.int .i64 0, .int .i64 0, .slice none 0 0, .slice none 0 0, .slice none 0 0] 37)) := ((Below.refl _ _).alloc (Nat.le_refl _) _).alloc (by simp) _
  have HC0 : Hid (ClAt w w.heap.size (w.heap.size + 1) 2 n (.slice A1 ms.length c1) (.slice A2 0 c2) (.slice A3 0 c3) ((w.alloc (.cells #[.int .i64 2, .int .i64 n, .slice A1 ms.length c1, .slice A2 0 c2, .slice A3 0 c3] 37)).alloc (.cells #[.int .i64 0, .int .i64 0, .slice none 0 0, .slice none 0 0, .slice none 0 0] 37))) := Lib.hid ⟨hb, (Blk.mk (heap_alloc_new w _)).alloc _, (by have hh := (Blk.mk (heap_alloc_new (w.alloc (.cells #[.int .i64 2, .int .i64 n, .slice A1 ms.length c1, .slice A2 0 c2, .slice A3 0 c3] 37)) (.cells #[.int .i64 0, .int .i64 0, .slice none 0 0, .slice none 0 0, .slice none 0 0] 37)) : Blk _ (w.alloc (.cells #[.int .i64 2, .int .i64 n, .slice A1 ms.length c1, .slice A2 0 c2, .slice A3 0 c3] 37)).heap.size 37 [.int .i64 0, .int .i64 0, .slice none 0 0, .slice none 0 0, .slice none 0 0]); rw [hsz] at hh; exact hh), Nat.le_refl _, Nat.le_succ _, by omega⟩
  have HS := Lib.hid (Slc.slice (h.below hb)).1
  have HL := Lib.hid hl
  obtain ⟨m, hm⟩ : ∃ m, ms.length = m := ⟨_, rfl⟩
  have HM := Lib.hid hm
  rw [hm] at HC0 HS HL ⊢
  have HG := Lib.hid (show ∃ g, w.heap.size = g from ⟨_, rfl⟩)
  have HG1 := Lib.hid (show ∃ g, w.heap.size + 1 = g from ⟨_, rfl⟩)
  have HWS : Hid (∃ W, ((w.alloc (.cells #[.int .i64 2, .int .i64 n, .slice A1 m c1, .slice A2 0 c2, .slice A3 0 c3] 37)).alloc (.cells #[.int .i64 0, .int .i64 0, .slice none 0 0, .slice none 0 0, .slice none 0 0] 37)) = W) := Lib.hid ⟨_, rfl⟩
  clear hb h hl hm hsz
  go_enter Tryz.func118, Tryz.ntmps118
  go_upto_region 1 with fail
  obtain ⟨b2, hb2⟩ := HG1.out
  obtain ⟨b1, hb1⟩ := HG.out
  obtain ⟨W1, hW1⟩ := HWS.out
  have HB1 := Lib.hid hb1
  have HC := HC0
  rw [hb2, hb1, hW1] at HC
  rw [hW1] at HS
  rw [hW1, hb2, hb1]
  clear HG HG1 HWS HC0 hb1 hb2 hW1
  have HCL := Lib.hid (clone_mtc A1 m c1 W1.heap.size ms W1 HS.out (Nat.le_refl _) (by have := HL.out; omega))
  obtain ⟨x0, x1, x2, x3, x4⟩ := blk_cells5 HC.out.bx
  obtain ⟨f0, f1, f2, f3, f4⟩ := blk_fr HC.out.bx
  go_wp2_with fail
  (with_reducible refine HCL.out.mono ?_); rintro e w2 ⟨E1, e1, rfl, hown, hb, hc1, hc2⟩
  have HO := Lib.hid hown
  have HLT := Lib.hid (show b1 < W1.heap.size ∧ b2 < W1.heap.size from ⟨HC.out.bx.lt, HC.out.bz.lt⟩)
  have HC_n := Lib.hid (HC.out.below hb); clear HC; have HC := HC_n; clear HC_n
  clear hown hb HCL HS x0 x1 x2 x3 x4 f0 f1 f2 f3 f4
  obtain ⟨x0, x1, x2, x3, x4⟩ := blk_cells5 HC.out.bx
  obtain ⟨f0, f1, f2, f3, f4⟩ := blk_fr HC.out.bx
  have HO2 := Lib.hid (own_far HO.out (p := ⟨b1, 2, none⟩) HLT.out.1 (.slice E1 m e1))
  have HC2 := Lib.hid (HC.out.set2 (.slice E1 m e1))
  go_upto_region 2 with fail
  obtain ⟨W3, hW3⟩ : ∃ W, w2.setCell ⟨b1, 2, none⟩ (.slice E1 m e1) = W := ⟨_, rfl⟩
  rw [hW3] at HO2 HC2 ⊢
  clear hW3 HO HC x0 x1 x2 x3 x4 f0 f1 f2 f3 f4
  have HCL := Lib.hid (clone_str A2 0 c2 W3.heap.size [] W3 ⟨by simp [strs], fun hp => absurd hp (by omega)⟩ (Nat.le_refl _) (by omega))
  obtain ⟨x0, x1, x2, x3, x4⟩ := blk_cells5 HC2.out.bx
  obtain ⟨f0, f1, f2, f3, f4⟩ := blk_fr HC2.out.bx
  go_wp2_with fail
  (with_reducible refine HCL.out.mono ?_); rintro e w4 ⟨E2, e2, rfl, hown, hb, hd1, hd2⟩
  have HO4 := Lib.hid (own_below HO2.out hb (Nat.le_refl _))
  have HC2_n := Lib.hid (HC2.out.below hb); clear HC2; have HC2 := HC2_n; clear HC2_n
  clear hown hb HCL HO2 x0 x1 x2 x3 x4 f0 f1 f2 f3 f4
  obtain ⟨x0, x1, x2, x3, x4⟩ := blk_cells5 HC2.out.bx
  obtain ⟨f0, f1, f2, f3, f4⟩ := blk_fr HC2.out.bx
  have HO5 := Lib.hid (own_far HO4.out (p := ⟨b1, 3, none⟩) HLT.out.1 (.slice E2 0 e2))
  have HC5 := Lib.hid (HC2.out.set3 (.slice E2 0 e2))
  go_upto_region 3 with fail
  obtain ⟨W5, hW5⟩ : ∃ W, w4.setCell ⟨b1, 3, none⟩ (.slice E2 0 e2) = W := ⟨_, rfl⟩
  rw [hW5] at HO5 HC5 ⊢
  clear hW5 HO4 HC2 x0 x1 x2 x3 x4 f0 f1 f2 f3 f4
  have HCL := Lib.hid (each_none A3 c3 W5)
  obtain ⟨x0, x1, x2, x3, x4⟩ := blk_cells5 HC5.out.bx
  obtain ⟨f0, f1, f2, f3, f4⟩ := blk_fr HC5.out.bx
  go_wp2_with fail
  (with_reducible refine HCL.out.mono ?_); rintro e w6 ⟨rfl, hb⟩
  obtain ⟨g3, hg3⟩ : ∃ g, W5.heap.size = g := ⟨_, rfl⟩
  have HO6 := Lib.hid (own_below HO5.out hb (Nat.le_refl _))
  have HC5_n := Lib.hid (HC5.out.below hb); clear HC5; have HC5 := HC5_n; clear HC5_n
  rw [hg3]
  clear hg3 hb HCL HO5 x0 x1 x2 x3 x4 f0 f1 f2 f3 f4
  obtain ⟨x0, x1, x2, x3, x4⟩ := blk_cells5 HC5.out.bx
  obtain ⟨f0, f1, f2, f3, f4⟩ := blk_fr HC5.out.bx
  have HO7 := Lib.hid (own_far HO6.out (p := ⟨b1, 4, none⟩) HLT.out.1 (.slice (some ⟨g3, 0, none⟩) 0 0))
  have HC7 := Lib.hid (HC5.out.set4 (.slice (some ⟨g3, 0, none⟩) 0 0))
  go_upto_region 4 with fail
  obtain ⟨W7, hW7⟩ : ∃ W, w6.setCell ⟨b1, 4, none⟩ (.slice (some ⟨g3, 0, none⟩) 0 0) = W := ⟨_, rfl⟩
  rw [hW7] at HO7 HC7 ⊢
  clear hW7 HO6 HC5 x0 x1 x2 x3 x4 f0 f1 f2 f3 f4
  obtain ⟨x0, x1, x2, x3, x4⟩ := blk_cells5 HC7.out.bx
  obtain ⟨y0, y1, y2, y3, y4⟩ := blk_cells5 HC7.out.bz
  obtain ⟨f0, f1, f2, f3, f4⟩ := blk_fr HC7.out.bz
  have HQ := Lib.hid (set5W_blk HC7.out.bz (.int .i64 2) (.int .i64 n) (.slice E1 m e1) (.slice E2 0 e2) (.slice (some ⟨g3, 0, none⟩) 0 0))
  have hg := set5W_grown W7 b2 (.int .i64 2) (.int .i64 n) (.slice E1 m e1) (.slice E2 0 e2) (.slice (some ⟨g3, 0, none⟩) 0 0)
  have HO8 := Lib.hid (own_grown HO7.out hg (fun g hg2 e => by injection e with e; have := (HO7.out.lt g hg2).1; have := HLT.out.2; omega))
  have HB8 := Lib.hid (HC7.out.bel.grown hg HC7.out.bel.size (fun g e => by injection e with e; have := HC7.out.l2; omega))
  have HBL := Lib.hid (show w.heap.size ≤ W1.heap.size from by have h1 := HC7.out.l1; have := HLT.out.1; omega)
  clear hg
  go_wp2_with fail
  obtain ⟨q0, q1, q2, q3, q4⟩ := blk_cells5 HQ.out
  unfold set5W at q0 q1 q2 q3 q4
  refine bodyPost_ret (v := .agg #[.int .i64 2, .int .i64 n, .slice E1 m e1, .slice E2 0 e2, .slice (some ⟨g3, 0, none⟩) 0 0]) (by simp [results, Tryz.results118, go_sem, q0, q1, q2, q3, q4]) rfl ?_
  refine ⟨.mk 2 n (.slice E1 m e1) ms (.slice E2 0 e2) [] (.slice (some ⟨g3, 0, none⟩) 0 0) [], rfl, rfl, ⟨rfl, rfl, rfl, ?_, ⟨_, _, rfl, hd2⟩, ⟨_, _, rfl, by omega⟩⟩, HB8.out⟩
  show World.ownsRow _ _ _ _ _ ms.length _
  rw [HM.out]
  exact own_mono HO8.out HBL.out
end Go.Proofs.YtlmakdclebbbkaaGreat
