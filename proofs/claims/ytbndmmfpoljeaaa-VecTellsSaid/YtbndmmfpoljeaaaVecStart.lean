/- A law's two vectors of numbers; vectors put behind one another. -/
import Derived.Test.YtbndmmfpoljeaaaVecCon
import Derived.Test.YtbndmmfpoljeaaaBase2
import Derived.Deep.DeepCutAuto
import Derived.BigFrame
namespace Go.Proofs.Ytbndmmfpoljeaaa
open Go.ChangeShapes Go.WideShapes Go.ChangeAt Go.RowKit
set_option linter.unusedVariables false
set_option linter.unusedSimpArgs false
set_option maxRecDepth 100000
/-- Two vectors' numbers in boxes. -/
structure TwoV (w0 : World) (a b : KVec) (b3 b4 : Nat) (W : World) : Prop where
  x3 : Blk W b3 37 [.slice a.A a.qs.length a.c, .slice a.A2 a.n2 a.c2]
  x4 : Blk W b4 37 [.slice b.A b.qs.length b.c, .slice b.A2 b.n2 b.c2]
  oka : a.ok w0.heap.size W
  okb : b.ok w0.heap.size W
  bel : Below w0.heap.size w0 W
theorem TwoV.below {w0 W W' : World} {a b : KVec} {b3 b4 : Nat} (h : TwoV w0 a b b3 b4 W) (hb : Below W.heap.size W W') : TwoV w0 a b b3 b4 W' :=
  ⟨h.x3.below hb h.x3.lt, h.x4.below hb h.x4.lt, h.oka.below (hb.mono h.bel.size), h.okb.below (hb.mono h.bel.size), h.bel.trans (hb.mono h.bel.size)⟩
theorem TwoV.start {w : World} {a b : KVec} (ha : a.ok w.heap.size w) (hb : b.ok w.heap.size w) : TwoV w a b w.heap.size (w.heap.size + 1) ((w.alloc (.cells #[.slice a.A a.qs.length a.c, .slice a.A2 a.n2 a.c2] 37)).alloc (.cells #[.slice b.A b.qs.length b.c, .slice b.A2 b.n2 b.c2] 37)) := by
  have hb2 : Below w.heap.size w ((w.alloc (.cells #[.slice a.A a.qs.length a.c, .slice a.A2 a.n2 a.c2] 37)).alloc (.cells #[.slice b.A b.qs.length b.c, .slice b.A2 b.n2 b.c2] 37)) := ((Below.refl _ _).alloc (Nat.le_refl _) _).alloc (by simp) _
  have hsz : (w.alloc (.cells #[.slice a.A a.qs.length a.c, .slice a.A2 a.n2 a.c2] 37)).heap.size = w.heap.size + 1 := by simp
  refine ⟨(Blk.mk (heap_alloc_new w _)).alloc _, ?_, ha.below hb2, hb.below hb2, hb2⟩
  have hh := (Blk.mk (heap_alloc_new (w.alloc (.cells #[.slice a.A a.qs.length a.c, .slice a.A2 a.n2 a.c2] 37)) (.cells #[.slice b.A b.qs.length b.c, .slice b.A2 b.n2 b.c2] 37)) : Blk _ (w.alloc (.cells #[.slice a.A a.qs.length a.c, .slice a.A2 a.n2 a.c2] 37)).heap.size 37 [.slice b.A b.qs.length b.c, .slice b.A2 b.n2 b.c2])
  rw [hsz] at hh; exact hh
/-- A vector of the call's own, in memory made since. -/
def VO (B : Nat) (ps : List Pt) (v : Value) (W : World) : Prop := ∃ A c rows, v = .slice A rows.length c ∧ ptsOf rows = ps ∧ PtsAt B (.slice A rows.length c) rows W
theorem VO.vat {B : Nat} {ps : List Pt} {v : Value} {W : World} (h : VO B ps v W) : VAt ps v W := by
  obtain ⟨A, c, rows, h1, h2, h3⟩ := h
  have hc : rows.length ≤ c ∧ c ≤ 9223372036854775807 := by
    obtain ⟨A', c', e, q1, q2⟩ := own_slice h3.own
    injection e with _ _ e; subst e; exact ⟨q1, q2⟩
  exact ⟨A, c, rows, h1, h2, h3.mono (Nat.zero_le _), hc.1, hc.2⟩
theorem vo_empty (W : World) : VO W.heap.size [] (.slice (some ⟨W.heap.size, 0, none⟩) 0 0) (W.alloc (.cells #[] 28)) :=
  ⟨_, 0, [], rfl, rfl, ⟨⟨by simp [pts], .inr ⟨W.heap.size, 0, #[], rfl, Nat.le_refl _, heap_alloc_new W _, Nat.le_refl _, by simp, by simp, by simp [pts]⟩⟩, fun x hx => absurd hx List.not_mem_nil⟩⟩
theorem app_vv {w : World} {ops : Array Oper} {rest : List Oper} {o : Oper} {a : Act} {Q : Exit → Act → World → Prop} (hgd : Region.wanted o (yielded ops a.tmps) = true) (s x : Operand)
    (ho : o.op = .call { callee := .builtin .append, args := #[s, x], argTypes := #[22, 22] })
    {B : Nat} {v u : Value} {ps qs : List Pt} (hv : a.eval s = v) (hown : VO B ps v w) (hx : a.eval x = u) (hu : VAt qs u w) (hl : ps.length + qs.length ≤ 1000) (hB : B ≤ w.heap.size)
    (h : ∀ v' w', VO B (ps ++ qs) v' w' → Below B w w' → wpList Try.prog ops Q rest (a.put o.dst v') w') : wpList Try.prog ops Q (o :: rest) a w := by
  obtain ⟨i0, hi, hz0, hz1, hz2⟩ := info_parts Try.infoPt
  obtain ⟨A, c, rows, rfl, rfl, h3⟩ := hown
  obtain ⟨A2, c2, r2, rfl, rfl, h4, _, _⟩ := hu
  rw [ptsOf_len, ptsOf_len] at hl
  refine BigFrame.wpList_want hgd fun K hK => ?_
  obtain ⟨v', w', hr, hown, hg⟩ := append_run (P := Try.prog) w B 22 o.type 28 i0 (.agg #[.slice none 0 0, .int .i64 0]) 2 32 Try.underlying22 hi hz0 hz1 hz2 rfl (by decide) (.slice A rows.length c) rows.length (pts rows) h3.own _ A2 r2.length c2 (pts r2) (Sees.of_own h4.own) (pts_oneC h4.each) (by unfold maxLen; omega) (by omega) hB
  unfold Oper.wp execOp
  simp only [ho, resolve, invoke, builtin, Sem.run_bind, Sem.run_pure, Result.andThen_ok, List.map_toArray, List.map_cons, List.map_nil, hv, hx, hr]
  refine hK _ _ ?_
  obtain ⟨A', c', rfl, _, _⟩ := own_slice hown
  have hlen : (rows ++ r2).length = rows.length + r2.length := by simp
  refine h _ _ ⟨A', c', rows ++ r2, by rw [hlen], ptsOf_app _ _, ?_⟩ ((Below.refl _ _).grown hg hB (fun g e => (h3.own.lt g e).1))
  rw [hlen]
  refine ⟨by rw [hlen, pts_append]; exact hown, fun y hy => ?_⟩
  rcases List.mem_append.1 hy with hy | hy
  · exact ownL_grown h3.own (by decide) hg _ _ (h3.each y hy)
  · exact ownL_grown h3.own (by decide) hg _ _ (h4.each y hy)
end Go.Proofs.Ytbndmmfpoljeaaa
