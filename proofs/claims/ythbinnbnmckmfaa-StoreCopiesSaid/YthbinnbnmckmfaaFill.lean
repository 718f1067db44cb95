/- klaxonkeep.Store.Fill, with the Put of a store. -/
import Derived.Test.YthbinnbnmckmfaaFillMath
import Derived.Test.YthbinnbnmckmfaaSMap
import Derived.Test.YthbinnbnmckmfaaBase
import Derived.Deep.CutBlock
namespace Go.Proofs.Ythbinnbnmckmfaa
open Go.ChangeShapes Go.WideShapes Go.ChangeAt Go.RowKit
set_option linter.unusedVariables false
set_option linter.unusedSimpArgs false
set_option maxRecDepth 100000
theorem SMap.same {w w' : World} {b n : Nat} {f : List UInt8 → Bool} (h : SMap w b n f) (hb : w'.heap[b]? = w.heap[b]?) : SMap w' b n f := by
  obtain ⟨D, ⟨es, clock, h1, F, hs, hD⟩, h2⟩ := h
  exact ⟨D, ⟨es, clock, hb.trans h1, F, hs, hD⟩, h2⟩
theorem SMap.kind {w : World} {b n : Nat} {f : List UInt8 → Bool} (h : SMap w b n f) : ∀ (cs : Array Value) (t : TypeId) (q : Nat × Nat), w.heap[b]? ≠ some (Obj.cells cs t q) := by
  obtain ⟨D, ⟨es, clock, h1, F, hs, hD⟩, h2⟩ := h
  intro cs t q e
  rw [h1] at e; cases e
theorem SMap.ne_own {w : World} {b n base : Nat} {f : List UInt8 → Bool} {e : TypeId} {s m : Nat} {u : Value} {xs : List Value} (h : SMap w b n f) (ho : w.ownsRow base e s u m xs) : u.ownBlock ≠ some b := fun hu => by
  obtain ⟨cs, q, e1⟩ := own_type ho hu
  exact h.kind _ _ _ e1
theorem SMap.ne_blk {w : World} {b n g : Nat} {f : List UInt8 → Bool} {t : TypeId} {cs : List Value} (h : SMap w b n f) (hk : Blk w g t cs) : g ≠ b := fun e => by
  subst e; exact h.kind _ _ _ hk.eq
theorem SMap.widen {w : World} {b n m : Nat} {f : List UInt8 → Bool} (h : SMap w b n f) (hm : n ≤ m) : SMap w b m f := by
  obtain ⟨D, ⟨es, clock, h1, F, hs, hD⟩, h2⟩ := h
  exact ⟨D, ⟨es, clock, h1, F, by omega, hD⟩, h2⟩
theorem TurnS.trans {g : Nat} {v v1 : Value} {W W1 W2 : World} (h : TurnS g v W W1) (hw : Where W v v1) (h2 : TurnS g v1 W1 W2) : TurnS g v W W2 :=
  ⟨h2.os.trans h.os, h2.tape.trans h.tape, h2.output.trans h.output, Nat.le_trans h.size h2.size, fun k hk hg hv => (h2.block k (Nat.lt_of_lt_of_le hk h.size) hg (fun e => by
    rcases hw with e2 | e2
    · exact hv (e.trans e2)
    · have := e2 k e.symm; omega)).trans (h.block k hk hg hv)⟩
theorem Where.trans2 {W W1 : World} {v v1 v2 : Value} (h : Where W v v1) (h2 : Where W1 v1 v2) (hs : W.heap.size ≤ W1.heap.size) : Where W v v2 := by
  rcases h2 with e | e
  · rcases h with e1 | e1
    · exact .inl (e.trans e1)
    · exact .inr fun k hk => e1 k (e ▸ hk)
  · exact .inr fun k hk => by have := e k hk; omega
structure FillAt (k : KStore) (w0 : World) (g : Nat) (v : Value) (W0 : World) (kb mb : Nat) (i : Nat) (M : List (List Lbl)) (D : List SK) (v' : Value) (W : World) : Prop where
  sto : Sto w0 g v' D W
  turn : TurnS g v W0 W
  wh : Where W0 v v'
  box : Blk W kb 45 [.slice k.A k.qs.length k.c, .slice k.A2 k.rs.length k.c2]
  met : SMap W mb i (metF M)
  args : k.ok w0.heap.size W
  mbs : W0.heap.size ≤ mb
  w0s : w0.heap.size ≤ W0.heap.size
section
variable {k : KStore} {w0 W0 W W' : World} {g kb mb i : Nat} {v v' v2 : Value} {M : List (List Lbl)} {D D2 : List SK}
theorem FillAt.below (h : FillAt k w0 g v W0 kb mb i M D v' W) (hb : Below W.heap.size W W') : FillAt k w0 g v W0 kb mb i M D v' W' :=
  ⟨h.sto.below hb, h.turn.trans h.wh (.of_below hb), h.wh, h.box.below hb h.box.lt, h.met.below hb, h.args.below (hb.mono h.sto.bel.size), h.mbs, h.w0s⟩
theorem FillAt.put (h : FillAt k w0 g v W0 kb mb i M D v' W) (hS : Sto w0 g v2 D2 W') (hT : TurnS g v' W W') (hw : Where W v' v2) : FillAt k w0 g v W0 kb mb i M D2 v2 W' := by
  refine ⟨hS, h.turn.trans h.wh hT, h.wh.trans2 hw h.turn.size, h.sto.blk hT h.box (by decide) (by decide), ?_, h.args.below (h.sto.turned hT), h.mbs, h.w0s⟩
  obtain ⟨L, _, hst⟩ := h.sto.ex
  exact h.met.same (hT.block mb h.met.lt (fun e => h.met.ne_blk hst.box e.symm) (fun e => h.met.ne_own hst.rows e.symm))
theorem Sto.mapped {n b : Nat} {f : List UInt8 → Bool} (h : Sto w0 g v D W) (hg : W.grownBy W' (some b)) (hm : SMap W b n f) (hb : w0.heap.size ≤ b) : Sto w0 g v D W' := by
  obtain ⟨L, hL, hS⟩ := h.ex
  have key : ∀ (base s m : Nat) (e : TypeId) (u : Value) (xs : List Value), W.ownsRow base e s u m xs → W'.ownsRow base e s u m xs := fun base s m e u xs ho => own_same ho fun k hk hl => hg.block k hl (fun e => by injection e with e; exact hm.ne_own ho (by rw [hk, e]))
  exact ⟨⟨L, hL, ⟨(hg.block g hS.box.lt (fun e => by injection e with e; exact hm.ne_blk hS.box e)).trans hS.box, key _ _ _ _ _ _ hS.rows, fun x hx => ⟨key _ _ _ _ _ _ (hS.each x hx).set_, key _ _ _ _ _ _ (hS.each x hx).smp_⟩⟩⟩, h.dok, h.bel.grown hg h.bel.size (fun q hq => by injection hq with hq; omega), h.gs, h.vs⟩
theorem FillAt.mapped {f : List (List Lbl)} (h : FillAt k w0 g v W0 kb mb i M D v' W) (hg : W.grownBy W' (some mb)) (hm : SMap W' mb (i + 1) (metF f)) : FillAt k w0 g v W0 kb mb (i + 1) f D v' W' := by
  have hmb := h.mbs; have hw0 := h.w0s
  have hS := h.sto.mapped hg h.met (by omega)
  refine ⟨hS, ⟨hg.os.trans h.turn.os, hg.tape.trans h.turn.tape, hg.output.trans h.turn.output, Nat.le_trans h.turn.size hg.size, fun q hq h1 h2 => (hg.block q (Nat.lt_of_lt_of_le hq h.turn.size) (fun e => by injection e with e; omega)).trans (h.turn.block q hq h1 h2)⟩, h.wh, (hg.block kb h.box.lt (fun e => by injection e with e; exact h.met.ne_blk h.box e)).trans h.box, hm, h.args.below ?_, h.mbs, h.w0s⟩
  exact ⟨hg.os, hg.tape, hg.output, hg.size, fun q hq => hg.block q (by have := h.sto.bel.size; omega) (fun e => by injection e with e; omega)⟩
end
end Go.Proofs.Ythbinnbnmckmfaa
