/- Facts that stay whatever becomes of a set of blocks. No program in it. -/
import Derived.Test.YtealflkblkfhbaaDoorKept
import Derived.Test.YtealflkblkfhbaaDoorGrown
namespace Go.Proofs.YtealflkblkfhbaaDoor
open Go.RowKit
set_option linter.unusedVariables false
/-- A fact that stays whatever becomes of the blocks of S. -/
def FarS (S : Nat → Prop) (P : World → Prop) (w : World) : Prop := ∀ w', w.heap.size ≤ w'.heap.size → (∀ b, b < w.heap.size → ¬ S b → w'.heap[b]? = w.heap[b]?) → P w'
theorem FarS.now {S : Nat → Prop} {P : World → Prop} {w : World} (h : FarS S P w) : P w := h w (Nat.le_refl _) (fun _ _ _ => rfl)
theorem FarS.next {S S' : Nat → Prop} {P : World → Prop} {w w' : World} (h : FarS S P w) (h1 : w.heap.size ≤ w'.heap.size) (h2 : ∀ b, b < w.heap.size → ¬ S b → w'.heap[b]? = w.heap[b]?) (h3 : ∀ b, b < w.heap.size → S' b → S b) : FarS S' P w' :=
  fun V hs hk => h V (Nat.le_trans h1 hs) fun b hb hn => (hk b (by omega) (fun hS => hn (h3 b hb hS))).trans (h2 b hb hn)
theorem FarS.below {S : Nat → Prop} {P : World → Prop} {w w' : World} (h : FarS S P w) (hb : Below w.heap.size w w') : FarS S P w' :=
  h.next hb.size (fun b hl _ => hb.block b hl) (fun _ _ hS => hS)
theorem FarS.mono {S S' : Nat → Prop} {P : World → Prop} {w : World} (h : FarS S P w) (h3 : ∀ b, b < w.heap.size → S' b → S b) : FarS S' P w :=
  h.next (Nat.le_refl _) (fun _ _ _ => rfl) h3
theorem FarS.grown {S : Nat → Prop} {P : World → Prop} {w w' : World} {row : Option Nat} (h : FarS S P w) (hg : w.grownBy w' row) (hr : ∀ b, row = some b → S b) : FarS S P w' :=
  h.next hg.size (fun b hl hn => hg.block b hl (fun e => hn (hr b e.symm))) (fun _ _ hS => hS)
theorem FarS.and {S : Nat → Prop} {P Q : World → Prop} {w : World} (h : FarS S P w) (k : FarS S Q w) : FarS S (fun W => P W ∧ Q W) w := fun V hs hk => ⟨h V hs hk, k V hs hk⟩
theorem FarS.const {S : Nat → Prop} {P : Prop} {w : World} (h : P) : FarS S (fun _ => P) w := fun _ _ _ => h
theorem slc_nil' (w : World) (size : Nat) : Slc w size (.slice none 0 0) 0 [] := ⟨none, 0, rfl, Sees.nil, Nat.le_refl _, by simp⟩
theorem FarS.nil {S : Nat → Prop} {w : World} (size : Nat) : FarS S (fun W => Slc W size (.slice none 0 0) 0 []) w := fun V _ _ => slc_nil' V size
theorem FarS.blk {S : Nat → Prop} {w : World} {g : Nat} {t : TypeId} {cs : List Value} (h : Blk w g t cs) (hg : ¬ S g) : FarS S (fun W => Blk W g t cs) w := fun V _ hk => (hk g h.lt hg).trans h.eq
/-- A row of one's own, whose block is none of S. -/
theorem FarS.own {S : Nat → Prop} {w : World} {base : Nat} {t : TypeId} {size n : Nat} {v : Value} {xs : List Value} (h : w.ownsRow base t size v n xs) (hg : ∀ g, v.ownBlock = some g → ¬ S g) : FarS S (fun W => Slc W size v n xs) w := fun V hs hk => by
  obtain ⟨A, c, rfl, h1, h2⟩ := own_slice h
  have hS := Sees.of_own h
  refine ⟨A, c, rfl, ⟨hS.len, fun hp => ?_⟩, h1, h2⟩
  obtain ⟨ad, e, hl, hc⟩ := hS.at_ hp
  refine ⟨ad, e, by omega, fun j u hj => ?_⟩
  have hcc := hc j u hj
  have hh := hk ad.block hl (hg ad.block (by subst e; rfl))
  unfold World.cell? at hcc ⊢
  rw [add_block] at hcc ⊢
  rw [hh]; exact hcc
theorem FarS.slc {S : Nat → Prop} {w : World} {g n size : Nat} {t : TypeId} {cs : List Value} (h : Blk w g t cs) (hg : ¬ S g) (hl : cs.length = n * size) (hn : n ≤ 9223372036854775807) : FarS S (fun W => Slc W size (.slice (some ⟨g, 0, none⟩) n n) n cs) w := fun V hs hk =>
  ⟨some ⟨g, 0, none⟩, n, rfl, (show Blk V g t cs from (hk g h.lt hg).trans h.eq).sees hl (List.prefix_refl _), Nat.le_refl _, hn⟩
end Go.Proofs.YtealflkblkfhbaaDoor
