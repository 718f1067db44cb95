/- Texts, merged in one. -/
import Derived.Below
import Derived.Laws.OwnMore
import Derived.Deep.AppendLies
import Derived.Deep.Draws
import Derived.Calls
import Derived.Test.YtcaapbbbekggiaaGreatDoorRows
import Derived.Shelf.Strings.Builder1
import Derived.Lib.FrozenHead2
import Derived.Lib.OthersKept
import Derived.WalkKit
import Derived.ProofKit
import Derived.RegionTactic
import Derived.Lib.Hide
import Derived.RowKit
import Derived.IntWalk
import Derived.Deep.LoopGhost
import Derived.Laws.AppendOwnNone
import Derived.OwnWalk
import Derived.Deep.RegionLaw
import Derived.Test.YtcaapbbbekggiaaGreatDoorShelf
import Derived.Laws.IdiomStrings
import Derived.Laws.BytesArg
import Derived.Deep.CutBlock
import Derived.Deep.DeepCutAuto
import Derived.Orders
import Derived.StillTail
import Derived.Deep.Slices
import Derived.ChangeArms
import Derived.Lib.SmallJoins
import Derived.ShutString
namespace Go.Proofs.YtcaapbbbekggiaaGreatDoor
open Go.RowKit
set_option linter.unusedVariables false
theorem add_block (a : Addr) (n : Nat) : (a.add n).block = a.block := by unfold Addr.add; split <;> rfl
theorem add_add (a : Addr) (i j : Nat) : (a.add i).add j = a.add (i + j) := by
  unfold Addr.add
  by_cases hi : i = 0 <;> by_cases hj : j = 0 <;> simp [hi, hj, Nat.add_assoc]
theorem add_zero' (a : Addr) : a.add 0 = a := by unfold Addr.add; simp

/-- A field's address, as the walk spells it. -/
theorem add_spelt (a : Addr) (i j : Nat) (hj : 0 < j) : (⟨(a.add i).block, (a.add i).off + j, none⟩ : Addr) = a.add (i + j) := by
  unfold Addr.add
  by_cases hi : i = 0
  · subst hi; rw [if_pos rfl, if_neg (by omega)]; simp
  · rw [if_neg hi, if_neg (by omega)]; simp [Nat.add_assoc]
/-- The n elements behind A, of 'size' cells each, read as the cells xs; they lie below block B. -/
structure Sees (w : World) (B size : Nat) (A : Option Addr) (n : Nat) (xs : List Value) : Prop where
  len : xs.length = n * size
  at_ : 0 < n → ∃ ad, A = some ad ∧ ad.block < B ∧ ∀ j u, xs[j]? = some u → w.cell? (ad.add j) = some u

section
variable {w w' : World} {B B' size n : Nat} {A : Option Addr} {xs : List Value}
theorem Sees.nil : Sees w B size A 0 [] := ⟨by simp, fun h => absurd h (by omega)⟩
theorem Sees.one {k : Nat} (h : Sees w B 1 A n xs) (hk : k < n) : ∃ ad u, A = some ad ∧ xs[k]? = some u ∧ w.cell? (ad.add k) = some u := by
  obtain ⟨ad, e, hb, hc⟩ := h.at_ (by omega)
  have hl : k < xs.length := by have := h.len; omega
  exact ⟨ad, xs[k], e, List.getElem?_eq_getElem hl, hc k _ (List.getElem?_eq_getElem hl)⟩
theorem Sees.keep (h : Sees w B size A n xs) (hk : ∀ p : Addr, p.block < B → w'.cell? p = w.cell? p) : Sees w' B size A n xs :=
  ⟨h.len, fun hn => by
    obtain ⟨ad, e, hb, hc⟩ := h.at_ hn
    exact ⟨ad, e, hb, fun j u hu => (hk _ (by rw [add_block]; exact hb)).trans (hc j u hu)⟩⟩
theorem Sees.more (h : Sees w B size A n xs) (hB : B ≤ B') : Sees w B' size A n xs :=
  ⟨h.len, fun hn => by
    obtain ⟨ad, e, hb, hc⟩ := h.at_ hn
    exact ⟨ad, e, by omega, hc⟩⟩
theorem Sees.below (h : Sees w B size A n xs) (hb : Below B w w') : Sees w' B size A n xs := h.keep fun _ hp => hb.cell hp
theorem Sees.drewN (h : Sees w B size A n xs) (k : Nat) : Sees (w.drewN k) B size A n xs := ⟨h.len, h.at_⟩
theorem Sees.alloc (h : Sees w B size A n xs) (hB : B ≤ w.heap.size) (o : Obj) : Sees (w.alloc o) B size A n xs := h.keep fun p hp => World.cell?_alloc_lt w o p (by omega)
theorem Sees.setCell (h : Sees w B size A n xs) {p : Addr} (hB : B ≤ p.block) (u : Value) : Sees (w.setCell p u) B size A n xs :=
  h.keep fun q hq => World.cell?_setCell_other w p q u (fun e => by subst e; omega)
theorem Sees.grown (h : Sees w B size A n xs) {row : Option Nat} (hg : w.grownBy w' row) (hB : B ≤ w.heap.size) (hr : ∀ g, row = some g → B ≤ g) : Sees w' B size A n xs :=
  h.keep fun p hp => World.cell?_of_block (hg.block p.block (by omega) (fun e => by have := hr _ e.symm; omega))
theorem Sees.take (h : Sees w B size A n xs) {k : Nat} (hk : k ≤ n) : Sees w B size A k (xs.take (k * size)) := by
  refine ⟨by rw [List.length_take, h.len]; exact Nat.min_eq_left (Nat.mul_le_mul_right _ hk), fun h0 => ?_⟩
  obtain ⟨ad, e, hb, hc⟩ := h.at_ (by omega)
  refine ⟨ad, e, hb, fun j u hu => hc j u ?_⟩
  rw [List.getElem?_take] at hu
  split at hu
  · exact hu
  · cases hu
/-- A cut from k on, its address as the model spells it. -/
theorem Sees.drop (h : Sees w B size A n xs) {k cap : Nat} (hk : k ≤ n) (hc : n ≤ cap) :
    Sees w B size (if cap = k then A else A.map (·.add (k * size))) (n - k) (xs.drop (k * size)) := by
  refine ⟨by rw [List.length_drop, h.len, Nat.sub_mul], fun hn => ?_⟩
  obtain ⟨ad, rfl, hb, hcell⟩ := h.at_ (by omega)
  rw [if_neg (by omega)]
  refine ⟨ad.add (k * size), rfl, by rw [add_block]; exact hb, fun j u hu => ?_⟩
  rw [add_add]
  exact hcell _ u (by rw [← hu, List.getElem?_drop])
theorem Sees.of_own {base : Nat} {e : TypeId} {c : Nat} (h : w.ownsRow base e size (.slice A n c) n xs) : Sees w w.heap.size size A n xs := by
  refine ⟨h.1, fun hn => ?_⟩
  obtain ⟨g, cap, hv, _, hlt⟩ := h.form hn
  have hA : A = some ⟨g, 0, none⟩ := by injection hv
  subst hA
  exact ⟨_, rfl, hlt, h.cells (g := g) rfl⟩
end

/-- Block g is just the cells cs, of element type t; none is frozen. -/
def Blk (w : World) (g : Nat) (t : TypeId) (cs : List Value) : Prop := w.heap[g]? = some (.cells cs.toArray t (0, 0))
section
variable {w w' : World} {g : Nat} {t : TypeId} {cs : List Value}
theorem Blk.eq (h : Blk w g t cs) : w.heap[g]? = some (.cells cs.toArray t (0, 0)) := h
theorem Blk.mk (h : w.heap[g]? = some (.cells cs.toArray t (0, 0))) : Blk w g t cs := h
theorem Blk.lt (h : Blk w g t cs) : g < w.heap.size := by
  unfold Blk at h
  exact (Array.getElem?_eq_some_iff.1 h).1
theorem Blk.cell (h : Blk w g t cs) (i : Nat) : w.cell? ⟨g, i, none⟩ = cs[i]? := by
  have := cell_of_row w g i cs.toArray t (0, 0) h
  simpa using this
theorem Blk.frozen (h : Blk w g t cs) (i : Nat) : w.frozen? ⟨g, i, none⟩ = false := by
  unfold Blk at h
  simp [World.frozen?, h]
theorem Blk.drewN (h : Blk w g t cs) (n : Nat) : Blk (w.drewN n) g t cs := h
theorem Blk.alloc (h : Blk w g t cs) (o : Obj) : Blk (w.alloc o) g t cs := (Below.heap_alloc w o g h.lt).trans h
theorem Blk.set (h : Blk w g t cs) (i : Nat) (u : Value) : Blk (w.setCell ⟨g, i, none⟩ u) g t (cs.set i u) := by
  unfold Blk at h ⊢
  simp [World.setCell, Array.getElem?_modify, h]
theorem Blk.far (h : Blk w g t cs) {p : Addr} (hp : g ≠ p.block) (u : Value) : Blk (w.setCell p u) g t cs := (Below.heap_setCell w p u g hp).trans h
theorem Blk.below {B : Nat} (h : Blk w g t cs) (hb : Below B w w') (hg : g < B) : Blk w' g t cs := (hb.block g hg).trans h
theorem Blk.grown {row : Option Nat} (h : Blk w g t cs) (hb : w.grownBy w' row) (hg : some g ≠ row) : Blk w' g t cs := (hb.block g h.lt hg).trans h
theorem Blk.sees (h : Blk w g t cs) {size n : Nat} {xs : List Value} (hl : xs.length = n * size) (hx : xs <+: cs) : Sees w w.heap.size size (some ⟨g, 0, none⟩) n xs := by
  refine ⟨hl, fun hn => ⟨_, rfl, h.lt, fun j u hu => ?_⟩⟩
  have e : (⟨g, 0, none⟩ : Addr).add j = ⟨g, j, none⟩ := by unfold Addr.add; split <;> simp_all
  obtain ⟨ys, rfl⟩ := hx
  rw [e, h.cell j, List.getElem?_append_left (List.getElem?_eq_some_iff.1 hu).1, hu]
/-- A row of the call's own that is full is its block. -/
theorem Blk.of_own {base : Nat} {size n : Nat} {xs : List Value} (h : w.ownsRow base t size (.slice (some ⟨g, 0, none⟩) n n) n xs) : Blk w g t xs := by
  rcases h.2 with ⟨h1, _⟩ | ⟨g', cap, cur, hv, _, hb, _, _, hs, ht⟩
  · cases h1
  · injection hv with h1 h2 h3
    injection h1 with h1; injection h1 with h1; subst h1; subst h3
    have : cur.toList = xs := by rw [← ht, List.take_of_length_le (by simp [hs])]
    subst this
    unfold Blk; simpa using hb
theorem Blk.owns (h : Blk w g t cs) {base size n cap : Nat} (hb : base ≤ g) (hn : n ≤ cap) (hc : cap ≤ maxLen) (hl : cs.length = cap * size) : w.ownsRow base t size (.slice (some ⟨g, 0, none⟩) n cap) n (cs.take (n * size)) :=
  ⟨by rw [List.length_take, hl]; exact Nat.min_eq_left (Nat.mul_le_mul_right _ hn), .inr ⟨g, cap, cs.toArray, rfl, hb, h, hn, hc, by simpa using hl, rfl⟩⟩
end

/-- Ints of 64 bits as cells. -/
def ints (l : List Int) : List Value := l.map (Value.int .i64)
theorem ints_length (l : List Int) : (ints l).length = l.length := by simp [ints]
theorem ints_get (l : List Int) (k : Nat) (h : k < l.length) : (ints l)[k]? = some (.int .i64 l[k]) := by simp [ints, h]
theorem ints_take (l : List Int) (k : Nat) : (ints l).take k = ints (l.take k) := by simp [ints, List.map_take]
theorem ints_drop (l : List Int) (k : Nat) : (ints l).drop k = ints (l.drop k) := by simp [ints, List.map_drop]
theorem ints_append (l m : List Int) : ints (l ++ m) = ints l ++ ints m := by simp [ints]
/-- An int of a slice of ints: its cell, by its place. -/
theorem Sees.int {w : World} {B : Nat} {A : Option Addr} {n : Nat} {l : List Int} (h : Sees w B 1 A n (ints l)) {k : Nat} (hk : k < n) :
    ∃ ad, ∃ hl : k < l.length, A = some ad ∧ w.cell? (ad.add k) = some (.int .i64 l[k]) := by
  have hl : k < l.length := by have := h.len; rw [ints_length] at this; omega
  obtain ⟨ad, u, e, hx, hc⟩ := h.one hk
  rw [ints_get l k hl] at hx
  injection hx with hx; subst hx
  exact ⟨ad, hl, e, hc⟩
theorem Sees.int_len {w : World} {B : Nat} {A : Option Addr} {n : Nat} {l : List Int} (h : Sees w B 1 A n (ints l)) : l.length = n := by
  have := h.len; rw [ints_length] at this; omega
/-- Bools as cells. -/
def bools (l : List Bool) : List Value := l.map Value.bool
theorem bools_length (l : List Bool) : (bools l).length = l.length := by simp [bools]
theorem bools_get (l : List Bool) (k : Nat) (h : k < l.length) : (bools l)[k]? = some (.bool l[k]) := by simp [bools, h]
theorem bools_take (l : List Bool) (k : Nat) : (bools l).take k = bools (l.take k) := by simp [bools, List.map_take]
theorem bools_one (l : List Bool) : ∀ u ∈ bools l, u.oneCell' = true := by
  intro u hu; simp only [bools, List.mem_map] at hu; obtain ⟨b, _, rfl⟩ := hu; rfl
theorem Sees.bool {w : World} {B : Nat} {A : Option Addr} {n : Nat} {l : List Bool} (h : Sees w B 1 A n (bools l)) {k : Nat} (hk : k < n) :
    ∃ ad, ∃ hl : k < l.length, A = some ad ∧ w.cell? (ad.add k) = some (.bool l[k]) := by
  have hl : k < l.length := by have := h.len; rw [bools_length] at this; omega
  obtain ⟨ad, u, e, hx, hc⟩ := h.one hk
  rw [bools_get l k hl] at hx
  injection hx with hx; subst hx
  exact ⟨ad, hl, e, hc⟩
theorem Sees.bool_len {w : World} {B : Nat} {A : Option Addr} {n : Nat} {l : List Bool} (h : Sees w B 1 A n (bools l)) : l.length = n := by
  have := h.len; rw [bools_length] at this; omega
theorem ints_one (l : List Int) : ∀ u ∈ ints l, u.oneCell' = true := by
  intro u hu; simp only [ints, List.mem_map] at hu; obtain ⟨b, _, rfl⟩ := hu; rfl
theorem own_mono {w : World} {base base' : Nat} {e : TypeId} {size n : Nat} {v : Value} {xs : List Value} (h : w.ownsRow base e size v n xs) (hb : base' ≤ base) : w.ownsRow base' e size v n xs := by
  refine ⟨h.1, ?_⟩
  rcases h.2 with h2 | ⟨g, cap, cur, hv, hg, rest⟩
  · exact .inl h2
  · exact .inr ⟨g, cap, cur, hv, Nat.le_trans hb hg, rest⟩
theorem own_below {w w' : World} {B base : Nat} {e : TypeId} {size n : Nat} {v : Value} {xs : List Value} (h : w.ownsRow base e size v n xs) (hb : Below B w w') (hB : w.heap.size ≤ B) : w'.ownsRow base e size v n xs := by
  refine ⟨h.1, ?_⟩
  rcases h.2 with h2 | ⟨g, cap, cur, hv, hg, hh, rest⟩
  · exact .inl h2
  · refine .inr ⟨g, cap, cur, hv, hg, ?_, rest⟩
    have : g < w.heap.size := (Array.getElem?_eq_some_iff.1 hh).1
    rw [hb.block g (by omega)]; exact hh
theorem own_far {w : World} {base : Nat} {e : TypeId} {size n : Nat} {v : Value} {xs : List Value} (h : w.ownsRow base e size v n xs) {p : Addr} (hp : p.block < base) (u : Value) : (w.setCell p u).ownsRow base e size v n xs :=
  ownsRow_setCell_below h hp u
/-- The value of an own row is a slice. -/
theorem own_slice {w : World} {base : Nat} {e : TypeId} {size n : Nat} {v : Value} {xs : List Value} (h : w.ownsRow base e size v n xs) : ∃ A c, v = .slice A n c ∧ n ≤ c ∧ c ≤ 9223372036854775807 := by
  rcases h.2 with ⟨rfl, rfl⟩ | ⟨g, cap, cur, rfl, _, _, hc, hm, _⟩
  · exact ⟨none, 0, rfl, Nat.le_refl _, by omega⟩
  · exact ⟨_, _, rfl, hc, by unfold maxLen at hm; omega⟩
/-- An argument that is a slice of ints, as the row's step hands it over. -/
theorem sees_of_row {w : World} {a : Option Addr} {n cap : Nat} {zs : List Int}
    (h : (a = none ∧ n = 0 ∧ cap = 0 ∧ zs = []) ∨ ∃ x, a = some x ∧ n ≤ cap ∧ cap ≤ maxLen ∧ zs.length = cap ∧ (∀ i, i < zs.length → w.cell? (x.add i) = some (.int .i64 (zs.getD i 0))) ∧ ∀ z ∈ zs, (Lit.int .i64 z).wf = true) :
    Sees w w.heap.size 1 a n (ints (zs.take n)) ∧ n ≤ cap ∧ cap ≤ 9223372036854775807 ∧ (zs.take n).length = n ∧ ∀ z ∈ zs, (Lit.int .i64 z).wf = true := by
  rcases h with ⟨rfl, rfl, rfl, rfl⟩ | ⟨x, rfl, h1, h2, h3, h4, h5⟩
  · exact ⟨by simpa [ints] using Sees.nil, Nat.le_refl _, by omega, rfl, fun z hz => by cases hz⟩
  · have hl : (zs.take n).length = n := by rw [List.length_take]; omega
    refine ⟨⟨by rw [ints_length, hl]; omega, fun hn => ⟨x, rfl, ?_, fun j u hu => ?_⟩⟩, h1, by unfold maxLen at h2; exact h2, hl, h5⟩
    · have := World.block_lt_of_cell? w (x.add 0) (h4 0 (by omega))
      rwa [add_block] at this
    · have hj : j < n := by
        have := (List.getElem?_eq_some_iff.1 hu).1
        rw [ints_length, hl] at this; exact this
      rw [ints_get _ j (by omega)] at hu
      injection hu with hu
      rw [h4 j (by omega), ← hu, List.getElem_take, List.getD_eq_getElem?_getD, List.getElem?_eq_getElem (by omega)]; rfl
/-- A contract that leaves the world alone, as a quiet walk asks it: whatever was drawn ahead of it. -/
theorem calls_quiet {P : Program} {f : FuncId} {args : Array Value} {w : World} {n : Nat} {v : Value}
    (h : Calls P f args (w.drewN n) fun e w' => e = .returned v ∧ w.drewN n = w') : Calls P f args (w.drewN n) fun e w'' => e = .returned v ∧ ∃ m, w'' = w.drewN m :=
  h.mono fun _ _ hh => ⟨hh.1, n, hh.2.symm⟩
/-- The same where draws have been joined. -/
theorem calls_quiet2 {P : Program} {f : FuncId} {args : Array Value} {w : World} {a n : Nat} {v : Value}
    (h : Calls P f args (w.drewN (a + n)) fun e w' => e = .returned v ∧ w.drewN (a + n) = w') : Calls P f args (w.drewN (a + n)) fun e w'' => e = .returned v ∧ ∃ m, w'' = w.drewN (a + m) :=
  h.mono fun _ _ hh => ⟨hh.1, n, hh.2.symm⟩
end Go.Proofs.YtcaapbbbekggiaaGreatDoor

namespace Go.Proofs.YtcaapbbbekggiaaGreatDoor
open Go.ChangeShapes Go.WideShapes Go.ChangeAt Go.RowKit Go.Shelf
set_option linter.unusedVariables false
set_option maxRecDepth 1000000
/-- A builder in block b, its bytes l; all it owns lies from B on. -/
def Bld (w : World) (B b : Nat) (l : List Value) : Prop := Lib.IsBuilderF 52 5 B b l w
/-- One that has been written to. -/
def BldAt (w : World) (B b : Nat) (l : List Value) : Prop := Lib.BuilderAtF 52 5 B b (.pointer (some ⟨b, 0, none⟩)) l w
theorem BldAt.is {w : World} {B b : Nat} {l : List Value} (h : BldAt w B b l) : Bld w B b l := .inr h
/-- What a call on a builder leaves of all else. -/
def BldKept (B b : Nat) (w w' : World) : Prop := Below B w w' ∧ Lib.OthersKept 5 (some b) w w'
theorem bld_size : (Tryz.prog.info? 52).map (·.size) = some 2 := by kernel_rfl
theorem bld_lies : liesAt Tryz.prog Tryz.prog.depth 52 (2 / Tryz.prog.cellsOf 52) 0 52 1 = true := by kernel_rfl
theorem Tryz.infoU8x : (Tryz.prog.info? 5).map (fun i => (i.zero, i.size, i.bytes)) = some (some (.int .u8 0), 1, 1) := by kernel_rfl
theorem bCheck_used (b : Nat) (w : World) (h0 : w.cell? ⟨b, 0, none⟩ = some (.pointer (some ⟨b, 0, none⟩))) :
    Calls Tryz.prog 61 #[.pointer (some ⟨b, 0, none⟩)] w fun e w' => e = .returned (.tuple #[]) ∧ w' = w := by
  obtain ⟨j, hj, hjs⟩ := Option.map_eq_some_iff.1 bld_size
  go_enter Tryz.func61, Tryz.ntmps61
  go_wp2
  rw [Lib.run_neq_ptr_same w _ Tryz.underlying49 hj]
  go_wp2
  go_end0
  exact ⟨rfl, rfl⟩
theorem bCheck_fresh (b : Nat) (w : World) (h0 : w.cell? ⟨b, 0, none⟩ = some (.pointer none)) (hsh : w.shape? b = some (52, 2)) (hfz : w.frozen? ⟨b, 0, none⟩ = false) :
    Calls Tryz.prog 61 #[.pointer (some ⟨b, 0, none⟩)] w fun e w' => e = .returned (.tuple #[]) ∧ w' = w.setCell ⟨b, 0, none⟩ (.pointer (some ⟨b, 0, none⟩)) := by
  obtain ⟨j, hj, hjs⟩ := Option.map_eq_some_iff.1 bld_size
  go_enter Tryz.func61, Tryz.ntmps61
  go_wp2
  rw [Lib.run_to_unsafe w ⟨b, 0, none⟩ Tryz.underlying49 Tryz.underlying107 hj (by rw [hjs]; decide) hsh (Nat.zero_lt_succ 1)]
  simp only [Result.andThen]
  rw [Oper.upon_value]
  go_wp2
  rw [run_callFunc_extern Tryz.func70 (by kernel_rfl) (by kernel_rfl) (by kernel_rfl) (e := Extern.AbiNoEscape.same) (by kernel_rfl)]
  rw [Lib.run_noEscape]
  simp only [Result.andThen]
  rw [Oper.upon_value]
  go_wp2
  rw [Lib.run_from_unsafe w ⟨b, 0, none⟩ Tryz.underlying107 Tryz.underlying49 hj hsh bld_lies]
  simp only [Result.andThen]
  rw [Oper.upon_value]
  go_wp2
  go_end0
  exact ⟨rfl, rfl⟩
theorem bCheck (B b : Nat) (l : List Value) (w : World) (h : Bld w B b l) :
    Calls Tryz.prog 61 #[.pointer (some ⟨b, 0, none⟩)] w fun e w' => e = .returned (.tuple #[]) ∧ BldAt w' B b l ∧ BldKept B b w w' := by
  rcases h with h | h
  · refine (bCheck_fresh b w h.cell0 h.shape h.frozen0).mono ?_
    rintro e w' ⟨rfl, rfl⟩
    exact ⟨rfl, h.used _, (Below.refl B w).setCell (p := ⟨b, 0, none⟩) h.1 _, (Lib.OthersKept.refl _ _ w).setCell ⟨b, 0, none⟩ rfl _⟩
  · refine (bCheck_used b w h.cell0).mono ?_
    rintro e w' ⟨rfl, rfl⟩
    exact ⟨rfl, h, Below.refl B _, Lib.OthersKept.refl _ _ _⟩
set_option maxHeartbeats 2000000 in
theorem bByte (B b : Nat) (l : List Value) (c : Int) (w : World) (h : Bld w B b l) (hlen : l.length + 1 ≤ 140737488355328) (hBw : B ≤ w.heap.size) :
    Calls Tryz.prog 50 #[.pointer (some ⟨b, 0, none⟩), .int .u8 c] w fun e w' => e = .returned .nilIface ∧ BldAt w' B b (l ++ [.int .u8 c]) ∧ BldKept B b w w' := by
  obtain ⟨i0, hi, hz0, hz1, hz2⟩ := info_parts Tryz.infoU8x
  go_enter Tryz.func50, Tryz.ntmps50
  go_wp2_with fail
  refine (bCheck B b l _ h).mono ?_
  rintro e w1 ⟨rfl, h1, hb1, hk1⟩
  obtain ⟨hB, v, hbk, hown, hne⟩ := h1
  have c0 : w1.cell? ⟨b, 0, none⟩ = some (.pointer (some ⟨b, 0, none⟩)) := by rw [Lib.cell_of_heap hbk]; rfl
  have c1 : w1.cell? ⟨b, 1, none⟩ = some v := by rw [Lib.cell_of_heap hbk]; rfl
  go_wp2_with (at_builtin; refine wpList_append_ownF _ rfl _ _ 50 rfl B 5 i0 (.int .u8 0) 1 1 Tryz.underlying50 hi hz0 hz1 hz2 rfl (by decide) _ _ _ rfl (hown.alloc _) ⟨w1.heap.size, 0, none⟩ 1 1 [.int .u8 c] rfl rfl ?c1 ?c2 ?c3 ?c4 ?c5 ?_)
  case c1 =>
    intro j u hj
    match j, hj with
    | 0, hj => simp at hj; subst hj; simp [Addr.add]
  case c2 => intro u hu; simp at hu; subst hu; rfl
  case c3 => unfold maxLen; omega
  case c4 => omega
  case c5 => have := hb1.size; simp; omega
  intro v' w2 hown' hgrow _
  have hlt : b < w1.heap.size := by
    rcases Nat.lt_or_ge b w1.heap.size with h' | h'
    · exact h'
    · simp [Array.getElem?_eq_none h'] at hbk
  have hb2 : w2.heap[b]? = some (.cells #[.pointer (some ⟨b, 0, none⟩), v] 52 (0, 0)) := by
    rw [hgrow.block b (by simp; omega) (fun e => hne e.symm), Lib.alloc_old w1 _ b hlt]
    exact hbk
  have d0 : w2.cell? ⟨b, 0, none⟩ = some (.pointer (some ⟨b, 0, none⟩)) := by rw [Lib.cell_of_heap hb2]; rfl
  have d1 : w2.cell? ⟨b, 1, none⟩ = some v := by rw [Lib.cell_of_heap hb2]; rfl
  have f1 : w2.frozen? ⟨b, 1, none⟩ = false := Lib.frozen_of_heap hb2 1
  obtain ⟨g, cap, rfl⟩ : ∃ g cap, v' = .slice (some ⟨g, 0, none⟩) (l.length + 1) cap := by
    rcases hown'.2 with ⟨_, h0⟩ | ⟨g, cap, cur, fz, hv, _⟩
    · omega
    · exact ⟨g, cap, hv⟩
  go_wp2
  go_ret
  refine ⟨rfl, ?_, ?_, ((hk1.alloc _).grown hgrow (Lib.ownsRowF_kind (hown.alloc _))).setCell ⟨b, 1, none⟩ rfl _⟩
  · exact Lib.BuilderAtF.put (T := 52) (e := 5) hB hb2 (bs' := l ++ [.int .u8 c]) (by simpa using hown') (by decide)
  · exact ((hb1.alloc (by have := hb1.size; omega) _).grown hgrow (by have := hb1.size; simp; omega) (fun k hk => (hown.lt k hk).1)).setCell (p := ⟨b, 1, none⟩) hB _
set_option maxHeartbeats 2000000 in
theorem bString (B b : Nat) (l : List Value) (s : ByteArray) (w : World) (h : Bld w B b l) (hlen : l.length + s.size ≤ 140737488355328) (hBw : B ≤ w.heap.size) :
    Calls Tryz.prog 46 #[.pointer (some ⟨b, 0, none⟩), .string s] w fun e w' => e = .returned (.tuple #[.int .i64 s.size, .nilIface]) ∧ BldAt w' B b (l ++ Lib.strCells s) ∧ BldKept B b w w' := by
  obtain ⟨i0, hi, hz0, hz1, hz2⟩ := info_parts Tryz.infoU8x
  go_enter Tryz.func46, Tryz.ntmps46
  go_wp2_with fail
  refine (bCheck B b l _ h).mono ?_
  rintro e w1 ⟨rfl, h1, hb1, hk1⟩
  obtain ⟨hB, v, hbk, hown, hne⟩ := h1
  have c0 : w1.cell? ⟨b, 0, none⟩ = some (.pointer (some ⟨b, 0, none⟩)) := by rw [Lib.cell_of_heap hbk]; rfl
  have c1 : w1.cell? ⟨b, 1, none⟩ = some v := by rw [Lib.cell_of_heap hbk]; rfl
  go_wp2_with (at_builtin; refine Lib.wpList_append_own_stringF _ rfl _ _ 50 9 rfl B 5 i0 Tryz.underlying50 Tryz.underlying9 hi hz0 hz1 hz2 _ _ _ rfl hown s rfl ?c3 ?c4 ?c5 ?_)
  case c3 => unfold maxLen; omega
  case c4 => omega
  case c5 => have := hb1.size; omega
  intro v' w2 hown' hgrow _
  have hlt : b < w1.heap.size := by
    rcases Nat.lt_or_ge b w1.heap.size with h' | h'
    · exact h'
    · simp [Array.getElem?_eq_none h'] at hbk
  have hb2 : w2.heap[b]? = some (.cells #[.pointer (some ⟨b, 0, none⟩), v] 52 (0, 0)) := by
    rw [hgrow.block b hlt (fun e => hne e.symm)]
    exact hbk
  have d0 : w2.cell? ⟨b, 0, none⟩ = some (.pointer (some ⟨b, 0, none⟩)) := by rw [Lib.cell_of_heap hb2]; rfl
  have d1 : w2.cell? ⟨b, 1, none⟩ = some v := by rw [Lib.cell_of_heap hb2]; rfl
  have f1 : w2.frozen? ⟨b, 1, none⟩ = false := Lib.frozen_of_heap hb2 1
  obtain ⟨ao, n', cap, rfl⟩ : ∃ ao n' cap, v' = .slice ao n' cap := by
    rcases hown'.2 with ⟨hv, _⟩ | ⟨g, cap, cur, fz, hv, _⟩
    · exact ⟨_, _, _, hv⟩
    · exact ⟨_, _, _, hv⟩
  go_wp2
  go_ret2
  refine ⟨rfl, ?_, ?_, (hk1.grown hgrow (Lib.ownsRowF_kind hown)).setCell ⟨b, 1, none⟩ rfl _⟩
  · exact Lib.BuilderAtF.put (T := 52) (e := 5) hB hb2 (bs' := l ++ Lib.strCells s) (by simpa [Lib.strCells_length] using hown') (by decide)
  · exact (hb1.grown hgrow (by have := hb1.size; omega) (fun k hk => (hown.lt k hk).1)).setCell (p := ⟨b, 1, none⟩) hB _
set_option maxHeartbeats 2000000 in
theorem bgrow_fresh (B b n : Nat) (w : World) (hB : B ≤ b) (hbk : w.heap[b]? = some (.cells #[.pointer (some ⟨b, 0, none⟩), .slice none 0 0] 52 (0, 0))) (hBw : B ≤ w.heap.size) (hn : n ≤ 281474976710656) :
    Calls Tryz.prog 73 #[.pointer (some ⟨b, 0, none⟩), .int .i64 n] w fun e w' => e = .returned (.tuple #[]) ∧ (Lib.BuilderAt 52 5 B b (.pointer (some ⟨b, 0, none⟩)) [] w' ∧ Below B w w') := by
  obtain ⟨cs, hrun, hle, hmax⟩ := Lib.run_makeNoZero (P := Tryz.prog) w.drew #[3] 50 5 Tryz.underlying50 n hn
  have hw : IntKind.i64.wrap (IntKind.i64.wrap 0 + (n : Int)) = n := by
    rw [IntKind.wrap_i64, IntKind.wrap_i64]
    omega
  have hcall : (callFunc 90 #[.int .i64 (n : Int)]).run Tryz.prog w.drew = .ok (.value (.slice (some ⟨w.heap.size, 0, none⟩) n cs.size)) (w.drew.drew.drew.alloc (.cells cs 5)) := by
    rw [run_callFunc_extern Tryz.func90 (by kernel_rfl) (by kernel_rfl) (by kernel_rfl) (e := Extern.BytealgMakeNoZero.makeNoZero #[3] #[50]) (by kernel_rfl), hrun]
    rfl
  have hcall2 : (callFunc 90 #[.int .i64 (IntKind.i64.wrap (IntKind.i64.wrap 0 + (n : Int)))]).run Tryz.prog w.drew = .ok (.value (.slice (some ⟨w.heap.size, 0, none⟩) n cs.size)) (w.drew.drew.drew.alloc (.cells cs 5)) := by
    rw [hw]; exact hcall
  have c1 : w.drew.cell? ⟨b, 1, none⟩ = some (.slice none 0 0) := by
    have : w.drew.heap[b]? = _ := hbk
    rw [Lib.cell_of_heap this]; rfl
  have c2 : (w.alloc (.cells cs 5)).cell? ⟨b, 1, none⟩ = some (.slice none 0 0) := by
    have hlt : b < w.heap.size := by
      rcases Nat.lt_or_ge b w.heap.size with h' | h'
      · exact h'
      · simp [Array.getElem?_eq_none h'] at hbk
    have : (w.alloc (.cells cs 5)).heap[b]? = _ := (Lib.alloc_old w _ b hlt).trans hbk
    rw [Lib.cell_of_heap this]; rfl
  have f2 : (w.alloc (.cells cs 5)).frozen? ⟨b, 1, none⟩ = false := by
    have hlt : b < w.heap.size := by
      rcases Nat.lt_or_ge b w.heap.size with h' | h'
      · exact h'
      · simp [Array.getElem?_eq_none h'] at hbk
    exact Lib.frozen_of_heap ((Lib.alloc_old w _ b hlt).trans hbk) 1
  have hcopy : ∀ W : World, (Builtin.copy_ #[50, 50] 3 #[.slice (some ⟨w.heap.size, 0, none⟩) 0 cs.size, .slice none 0 0]).run Tryz.prog W = .ok (goInt 0) W :=
    fun W => run_copy_none W 50 50 3 5 _ _ 0 cs.size 0 0 Tryz.underlying50 (by kernel_rfl) rfl
  have hfin := Lib.grown_fresh (T := 52) (e := 5) (cs := cs) hB hbk hBw (hmax (by unfold maxLen; omega)) (by decide)
  clear hw
  go_enter Tryz.func73, Tryz.ntmps73
  go_wp2
  go_region
  all_goals (go_wp2; go_end0; exact ⟨rfl, hfin⟩)
set_option maxHeartbeats 2000000 in
theorem bGrow (B b n : Nat) (w : World) (hB : B ≤ b) (hbk : w.heap[b]? = some (.cells #[.pointer none, .slice none 0 0] 52 (0, 0))) (hBw : B ≤ w.heap.size) (hn : n ≤ 281474976710656) :
    Calls Tryz.prog 64 #[.pointer (some ⟨b, 0, none⟩), .int .i64 n] w fun e w' => e = .returned (.tuple #[]) ∧ BldAt w' B b [] ∧ Below B w w' := by
  have hbk1 : (w.setCell ⟨b, 0, none⟩ (.pointer (some ⟨b, 0, none⟩))).heap[b]? = some (.cells #[.pointer (some ⟨b, 0, none⟩), .slice none 0 0] 52 (0, 0)) := by
    simp [World.setCell, Array.getElem?_modify, hbk]
  have c1 : (w.setCell ⟨b, 0, none⟩ (.pointer (some ⟨b, 0, none⟩))).cell? ⟨b, 1, none⟩ = some (.slice none 0 0) := by rw [Lib.cell_of_heap hbk1]; rfl
  have hb1 : Below B w (w.setCell ⟨b, 0, none⟩ (.pointer (some ⟨b, 0, none⟩))) := (Below.refl B w).setCell (p := ⟨b, 0, none⟩) hB _
  have hU : Lib.BuilderAt 52 5 B b (.pointer (some ⟨b, 0, none⟩)) [] (w.setCell ⟨b, 0, none⟩ (.pointer (some ⟨b, 0, none⟩))) := ⟨hB, .slice none 0 0, hbk1, World.ownsRow_nil _ _ _ _, by simp [Value.ownBlock]⟩
  have c1' : (w.setCell ⟨b, 0, none⟩ (.pointer (some ⟨b, 0, none⟩))).drew.cell? ⟨b, 1, none⟩ = some (.slice none 0 0) := c1
  have H0 := Lib.hid (show w.cell? ⟨b, 0, none⟩ = some (.pointer none) by rw [Lib.cell_of_heap hbk]; rfl)
  have H1 := Lib.hid (show w.shape? b = some (52, 2) by simp [World.shape?, hbk])
  have H2 := Lib.hid (Lib.frozen_of_heap hbk 0)
  have H3 := Lib.hid hbk1
  clear hbk hbk1
  go_enter Tryz.func64, Tryz.ntmps64
  go_wp2_with fail
  refine (bCheck_fresh b w H0.out H1.out H2.out).mono ?_; rintro e w' ⟨rfl, rfl⟩
  go_wp2_with fail
  go_region
  all_goals go_wp2_with fail
  all_goals first
    | (go_end0; exact ⟨rfl, Lib.BuilderAtF.of hU.drew, hb1.drew⟩)
    | (refine (bgrow_fresh B b n (w.setCell ⟨b, 0, none⟩ (.pointer (some ⟨b, 0, none⟩))).drew hB H3.out (by simpa [World.setCell, World.drew, -World.drew_eq] using hBw) hn).mono ?_; rintro e w' ⟨rfl, h1, h2⟩; go_wp2_with fail; go_end0; exact ⟨rfl, Lib.BuilderAtF.of h1, hb1.drew.trans h2⟩)
end Go.Proofs.YtcaapbbbekggiaaGreatDoor

namespace Go.Proofs.YtcaapbbbekggiaaGreatDoor
open Go.RowKit
set_option linter.unusedVariables false
theorem ret_int {k : IntKind} {a b : Int} (h : a = b) : Ending.returned (.int k a) = .returned (.int k b) := by rw [h]
theorem ret_int1 {k : IntKind} {a b : Int} {v : Value} (h : a = b) : Ending.returned (.tuple #[.int k a, v]) = .returned (.tuple #[.int k b, v]) := by rw [h]
theorem ret_bool {a b : Bool} (h : a = b) : Ending.returned (.bool a) = .returned (.bool b) := by rw [h]
/-- n fits an int of 64 bits. -/
def I64 (a : Int) : Prop := -9223372036854775808 ≤ a ∧ a ≤ 9223372036854775807
instance (a : Int) : Decidable (I64 a) := by unfold I64; exact inferInstance
/-- The int that is told of a result that would be n. -/
def nV (n : Int) : Int := if I64 n then n else 0
/-- The error beside it. -/
def nE (n : Int) : Int := if I64 n then 0 else 3
def nB (n : Int) : Bool := decide (I64 n)
theorem nV_in {n : Int} (h : I64 n) : nV n = n := by simp [nV, h]
theorem nV_out {n : Int} (h : ¬ I64 n) : nV n = 0 := by simp [nV, h]
theorem nE_in {n : Int} (h : I64 n) : nE n = 0 := by simp [nE, h]
theorem nE_out {n : Int} (h : ¬ I64 n) : nE n = 3 := by simp [nE, h]
theorem nB_in {n : Int} (h : I64 n) : nB n = true := by simp [nB, h]
theorem nB_out {n : Int} (h : ¬ I64 n) : nB n = false := by simp [nB, h]
theorem wf_of {a : Int} (h : (Lit.int .i64 a).wf = true) : I64 a := by
  simpa [Lit.wf, IntKind.min, IntKind.max, IntKind.signed, IntKind.bits, I64] using h
theorem wrap64_of {n : Int} (h : I64 n) : wrap64 n = n := by unfold I64 at h; unfold wrap64; omega
theorem I64_wrap (n : Int) : I64 (wrap64 n) := by unfold I64 wrap64; omega
/-- A wrap that turns a number moves it by whole rounds. -/
theorem wrap64_rounds (n : Int) : ∃ k : Int, wrap64 n = n - k * 18446744073709551616 ∧ (¬ I64 n → k ≠ 0) := by
  refine ⟨(n + 9223372036854775808) / 18446744073709551616, ?_, ?_⟩
  · unfold wrap64; omega
  · intro h; unfold I64 at h; omega
theorem sum_ge {a b : Int} (wa : I64 a) (wb : I64 b) (h : 9223372036854775807 < a + b) : ¬ a < wrap64 (a + b) ∧ 0 < b := by
  unfold wrap64; unfold I64 at *; omega
theorem sum_le {a b : Int} (wa : I64 a) (wb : I64 b) (h : a + b < -9223372036854775808) : a < wrap64 (a + b) ∧ ¬ 0 < b := by
  unfold wrap64; unfold I64 at *; omega
theorem sub_ge {a b : Int} (wa : I64 a) (wb : I64 b) (h : 9223372036854775807 < a - b) : wrap64 (a - b) < a ∧ ¬ 0 < b := by
  unfold wrap64; unfold I64 at *; omega
theorem sub_le {a b : Int} (wa : I64 a) (wb : I64 b) (h : a - b < -9223372036854775808) : ¬ wrap64 (a - b) < a ∧ 0 < b := by
  unfold wrap64; unfold I64 at *; omega
theorem out_cases {n : Int} (h : ¬ I64 n) : 9223372036854775807 < n ∨ n < -9223372036854775808 := by unfold I64 at h; omega
/-- A quotient cut towards nought is no further from nought than what is parted. -/
theorem tdiv_in {a b : Int} (wa : I64 a) (h : ¬ (a = -9223372036854775808 ∧ b = -1)) : I64 (a.tdiv b) := by
  have h1 : (a.tdiv b).natAbs ≤ a.natAbs := by rw [Int.natAbs_tdiv]; exact Nat.div_le_self _ _
  unfold I64 at *
  by_cases hq : a.tdiv b = 9223372036854775808
  · exfalso; apply h
    have ha : a = -9223372036854775808 := by omega
    refine ⟨ha, ?_⟩
    have h2 := Int.natAbs_tdiv a b
    rw [hq, ha] at h2
    have h3 : (9223372036854775808 : Int).natAbs = 9223372036854775808 := rfl
    have h4 : (-9223372036854775808 : Int).natAbs = 9223372036854775808 := rfl
    rw [h3, h4] at h2
    have h5 : b.natAbs = 1 := by
      rcases Nat.lt_or_ge 1 b.natAbs with h6 | h6
      · have := Nat.div_lt_self (n := 9223372036854775808) (k := b.natAbs) (by omega) h6; exact absurd h2 (Nat.ne_of_gt this)
      · rcases Nat.eq_zero_or_pos b.natAbs with h7 | h7
        · rw [h7] at h2; simp at h2
        · omega
    rcases Int.natAbs_eq b with h6 | h6
    · rw [h5] at h6; rw [ha, h6] at hq; simp at hq
    · rw [h5] at h6; exact h6
  · omega
/-- Divided back, a product that has wrapped tells it. -/
theorem mul_wraps {a b : Int} (wa : I64 a) (wb : I64 b) (hb : b ≠ 0) (h : ¬ I64 (a * b)) : wrap64 ((wrap64 (a * b)).tdiv b) ≠ a ∨ b = -1 ∧ a = -9223372036854775808 := by
  by_cases hm : b = -1 ∧ a = -9223372036854775808
  · exact .inr hm
  refine .inl fun he => ?_
  obtain ⟨k, hk, hk0⟩ := wrap64_rounds (a * b)
  have hk0 := hk0 h
  by_cases hp : wrap64 (a * b) = -9223372036854775808 ∧ b = -1
  · obtain ⟨hp, rfl⟩ := hp
    rw [hp] at he
    have : (-9223372036854775808 : Int).tdiv (-1) = 9223372036854775808 := by decide
    rw [this] at he
    have : wrap64 9223372036854775808 = -9223372036854775808 := by unfold wrap64; omega
    omega
  have hi := tdiv_in (I64_wrap (a * b)) (b := b) hp
  rw [wrap64_of hi] at he
  have h1 := Int.mul_tdiv_add_tmod (wrap64 (a * b)) b
  rw [he] at h1
  have h2 := Int.natAbs_tmod (wrap64 (a * b)) b
  have h3 : (wrap64 (a * b)).natAbs % b.natAbs < b.natAbs := Nat.mod_lt _ (by omega)
  have h4 : a * b = b * a := Int.mul_comm _ _
  have h5 : b.natAbs ≤ 9223372036854775808 := by unfold I64 at wb; omega
  generalize (wrap64 (a * b)).tmod b = r at *
  rw [hk, h4] at h1
  omega
theorem mul_stays {a b : Int} (wa : I64 a) (hb : b ≠ 0) (h : I64 (a * b)) : wrap64 ((wrap64 (a * b)).tdiv b) = a ∧ ¬ (b = -1 ∧ a = -9223372036854775808) := by
  rw [wrap64_of h, Int.mul_tdiv_cancel _ hb, wrap64_of wa]
  refine ⟨rfl, ?_⟩
  rintro ⟨rfl, rfl⟩
  revert h; decide
theorem mul_rem {a b : Int} (h : I64 (a * b)) : (wrap64 (a * b)).tmod b = 0 := by
  rw [wrap64_of h, Int.mul_tmod_left]
/-- What ref.Mul asks: divided back, it is the same, and nothing is left, just if it fits. -/
theorem mul_wraps' {a b : Int} (wa : I64 a) (wb : I64 b) (hb : b ≠ 0) (h1 : ¬ (b = -1 ∧ a = -9223372036854775808)) (h : wrap64 ((wrap64 (a * b)).tdiv b) = a) : I64 (a * b) := by
  by_cases hi : I64 (a * b)
  · exact hi
  · rcases mul_wraps wa wb hb hi with h2 | h2
    · exact absurd h h2
    · exact absurd h2 h1
end Go.Proofs.YtcaapbbbekggiaaGreatDoor

namespace Go.Proofs.YtcaapbbbekggiaaGreatDoor
open Go.ChangeShapes Go.WideShapes Go.ChangeAt Go.RowKit
set_option linter.unusedVariables false
set_option maxRecDepth 100000
def smallN (c : Nat) : Bool := decide (97 ≤ c) && decide (c ≤ 122)
def digitN (c : Nat) : Bool := decide (48 ≤ c) && decide (c ≤ 57)
def withinN (c : Nat) : Bool := smallN c || digitN c || decide (c = 95)
def escN (c : Nat) : Bool := decide (c = 34) || decide (c = 92)
theorem smallN_yes {c : Nat} (h1 : 97 ≤ c) (h2 : c ≤ 122) : smallN c = true := by simp [smallN, h1, h2]
theorem smallN_low {c : Nat} (h1 : ¬ 97 ≤ c) : smallN c = false := by simp [smallN, h1]
theorem smallN_high {c : Nat} (h1 : ¬ c ≤ 122) : smallN c = false := by simp [smallN, h1]
theorem digitN_yes {c : Nat} (h1 : 48 ≤ c) (h2 : c ≤ 57) : digitN c = true := by simp [digitN, h1, h2]
theorem digitN_low {c : Nat} (h1 : ¬ 48 ≤ c) : digitN c = false := by simp [digitN, h1]
theorem digitN_high {c : Nat} (h1 : ¬ c ≤ 57) : digitN c = false := by simp [digitN, h1]
theorem ret_yes {e : Ending} {b : Bool} (h : e = .returned (.bool true)) (hb : b = true) : e = .returned (.bool b) := by rw [hb]; exact h
theorem ret_no {e : Ending} {b : Bool} (h : e = .returned (.bool false)) (hb : b = false) : e = .returned (.bool b) := by rw [hb]; exact h
theorem small_any (c : Nat) (w : World) : Calls Tryz.prog 58 #[.int .u8 c] w fun e w' => e = .returned (.bool (smallN c)) ∧ w = w' := by
  by_cases h1 : 97 ≤ c
  · by_cases h2 : c ≤ 122
    · have H := Lib.hid (smallN_yes h1 h2)
      have i1 : (97 : Int) ≤ c := by omega
      have i2 : (c : Int) ≤ 122 := by omega
      go_enter Tryz.func58, Tryz.ntmps58
      go_wp2_with fail
      go_ret
      exact ⟨ret_yes rfl H.out, rfl⟩
    · have H := Lib.hid (smallN_high h2)
      have i1 : (97 : Int) ≤ c := by omega
      have i2 : ¬ (c : Int) ≤ 122 := by omega
      go_enter Tryz.func58, Tryz.ntmps58
      go_wp2_with fail
      go_ret
      exact ⟨ret_no rfl H.out, rfl⟩
  · have H := Lib.hid (smallN_low h1)
    have i1 : ¬ (97 : Int) ≤ c := by omega
    go_enter Tryz.func58, Tryz.ntmps58
    go_wp2_with fail
    go_ret
    exact ⟨ret_no rfl H.out, rfl⟩
theorem digit_any (c : Nat) (w : World) : Calls Tryz.prog 68 #[.int .u8 c] w fun e w' => e = .returned (.bool (digitN c)) ∧ w = w' := by
  by_cases h1 : 48 ≤ c
  · by_cases h2 : c ≤ 57
    · have H := Lib.hid (digitN_yes h1 h2)
      have i1 : (48 : Int) ≤ c := by omega
      have i2 : (c : Int) ≤ 57 := by omega
      go_enter Tryz.func68, Tryz.ntmps68
      go_wp2_with fail
      go_ret
      exact ⟨ret_yes rfl H.out, rfl⟩
    · have H := Lib.hid (digitN_high h2)
      have i1 : (48 : Int) ≤ c := by omega
      have i2 : ¬ (c : Int) ≤ 57 := by omega
      go_enter Tryz.func68, Tryz.ntmps68
      go_wp2_with fail
      go_ret
      exact ⟨ret_no rfl H.out, rfl⟩
  · have H := Lib.hid (digitN_low h1)
    have i1 : ¬ (48 : Int) ≤ c := by omega
    go_enter Tryz.func68, Tryz.ntmps68
    go_wp2_with fail
    go_ret
    exact ⟨ret_no rfl H.out, rfl⟩
theorem textWithin_any (c : Nat) (w : World) : Calls Tryz.prog 59 #[.int .u8 c] w fun e w' => e = .returned (.bool (withinN c)) ∧ w = w' := by
  have HS := Lib.hid (small_any c w)
  have HD := Lib.hid (digit_any c w)
  have HW : Hid (withinN c = (smallN c || digitN c || decide (c = 95))) := Lib.hid rfl
  generalize withinN c = r at *
  generalize smallN c = a at *
  generalize digitN c = b at *
  cases a with
  | true =>
    have HR : Hid (r = true) := Lib.hid (by rw [HW.out]; simp)
    clear HW HD
    go_enter Tryz.func59, Tryz.ntmps59
    go_wp2_with fail
    refine HS.out.mono ?_; rintro e w' ⟨rfl, rfl⟩
    go_wp2_with fail
    go_ret
    exact ⟨ret_yes rfl HR.out, rfl⟩
  | false =>
    cases b with
    | true =>
      have HR : Hid (r = true) := Lib.hid (by rw [HW.out]; simp)
      clear HW
      go_enter Tryz.func59, Tryz.ntmps59
      go_wp2_with fail
      refine HS.out.mono ?_; rintro e w' ⟨rfl, rfl⟩
      go_wp2_with fail
      refine HD.out.mono ?_; rintro e w' ⟨rfl, rfl⟩
      go_wp2_with fail
      go_ret
      exact ⟨ret_yes rfl HR.out, rfl⟩
    | false =>
      obtain ⟨q, hq⟩ : ∃ q, ((c : Int) == 95) = q := ⟨_, rfl⟩
      have HR : Hid (r = q) := Lib.hid (by
        rw [HW.out, ← hq, Bool.eq_iff_iff]
        simp only [Bool.or_self, Bool.false_or, decide_eq_true_eq, beq_iff_eq]
        omega)
      clear HW
      go_enter Tryz.func59, Tryz.ntmps59
      go_wp2_with fail
      refine HS.out.mono ?_; rintro e w' ⟨rfl, rfl⟩
      go_wp2_with fail
      refine HD.out.mono ?_; rintro e w' ⟨rfl, rfl⟩
      go_wp2_with fail
      go_ret
      exact ⟨by rw [HR.out]; rfl, rfl⟩
theorem escaped_any (c : Nat) (w : World) : Calls Tryz.prog 89 #[.int .u8 c] w fun e w' => e = .returned (.bool (escN c)) ∧ w = w' := by
  by_cases h1 : c = 34
  · subst h1
    go_enter Tryz.func89, Tryz.ntmps89
    go_wp2_with fail
    go_ret
    exact ⟨rfl, rfl⟩
  · by_cases h2 : c = 92
    · subst h2
      go_enter Tryz.func89, Tryz.ntmps89
      go_wp2_with fail
      go_ret
      exact ⟨rfl, rfl⟩
    · have H := Lib.hid (show escN c = false by simp [escN, h1, h2])
      have i1 : ((c : Int) == 34) = false := by rw [beq_eq_false_iff_ne]; omega
      have i2 : ((c : Int) == 92) = false := by rw [beq_eq_false_iff_ne]; omega
      clear h1 h2
      go_enter Tryz.func89, Tryz.ntmps89
      go_wp2_with fail
      go_ret
      exact ⟨ret_no rfl H.out, rfl⟩
end Go.Proofs.YtcaapbbbekggiaaGreatDoor

namespace Go.Proofs.YtcaapbbbekggiaaGreatDoor
open Go.RowKit
set_option linter.unusedVariables false
theorem nothing_appended {P : Program} (w : World) (base : Nat) (t ty e : TypeId) (i : TypeInfo) (size : Nat) (ht : P.underlying t = some (.slice e)) (hi : P.info? e = some i)
    (v : Value) (n : Nat) (xs : List Value) (hown : w.ownsRow base e size v n xs) (c : Nat) : (Builtin.append_ #[t, t] ty #[v, .slice none 0 c]).run P w = .ok v w := by
  rcases hown.2 with ⟨rfl, rfl⟩ | ⟨g, cap, cur, rfl, _, _, hle, _⟩ <;>
    simp [Builtin.append_, run_underlying ht, sizeOf, typeInfo, hi, Builtin.lenOf, Builtin.firstCells, storeCells]
  omega
theorem append_run {P : Program} (w : World) (base : Nat) (t ty e : TypeId) (i : TypeInfo) (z : Value) (size bytes : Nat) (ht : P.underlying t = some (.slice e)) (hi : P.info? e = some i) (hz : i.zero = some z)
    (hsize : i.size = size) (hby : i.bytes = bytes) (hzs : z.cells.size = size) (hsz : 0 < size)
    (v : Value) (n : Nat) (xs : List Value) (hown : w.ownsRow base e size v n xs)
    (B : Nat) (A : Option Addr) (m c : Nat) (news : List Value) (hs : Sees w B size A m news) (h1 : ∀ u ∈ news, u.oneCell' = true)
    (h63 : n + m ≤ maxLen) (hbytes : (n + m) * bytes ≤ 140737488355328) (hbase : base ≤ w.heap.size) :
    ∃ v' w', (Builtin.append_ #[t, t] ty #[v, .slice A m c]).run P w = .ok v' w' ∧ w'.ownsRow base e size v' (n + m) (xs ++ news) ∧ w.grownBy w' v.ownBlock := by
  cases A with
  | none =>
    have hm : m = 0 := by
      rcases Nat.eq_zero_or_pos m with h | h
      · exact h
      · obtain ⟨ad, h, _⟩ := hs.at_ h; cases h
    subst hm
    have hn : news = [] := List.eq_nil_of_length_eq_zero (by simpa using hs.len)
    subst hn
    exact ⟨v, w, nothing_appended w base t ty e i size ht hi v n xs hown c, by simpa using hown, World.grownBy.refl w _⟩
  | some ad =>
    obtain ⟨v', w', hr, h2, h3, _⟩ := run_append_own (P := P) w base t ty e i z size bytes ht hi hz hsize hby hzs hsz v n xs hown ad m c news hs.len (by
      intro j u hu
      have hm : 0 < m := by
        have h := (List.getElem?_eq_some_iff.1 hu).1
        rw [hs.len] at h
        rcases Nat.eq_zero_or_pos m with h0 | h0
        · subst h0; simp at h
        · exact h0
      obtain ⟨ad', h, _, hc⟩ := hs.at_ hm
      injection h with h; subst h
      exact hc j u hu) h1 h63 hbytes hbase
    exact ⟨v', w', hr, h2, h3⟩
theorem wpList_append_sees {P : Program} {w : World} {ops : Array Oper} {rest : List Oper} {o : Oper} {a : Act} {Q : Exit → Act → World → Prop} (hgd : o.guard = none) (s x : Operand) (t : TypeId)
    (ho : o.op = .call { callee := .builtin .append, args := #[s, x], argTypes := #[t, t] })
    (base : Nat) (e : TypeId) (i : TypeInfo) (z : Value) (size bytes : Nat) (ht : P.underlying t = some (.slice e)) (hi : P.info? e = some i) (hz : i.zero = some z)
    (hsize : i.size = size) (hby : i.bytes = bytes) (hzs : z.cells.size = size) (hsz : 0 < size)
    (v : Value) (n : Nat) (xs : List Value) (hv : a.eval s = v) (hown : w.ownsRow base e size v n xs)
    (B : Nat) (A : Option Addr) (m c : Nat) (news : List Value) (hx : a.eval x = .slice A m c) (hs : Sees w B size A m news) (h1 : ∀ u ∈ news, u.oneCell' = true)
    (h63 : n + m ≤ maxLen) (hbytes : (n + m) * bytes ≤ 140737488355328) (hbase : base ≤ w.heap.size)
    (h : ∀ v' w', w'.ownsRow base e size v' (n + m) (xs ++ news) → w.grownBy w' v.ownBlock → wpList P ops Q rest (a.put o.dst v') w') : wpList P ops Q (o :: rest) a w := by
  refine wpList_plain hgd fun K hK => ?_
  obtain ⟨v', w', hr, h2, h3⟩ := append_run (P := P) w base t o.type e i z size bytes ht hi hz hsize hby hzs hsz v n xs hown B A m c news hs h1 h63 hbytes hbase
  unfold Oper.wp execOp
  simp only [ho, resolve, invoke, builtin, Sem.run_bind, Sem.run_pure, Result.andThen_ok, List.map_toArray, List.map_cons, List.map_nil, hv, hx, hr]
  exact hK _ _ (h v' w' h2 h3)
/-- A call answers a slice in new memory, n elements that read as xs. -/
def OwnAns (t : TypeId) (size n : Nat) (xs : List Value) (w : World) (e : Ending) (w' : World) : Prop :=
  ∃ A c, e = .returned (.slice A n c) ∧ w'.ownsRow w.heap.size t size (.slice A n c) n xs ∧ Below w.heap.size w w' ∧ n ≤ c ∧ c ≤ 9223372036854775807
theorem ownAns {t : TypeId} {size n c : Nat} {xs : List Value} {w w' : World} {e : Ending} {A : Option Addr} (hown : w'.ownsRow w.heap.size t size (.slice A n c) n xs) (hb : Below w.heap.size w w')
    (he : e = .returned (.slice A n c)) (h1 : n ≤ c) (h2 : c ≤ 9223372036854775807) : OwnAns t size n xs w e w' := ⟨A, c, he, hown, hb, h1, h2⟩
end Go.Proofs.YtcaapbbbekggiaaGreatDoor

namespace Go.Proofs.YtcaapbbbekggiaaGreatDoor
open Go.RowKit
set_option linter.unusedVariables false
/-- The row v' lies where v lay, or in memory that is new since w. -/
def Where (w : World) (v v' : Value) : Prop := v'.ownBlock = v.ownBlock ∨ ∀ k, v'.ownBlock = some k → w.heap.size ≤ k
theorem Where.refl (w : World) (v : Value) : Where w v v := .inl rfl
/-- A row of another block stays another one. -/
theorem Where.apart {w : World} {v v' u : Value} (h : Where w v v') (hu : ∀ k, u.ownBlock = some k → k < w.heap.size ∧ v.ownBlock ≠ some k) : ∀ k, u.ownBlock = some k → v'.ownBlock ≠ some k := by
  intro k hk h'
  obtain ⟨h1, h2⟩ := hu k hk
  rcases h with h | h
  · exact h2 (h ▸ h')
  · have := h k h'; omega
theorem append_where {P : Program} (w : World) (base : Nat) (t ty e : TypeId) (i : TypeInfo) (z : Value) (size bytes : Nat) (ht : P.underlying t = some (.slice e)) (hi : P.info? e = some i) (hz : i.zero = some z)
    (hsize : i.size = size) (hby : i.bytes = bytes) (hzs : z.cells.size = size) (hsz : 0 < size)
    (v : Value) (n : Nat) (xs : List Value) (hown : w.ownsRow base e size v n xs)
    (B : Nat) (A : Option Addr) (m c : Nat) (news : List Value) (hs : Sees w B size A m news) (h1 : ∀ u ∈ news, u.oneCell' = true)
    (h63 : n + m ≤ maxLen) (hbytes : (n + m) * bytes ≤ 140737488355328) (v' : Value) (w' : World)
    (hr : (Builtin.append_ #[t, t] ty #[v, .slice A m c]).run P w = .ok v' w') : Where w v v' := by
  subst hsize; subst hby
  have hsmall : n + m ≤ 9223372036854775807 := by simp only [maxLen] at h63; omega
  cases A with
  | none =>
    have hm : m = 0 := by
      rcases Nat.eq_zero_or_pos m with h | h
      · exact h
      · obtain ⟨ad, h, _⟩ := hs.at_ h; cases h
    subst hm
    rw [nothing_appended w base t ty e i i.size ht hi v n xs hown c] at hr
    injection hr with hr _
    exact .inl (by rw [hr])
  | some ad =>
    have hl := hs.len
    have hnews : ∀ j u, news[j]? = some u → w.cell? (ad.add j) = some u := by
      intro j u hu
      have hm : 0 < m := by
        have h := (List.getElem?_eq_some_iff.1 hu).1
        rw [hs.len] at h
        rcases Nat.eq_zero_or_pos m with h0 | h0
        · subst h0; simp at h
        · exact h0
      obtain ⟨ad', h, _, hc⟩ := hs.at_ hm
      injection h with h; subst h
      exact hc j u hu
    rcases hown.2 with ⟨rfl, rfl⟩ | ⟨g, cap, cur, rfl, hbg, hg, hnc, hcm, hcs, htake⟩
    · by_cases hm : m = 0
      · subst hm
        have hr0 : (Builtin.append_ #[t, t] ty #[.slice none 0 0, .slice (some ad) 0 c]).run P w = .ok (.slice none 0 0) w := by
          simp [Builtin.append_, run_underlying ht, sizeOf, typeInfo, hi, Builtin.lenOf, Builtin.firstCells, loadCells, loadCellsFrom]
        rw [hr0] at hr
        injection hr with hr _
        exact .inl (by rw [hr])
      · rw [run_append_nil (P := P) w t ty e i z ht hi hz ad m c news hl hnews (by omega) (by omega) (by have hb := hbytes; simp only [Nat.zero_add] at hb; omega)] at hr
        injection hr with hr _
        exact .inr fun k hk => by rw [← hr] at hk; simp [Value.ownBlock] at hk; omega
    · by_cases hroom : n + m ≤ cap
      · have hfit : n * i.size + news.length ≤ cur.size := by rw [hl, hcs, ← Nat.add_mul]; exact Nat.mul_le_mul_right _ hroom
        rw [run_append_room (P := P) w t ty e i ht hi g n cap cur hg ad m c news hl hnews h1 hroom hfit] at hr
        injection hr with hr _
        exact .inl (by rw [← hr]; rfl)
      · have holds : ∀ j u, xs[j]? = some u → w.cell? ((⟨g, 0, none⟩ : Addr).add j) = some u := hown.cells (g := g) rfl
        rw [run_append_grow (P := P) w t ty e i z ht hi hz ⟨g, 0, none⟩ n cap xs hown.1 holds ad m c news hl hnews (by omega) (by omega) (growslice_fits (by omega) hbytes)] at hr
        injection hr with hr _
        exact .inr fun k hk => by rw [← hr] at hk; simp [Value.ownBlock] at hk; omega
theorem wpList_append_at {P : Program} {w : World} {ops : Array Oper} {rest : List Oper} {o : Oper} {a : Act} {Q : Exit → Act → World → Prop} (hgd : o.guard = none) (s x : Operand) (t : TypeId)
    (ho : o.op = .call { callee := .builtin .append, args := #[s, x], argTypes := #[t, t] })
    (base : Nat) (e : TypeId) (i : TypeInfo) (z : Value) (size bytes : Nat) (ht : P.underlying t = some (.slice e)) (hi : P.info? e = some i) (hz : i.zero = some z)
    (hsize : i.size = size) (hby : i.bytes = bytes) (hzs : z.cells.size = size) (hsz : 0 < size)
    (v : Value) (n : Nat) (xs : List Value) (hv : a.eval s = v) (hown : w.ownsRow base e size v n xs)
    (B : Nat) (A : Option Addr) (m c : Nat) (news : List Value) (hx : a.eval x = .slice A m c) (hs : Sees w B size A m news) (h1 : ∀ u ∈ news, u.oneCell' = true)
    (h63 : n + m ≤ maxLen) (hbytes : (n + m) * bytes ≤ 140737488355328) (hbase : base ≤ w.heap.size)
    (h : ∀ v' w', w'.ownsRow base e size v' (n + m) (xs ++ news) → w.grownBy w' v.ownBlock → Where w v v' → wpList P ops Q rest (a.put o.dst v') w') : wpList P ops Q (o :: rest) a w := by
  refine wpList_plain hgd fun K hK => ?_
  obtain ⟨v', w', hr, h2, h3⟩ := append_run (P := P) w base t o.type e i z size bytes ht hi hz hsize hby hzs hsz v n xs hown B A m c news hs h1 h63 hbytes hbase
  have h4 := append_where (P := P) w base t o.type e i z size bytes ht hi hz hsize hby hzs hsz v n xs hown B A m c news hs h1 h63 hbytes v' w' hr
  unfold Oper.wp execOp
  simp only [ho, resolve, invoke, builtin, Sem.run_bind, Sem.run_pure, Result.andThen_ok, List.map_toArray, List.map_cons, List.map_nil, hv, hx, hr]
  exact hK _ _ (h v' w' h2 h3 h4)
end Go.Proofs.YtcaapbbbekggiaaGreatDoor

namespace Go.Proofs.YtcaapbbbekggiaaGreatDoor
open Go.ChangeShapes Go.WideShapes Go.ChangeAt Go.RowKit
set_option linter.unusedVariables false
set_option maxRecDepth 100000
/-- A byte that has a backslash ahead of it. -/
def escB (c : UInt8) : Bool := escN c.toNat
def escL (l : List UInt8) : List UInt8 := l.flatMap fun c => if escB c then [92, c] else [c]
/-- A text in quotes. -/
def quoteL (l : List UInt8) : List UInt8 := 34 :: (escL l ++ [34])
theorem escL_append (a b : List UInt8) : escL (a ++ b) = escL a ++ escL b := by simp [escL]
theorem escL_one (c : UInt8) : escL [c] = if escB c then [92, c] else [c] := by simp [escL]
theorem escL_length_le (l : List UInt8) : (escL l).length ≤ 2 * l.length := by
  induction l with
  | nil => simp [escL]
  | cons c l ih =>
    have e : escL (c :: l) = escL [c] ++ escL l := by rw [← escL_append]; rfl
    rw [e, escL_one, List.length_append, List.length_cons]
    split <;> simp <;> omega
theorem quoteL_length_le (l : List UInt8) : (quoteL l).length ≤ 2 * l.length + 2 := by
  have := escL_length_le l; simp [quoteL]; omega
theorem take_snoc_b (s : ByteArray) (k : Nat) (h : k < s.size) : s.data.toList.take (k + 1) = s.data.toList.take k ++ [s[k]] := by
  rw [List.take_succ_eq_append_getElem (by simpa using h)]; rfl
theorem bByteU (B b : Nat) (l : List UInt8) (c : UInt8) (v : Int) (hv : v = c.toNat) (w : World) (h : Bld w B b (Lib.byteCells l)) (hlen : l.length + 1 ≤ 140737488355328) (hBw : B ≤ w.heap.size) :
    Calls Tryz.prog 50 #[.pointer (some ⟨b, 0, none⟩), .int .u8 v] w fun e w' => e = .returned .nilIface ∧ BldAt w' B b (Lib.byteCells (l ++ [c])) ∧ BldKept B b w w' := by
  subst hv
  have e : Lib.byteCells (l ++ [c]) = Lib.byteCells l ++ [.int .u8 c.toNat] := by rw [Lib.byteCells_append]; rfl
  rw [e]
  exact bByte B b _ _ w h (by rw [Lib.byteCells_length]; exact hlen) hBw
theorem bStringU (B b : Nat) (l : List UInt8) (s : ByteArray) (w : World) (h : Bld w B b (Lib.byteCells l)) (hlen : l.length + s.size ≤ 140737488355328) (hBw : B ≤ w.heap.size) :
    Calls Tryz.prog 46 #[.pointer (some ⟨b, 0, none⟩), .string s] w fun e w' => e = .returned (.tuple #[.int .i64 s.size, .nilIface]) ∧ BldAt w' B b (Lib.byteCells (l ++ s.data.toList)) ∧ BldKept B b w w' := by
  have e : Lib.byteCells (l ++ s.data.toList) = Lib.byteCells l ++ Lib.strCells s := by rw [Lib.byteCells_append, Lib.strCells_eq]
  rw [e]
  exact bString B b _ s w h (by rw [Lib.byteCells_length]; exact hlen) hBw
theorem bTold (B b : Nat) (l : List UInt8) (w : World) (h : BldAt w B b (Lib.byteCells l)) (hBw : B ≤ w.heap.size) :
    Calls Tryz.prog 29 #[.pointer (some ⟨b, 0, none⟩)] w fun e w' => e = .returned (.string ⟨l.toArray⟩) ∧ Below B w w' :=
  (Tryz.Builder_String_any_k B b l w h.is hBw).mono fun _ _ h => ⟨h.1, h.2.2.1⟩
theorem bld_new (w : World) : Bld (w.alloc (.cells #[.pointer none, .slice none 0 0] 52)) w.heap.size w.heap.size (Lib.byteCells []) := Lib.IsBuilderF.of (Lib.fresh_isBuilder _ _ w)
theorem BldAt.below {w w' : World} {B b : Nat} {l : List Value} (h : BldAt w B b l) (hb : Below w.heap.size w w') : BldAt w' B b l := by
  obtain ⟨hB, v, hbk, hown, hne⟩ := h
  have hlt : b < w.heap.size := by
    rcases Nat.lt_or_ge b w.heap.size with h' | h'
    · exact h'
    · simp [Array.getElem?_eq_none h'] at hbk
  refine ⟨hB, v, (hb.block b hlt).trans hbk, ⟨hown.1, ?_⟩, hne⟩
  rcases hown.2 with h | ⟨g, cap, cur, fz, hv, hg, hh, rest⟩
  · exact .inl h
  · refine .inr ⟨g, cap, cur, fz, hv, hg, ?_, rest⟩
    have : g < w.heap.size := (Array.getElem?_eq_some_iff.1 hh).1
    exact (hb.block g this).trans hh
set_option maxHeartbeats 2000000 in
theorem quote_any (s : ByteArray) (w : World) (hs : s.size ≤ 35184372088832) :
    Calls Tryz.prog 72 #[.string s] w fun e w' => e = .returned (.string ⟨(quoteL s.data.toList).toArray⟩) ∧ Below w.heap.size w w' := by
  have HSZ := Lib.hid (show (s.size : Int) + 2 = ((s.size + 2 : Nat) : Int) by omega)
  go_enter Tryz.func72, Tryz.ntmps72
  go_wp2_with fail
  rw [HSZ.out]
  clear HSZ
  refine (bGrow w.heap.size w.heap.size (s.size + 2) _ (Nat.le_refl _) (heap_alloc_new w _) (by simp) (by omega)).mono ?_
  rintro e w1 ⟨rfl, hbl, hb1⟩
  have hs1 := hb1.size
  have HBL := Lib.hid hbl
  have HB := Lib.hid (((Below.refl w.heap.size w).alloc (Nat.le_refl _) _).trans hb1)
  clear hbl hb1
  have hs0 : w.heap.size + 1 ≤ w1.heap.size := by have h := hs1; simp at h; omega
  clear hs1
  go_wp2_with fail
  refine (bByteU w.heap.size w.heap.size [] 34 34 rfl _ HBL.out.is (by simp) (by omega)).mono ?_
  rintro e w2 ⟨rfl, hbl, hk⟩
  have hs2 := hk.1.size
  have HBL2 := Lib.hid hbl
  have HB2 := Lib.hid (HB.out.trans hk.1)
  clear hbl hk HBL HB
  go_wp2_with fail
  go_loopg [12] s.size (fun g x12 wr => ∃ k : Nat, k + g = s.size ∧ x12 = .int .i64 k ∧ BldAt wr w.heap.size w.heap.size (Lib.byteCells (34 :: escL (s.data.toList.take k))) ∧ Below w.heap.size w wr)
  case atStart => exact ⟨0, by omega, rfl, HBL2.out, HB2.out⟩
  case round =>
    obtain ⟨k, hkg, rfl, hbl, hbel⟩ := hrel
    have HBL := Lib.hid hbl; have HB := Lib.hid hbel
    have hws := hbel.size
    have hel := escL_length_le (s.data.toList.take k)
    have hll : (s.data.toList.take k).length ≤ k := List.length_take_le _ _
    clear hbl hbel HBL2 HB2
    cases gk with
    | zero =>
      obtain rfl : k = s.size := by omega
      have HQ := Lib.hid (show 34 :: escL (s.data.toList.take s.size) ++ [34] = quoteL s.data.toList by rw [List.take_of_length_le (by simp)]; rfl)
      go_wp2_with fail
      refine (bByteU w.heap.size w.heap.size _ 34 34 rfl _ HBL.out.is (by rw [List.length_cons]; omega) hws).mono ?_
      rintro e w2 ⟨rfl, hbl, hk⟩
      rw [HQ.out] at hbl
      have hs2 := hk.1.size
      have HBL3 := Lib.hid hbl; have HB3 := Lib.hid (HB.out.trans hk.1)
      clear hbl hk HBL HB HQ
      go_wp2_with fail
      refine (bTold w.heap.size w.heap.size _ _ HBL3.out (by omega)).mono ?_
      rintro e w3 ⟨rfl, hb3⟩
      have HB4 := Lib.hid (HB3.out.trans hb3)
      clear hb3
      go_wp2_with fail
      go_ret
      exact ⟨rfl, HB4.out⟩
    | succ g =>
      have hlt : k < s.size := by omega
      have HT := Lib.hid (take_snoc_b s k hlt)
      have HE := Lib.hid (escaped_any (s[k].toNat) wr)
      have HN : Hid (34 :: escL (s.data.toList.take (k + 1)) = (34 :: escL (s.data.toList.take k)) ++ (if escB s[k] then [92, s[k]] else [s[k]])) := Lib.hid (by rw [HT.out, escL_append, escL_one]; rfl)
      have HD : Hid (escB s[k] = escN s[k].toNat) := Lib.hid rfl
      clear HT
      obtain ⟨new, hnew⟩ : ∃ new, 34 :: escL (s.data.toList.take (k + 1)) = new := ⟨_, rfl⟩
      rw [hnew] at HN
      have HNEW := Lib.hid hnew
      clear hnew
      obtain ⟨old, hold⟩ : ∃ old, 34 :: escL (s.data.toList.take k) = old := ⟨_, rfl⟩
      have hol : old.length ≤ 2 * k + 1 := by rw [← hold, List.length_cons]; omega
      rw [hold] at HBL HN
      clear hold hel hll
      cases hesc : escN s[k].toNat
      · rw [hesc] at HE HD
        rw [HD.out] at HN
        clear hesc HD
        go_wp2_with fail
        refine HE.out.mono ?_; rintro e w' ⟨rfl, rfl⟩
        go_wp2_with fail
        refine (bByteU w.heap.size w.heap.size _ s[k] _ rfl _ HBL.out.is (by omega) hws).mono ?_
        rintro e w2 ⟨rfl, hbl, hk⟩
        have HBL3 : Hid (BldAt w2 w.heap.size w.heap.size (Lib.byteCells new)) := Lib.hid (by rw [HN.out]; exact hbl)
        have HB3 := Lib.hid (HB.out.trans hk.1)
        clear hbl hk HBL HB HN HE
        go_wp2_with fail
        go_roundg g
        case measure => omega
        case rel => exact ⟨k + 1, by omega, by go_num, by rw [HNEW.out]; exact HBL3.out, HB3.out⟩
      · rw [hesc] at HE HD
        rw [HD.out] at HN
        clear hesc HD
        go_wp2_with fail
        refine HE.out.mono ?_; rintro e w' ⟨rfl, rfl⟩
        go_wp2_with fail
        refine (bByteU w.heap.size w.heap.size _ 92 92 rfl _ HBL.out.is (by omega) hws).mono ?_
        rintro e w2 ⟨rfl, hbl, hk⟩
        have hs2 := hk.1.size
        have HBL3 := Lib.hid hbl
        have HB3 := Lib.hid (HB.out.trans hk.1)
        clear hbl hk HBL HB HE
        go_wp2_with fail
        refine (bByteU w.heap.size w.heap.size _ s[k] _ rfl _ HBL3.out.is (by rw [List.length_append]; simp; omega) (by omega)).mono ?_
        rintro e w3 ⟨rfl, hbl, hk⟩
        have HBL4 : Hid (BldAt w3 w.heap.size w.heap.size (Lib.byteCells new)) := Lib.hid (by rw [HN.out]; simpa using hbl)
        have HB4 := Lib.hid (HB3.out.trans hk.1)
        clear hbl hk HBL3 HB3 HN
        go_wp2_with fail
        go_roundg g
        case measure => omega
        case rel => exact ⟨k + 1, by omega, by go_num, by rw [HNEW.out]; exact HBL4.out, HB4.out⟩
/-- What is read behind the first quote: the text, and what is left behind the second one. -/
def unq : List UInt8 → List UInt8 → Option (List UInt8 × List UInt8)
  | [], _ => none
  | c :: r, acc => if 24 < acc.length then none else if c = 34 then some (acc, r) else if c = 92 then
      (match r with
        | [] => none
        | d :: r' => if escB d then unq r' (acc ++ [d]) else none)
      else unq r (acc ++ [c])
termination_by l => l.length
decreasing_by all_goals (simp_wf; try omega)
/-- string(b) of a row of the call's own. -/
theorem conv_own {base n c : Nat} {A : Option Addr} {l : List UInt8} (w : World) (h : w.ownsRow base 5 1 (.slice A n c) n (Lib.byteCells l)) (hl : l.length = n) :
    (convert 50 9 (.slice A n c)).run Tryz.prog w = .ok (.string ⟨l.toArray⟩) w := by
  cases A with
  | none =>
    have hn : n = 0 := by
      rcases Nat.eq_zero_or_pos n with h0 | h0
      · exact h0
      · obtain ⟨g, c', hv, _⟩ := h.form h0; cases hv
    have : l = [] := List.eq_nil_of_length_eq_zero (by omega)
    subst this
    exact run_convert_bytes_nil (w := w) 50 5 Tryz.underlying50 Tryz.underlying5 n c _ Tryz.underlying9
  | some a =>
    subst hl
    exact run_convert_bytes_back w 50 9 5 a c l Tryz.underlying50 Tryz.underlying5 Tryz.underlying9 fun j hj => by
      have hS := Sees.of_own h
      obtain ⟨ad, e, _, hc⟩ := hS.at_ (by omega)
      injection e with e; subst e
      exact hc j _ (by simp [Lib.byteCells, hj])
theorem own_drewN {w : World} {base : Nat} {t : TypeId} {s n : Nat} {v : Value} {xs : List Value} (h : w.ownsRow base t s v n xs) (q : Nat) : (w.drewN q).ownsRow base t s v n xs := h
theorem own_nil (w : World) (base : Nat) (t : TypeId) (s : Nat) : w.ownsRow base t s (.slice none 0 0) 0 [] := World.ownsRow_nil w base t s
theorem byteCells_one' (l : List UInt8) : ∀ u ∈ Lib.byteCells l, u.oneCell' = true := by
  intro u hu; simp only [Lib.byteCells, List.mem_map] at hu; obtain ⟨b, _, rfl⟩ := hu; rfl
theorem drop_byte (r : List UInt8) (k : Nat) (h : k < r.length) : r.drop k = r[k] :: r.drop (k + 1) := List.drop_eq_getElem_cons h
theorem getByte (r : List UInt8) (k : Nat) (h : k < (⟨r.toArray⟩ : ByteArray).size) : (⟨r.toArray⟩ : ByteArray)[k] = r[k]'(by simpa [ByteArray.size] using h) := rfl
theorem unq_step {r acc : List UInt8} {k : Nat} (h : k < r.length) (ha : acc.length ≤ 24) (h34 : r[k] ≠ 34) (h92 : r[k] ≠ 92) : unq (r.drop k) acc = unq (r.drop (k + 1)) (acc ++ [r[k]]) := by
  rw [drop_byte r k h]
  conv => lhs; unfold unq
  rw [if_neg (by omega), if_neg h34, if_neg h92]
theorem unq_end {r acc : List UInt8} {k : Nat} (h : k < r.length) (ha : acc.length ≤ 24) (h34 : r[k] = 34) : unq (r.drop k) acc = some (acc, r.drop (k + 1)) := by
  rw [drop_byte r k h]
  conv => lhs; unfold unq
  rw [if_neg (by omega), if_pos h34]
theorem unq_long {r acc : List UInt8} {k : Nat} (ha : 24 < acc.length) : unq (r.drop k) acc = none := by
  cases r.drop k with
  | nil => unfold unq; rfl
  | cons c t => unfold unq; rw [if_pos ha]
theorem unq_over {r acc : List UInt8} {k : Nat} (h : r.length ≤ k) : unq (r.drop k) acc = none := by
  rw [List.drop_of_length_le h]; unfold unq; rfl
theorem unq_esc {r acc : List UInt8} {k : Nat} (h : k + 1 < r.length) (ha : acc.length ≤ 24) (h92 : r[k] = 92) (he : escB r[k + 1] = true) : unq (r.drop k) acc = unq (r.drop (k + 2)) (acc ++ [r[k + 1]]) := by
  rw [drop_byte r k (by omega), drop_byte r (k + 1) h]
  conv => lhs; unfold unq
  rw [if_neg (by omega), if_neg (by rw [h92]; decide), if_pos h92]
  simp only
  rw [if_pos he]
theorem unq_bad {r acc : List UInt8} {k : Nat} (h : k + 1 < r.length) (ha : acc.length ≤ 24) (h92 : r[k] = 92) (he : escB r[k + 1] = false) : unq (r.drop k) acc = none := by
  rw [drop_byte r k (by omega), drop_byte r (k + 1) h]
  unfold unq
  rw [if_neg (by omega), if_neg (by rw [h92]; decide), if_pos h92]
  simp only
  rw [he]; rfl
theorem unq_last {r acc : List UInt8} {k : Nat} (h : k + 1 = r.length) (ha : acc.length ≤ 24) (h92 : r[k]'(by omega) = 92) : unq (r.drop k) acc = none := by
  rw [drop_byte r k (by omega), List.drop_of_length_le (by omega)]
  unfold unq
  rw [if_neg (by omega), if_neg (by rw [h92]; decide), if_pos h92]
end Go.Proofs.YtcaapbbbekggiaaGreatDoor

namespace Go.Proofs.YtcaapbbbekggiaaGreatDoor
open Go.ChangeShapes Go.WideShapes Go.ChangeAt Go.RowKit
set_option linter.unusedVariables false
set_option maxRecDepth 100000
/-- A token: its kind, its number, its place, its text. -/
structure Tok where
  kd : Int
  n : Int
  at_ : Int
  tx : ByteArray
def Tok.val (t : Tok) : Value := .agg #[.int .i64 t.kd, .int .i64 t.n, .int .i64 t.at_, .string t.tx]
/-- Digits read down, below nought. -/
def numGo : Int → List UInt8 → Option (Int × Nat)
  | n, [] => some (n, 0)
  | n, c :: r => if digitN c.toNat = true then (if n < (-9223372036854775808 + ((c.toNat : Int) - 48)).tdiv 10 then none else (numGo (n * 10 - ((c.toNat : Int) - 48)) r).map fun p => (p.1, p.2 + 1)) else some (n, 0)
/-- .. from so many bytes on. -/
def numAt (k : Nat) (n : Int) (l : List UInt8) : Option (Int × Nat) := (numGo n l).map fun p => (p.1, k + p.2)
theorem numAt_end (k : Nat) (n : Int) : numAt k n [] = some (n, k) := rfl
theorem numAt_stop {k : Nat} {n : Int} {c : UInt8} {r : List UInt8} (h : digitN c.toNat = false) : numAt k n (c :: r) = some (n, k) := by
  unfold numAt numGo; rw [if_neg (by rw [h]; simp)]; rfl
theorem numAt_over {k : Nat} {n : Int} {c : UInt8} {r : List UInt8} (h : digitN c.toNat = true) (h2 : n < (-9223372036854775808 + ((c.toNat : Int) - 48)).tdiv 10) : numAt k n (c :: r) = none := by
  unfold numAt numGo; rw [if_pos h, if_pos h2]; rfl
theorem numAt_next {k : Nat} {n : Int} {c : UInt8} {r : List UInt8} (h : digitN c.toNat = true) (h2 : ¬ n < (-9223372036854775808 + ((c.toNat : Int) - 48)).tdiv 10) : numAt k n (c :: r) = numAt (k + 1) (n * 10 - ((c.toNat : Int) - 48)) r := by
  conv => lhs; unfold numAt numGo
  rw [if_pos h, if_neg h2]
  unfold numAt
  rw [Option.map_map]
  congr 1
  funext p
  simp only [Function.comp_apply]
  rw [show k + 1 + p.2 = k + (p.2 + 1) by omega]
/-- A number at a text's beginning: it, and its bytes. -/
def numF (l : List UInt8) : Option (Int × Nat) :=
  if l.head? = some 45 then numAt 1 0 (l.drop 1)
  else match numAt 0 0 l with
    | none => none
    | some (n, u) => if n = -9223372036854775808 then none else some (-n, u)
/-- How many bytes of a word there are. -/
def spanW (l : List UInt8) : Nat := (l.takeWhile fun c => withinN c.toNat).length
theorem spanW_nil : spanW [] = 0 := rfl
theorem spanW_yes {c : UInt8} {r : List UInt8} (h : withinN c.toNat = true) : spanW (c :: r) = spanW r + 1 := by simp [spanW, h]
theorem spanW_no {c : UInt8} {r : List UInt8} (h : withinN c.toNat = false) : spanW (c :: r) = 0 := by simp [spanW, h]
theorem tdiv_min (d : Int) (h0 : 0 ≤ d) (h9 : d ≤ 9) : ∃ t, (-9223372036854775808 + d).tdiv 10 = t ∧ -922337203685477580 ≤ t ∧ t ≤ 0 ∧ -9223372036854775808 + d ≤ t * 10 := by
  have e : (-9223372036854775808 + d).tdiv 10 = -((9223372036854775808 - d) / 10) := by
    rw [show -9223372036854775808 + d = -(9223372036854775808 - d) by omega, Int.neg_tdiv, Int.tdiv_eq_ediv_of_nonneg (by omega)]
  exact ⟨_, e, by omega, by omega, by omega⟩
/-- What is told of a text's first token. -/
def FirstAns (r : Option (Tok × Nat)) (w : World) (e : Ending) (w' : World) : Prop :=
  Below w.heap.size w w' ∧ match r with
    | none => e = .returned (.tuple #[.agg #[.int .i64 0, .int .i64 0, .int .i64 0, .string ⟨#[]⟩], .int .i64 0])
    | some (t, u) => e = .returned (.tuple #[.agg #[.int .i64 t.kd, .int .i64 t.n, .int .i64 t.at_, .string t.tx], .int .i64 u])
theorem firstAns_no {r : Option (Tok × Nat)} {w w' : World} {e : Ending} (hr : r = none) (hb : Below w.heap.size w w') (he : e = .returned (.tuple #[.agg #[.int .i64 0, .int .i64 0, .int .i64 0, .string ⟨#[]⟩], .int .i64 0])) : FirstAns r w e w' := by subst hr; exact ⟨hb, he⟩
theorem firstAns_yes {r : Option (Tok × Nat)} {w w' : World} {e : Ending} {t : Tok} {u : Nat} (hr : r = some (t, u)) (hb : Below w.heap.size w w') (he : e = .returned (.tuple #[.agg #[.int .i64 t.kd, .int .i64 t.n, .int .i64 t.at_, .string t.tx], .int .i64 u])) : FirstAns r w e w' := by subst hr; exact ⟨hb, he⟩
def numT (r : Option (Int × Nat)) : Option (Tok × Nat) := r.map fun p => (⟨1, p.1, 0, ⟨#[]⟩⟩, p.2)
def wordT (s : ByteArray) : Option (Tok × Nat) := if spanW (s.data.toList.drop 1) + 1 > 24 then none else some (⟨2, 0, 0, s.extract 0 (spanW (s.data.toList.drop 1) + 1)⟩, spanW (s.data.toList.drop 1) + 1)
/-- Four cells of a box written anew. -/
def set4W (w : World) (b : Nat) (v0 v1 v2 v3 : Value) : World := (((w.setCell ⟨b, 0, none⟩ v0).setCell ⟨b, 1, none⟩ v1).setCell ⟨b, 2, none⟩ v2).setCell ⟨b, 3, none⟩ v3
theorem set4W_blk {w : World} {b : Nat} {t : TypeId} {x0 x1 x2 x3 : Value} (h : Blk w b t [x0, x1, x2, x3]) (v0 v1 v2 v3 : Value) : Blk (set4W w b v0 v1 v2 v3) b t [v0, v1, v2, v3] := (((h.set 0 v0).set 1 v1).set 2 v2).set 3 v3
theorem set4W_below {w0 w : World} {b : Nat} (h : Below w0.heap.size w0 w) (hb : w0.heap.size ≤ b) (v0 v1 v2 v3 : Value) : Below w0.heap.size w0 (set4W w b v0 v1 v2 v3) :=
  (((h.setCell (p := ⟨b, 0, none⟩) hb v0).setCell (p := ⟨b, 1, none⟩) hb v1).setCell (p := ⟨b, 2, none⟩) hb v2).setCell (p := ⟨b, 3, none⟩) hb v3
theorem blk_cells4 {w : World} {b : Nat} {t : TypeId} {x0 x1 x2 x3 : Value} (h : Blk w b t [x0, x1, x2, x3]) : w.cell? ⟨b, 0, none⟩ = some x0 ∧ w.cell? ⟨b, 1, none⟩ = some x1 ∧ w.cell? ⟨b, 2, none⟩ = some x2 ∧ w.cell? ⟨b, 3, none⟩ = some x3 :=
  ⟨h.cell 0, h.cell 1, h.cell 2, h.cell 3⟩
end Go.Proofs.YtcaapbbbekggiaaGreatDoor

namespace Go.Proofs.YtcaapbbbekggiaaGreatDoor
open Go.ChangeShapes Go.WideShapes Go.ChangeAt Go.RowKit
set_option linter.unusedVariables false
set_option linter.unusedSimpArgs false
set_option maxRecDepth 100000
set_option maxHeartbeats 4000000 in
theorem lword_any (s : ByteArray) (w : World) (h0 : 0 < s.size) (hs : s.size ≤ 35184372088832) :
    Calls Tryz.prog 75 #[.string s] w (FirstAns (wordT s) w) := by
  obtain ⟨n, hn⟩ : ∃ n, s.size = n := ⟨_, rfl⟩
  have HL := Lib.hid (show s.data.toList.length = n by rw [← hn]; simp)
  have HB := Lib.hid ((Below.refl w.heap.size w).alloc (Nat.le_refl _) (.cells #[.int .i64 0, .int .i64 0, .int .i64 0, .string ⟨#[]⟩] 96))
  have HK := Lib.hid (Blk.mk (heap_alloc_new w (.cells #[.int .i64 0, .int .i64 0, .int .i64 0, .string ⟨#[]⟩] 96)) : Blk _ w.heap.size 96 [.int .i64 0, .int .i64 0, .int .i64 0, .string ⟨#[]⟩])
  have HW : Hid (wordT s = if spanW (s.data.toList.drop 1) + 1 > 24 then none else some (⟨2, 0, 0, s.extract 0 (spanW (s.data.toList.drop 1) + 1)⟩, spanW (s.data.toList.drop 1) + 1)) := Lib.hid rfl
  obtain ⟨b2, hb2⟩ : ∃ b, w.heap.size = b := ⟨_, rfl⟩
  obtain ⟨W1, hW1⟩ : ∃ W, w.alloc (.cells #[.int .i64 0, .int .i64 0, .int .i64 0, .string ⟨#[]⟩] 96) = W := ⟨_, rfl⟩
  rw [hW1] at HB HK
  rw [hb2] at HK
  have HB2 := Lib.hid hb2; have HW1 := Lib.hid hW1
  have HN := Lib.hid hn
  clear hb2 hW1
  generalize wordT s = tot at *
  go_enter Tryz.func75, Tryz.ntmps75
  go_upto_block 0 with fail
  rw [HW1.out, HB2.out]
  go_cut [4] from 5 to 16 (fun x4 wx => ∃ u : Nat, x4 = .int .i64 u ∧ spanW (s.data.toList.drop 1) + 1 = u ∧ u ≤ n ∧ wx = W1)
  case first =>
    go_wp2_with fail
    go_loopg [4] (n - 1) (fun g x4 wr => ∃ k : Nat, k + g = n ∧ x4 = .int .i64 k ∧ 1 ≤ k ∧ wr = W1 ∧ spanW (s.data.toList.drop 1) + 1 = k + spanW (s.data.toList.drop k))
    case atStart => exact ⟨1, by omega, rfl, Nat.le_refl _, rfl, by omega⟩
    case round =>
      obtain ⟨k, hkg, rfl, hk1, rfl, hsp⟩ := hrel
      have HSP := Lib.hid hsp
      clear hsp
      cases gk with
      | zero =>
        have HZ := Lib.hid (show spanW (s.data.toList.drop 1) + 1 = k from by rw [HSP.out, List.drop_eq_nil_of_le (by rw [HL.out]; omega), spanW_nil]; rfl)
        have hkn : k ≤ n := by omega
        have hkn2 : (n : Int) ≤ k := by omega
        go_wp2_with fail
        go_meet
        exact ⟨k, rfl, HZ.out, hkn, rfl⟩
      | succ g =>
        have hlt : k < n := by omega
        have hks : k < s.size := by omega
        have HDR := Lib.hid (drop_byte s.data.toList k (by rw [HL.out]; exact hlt))
        have HC := Lib.hid (textWithin_any (s[k].toNat) wr)
        have HGK : Hid (s.data.toList[k]'(by rw [HL.out]; exact hlt) = s[k]) := Lib.hid rfl
        rw [HGK.out] at HDR
        obtain ⟨b, hb⟩ : ∃ b, withinN (s[k]).toNat = b := ⟨_, rfl⟩
        rw [hb] at HC
        have HBB := Lib.hid hb
        clear hb
        cases b with
        | false =>
          have HZ := Lib.hid (show spanW (s.data.toList.drop 1) + 1 = k from by rw [HSP.out, HDR.out, spanW_no HBB.out]; rfl)
          have hkn : k ≤ n := by omega
          go_wp2_with fail
          (with_reducible refine HC.out.mono ?_); rintro e w' ⟨rfl, rfl⟩
          go_wp2_with fail
          go_meet
          exact ⟨k, rfl, HZ.out, hkn, rfl⟩
        | true =>
          have HZ := Lib.hid (show spanW (s.data.toList.drop 1) + 1 = (k + 1) + spanW (s.data.toList.drop (k + 1)) from by rw [HSP.out, HDR.out, spanW_yes HBB.out]; omega)
          go_wp2_with fail
          (with_reducible refine HC.out.mono ?_); rintro e w' ⟨rfl, rfl⟩
          go_wp2_with fail
          go_roundg g
          case measure => omega
          case rel => exact ⟨k + 1, by omega, by go_num, by omega, rfl, HZ.out⟩
  case rest =>
    obtain ⟨u, rfl, hu, hun, rfl⟩ := hcut
    have HU := Lib.hid hu
    rw [HU.out] at HW
    clear hu
    have f0 := HK.out.frozen 0
    have f1 := HK.out.frozen 1
    have f2 := HK.out.frozen 2
    have f3 := HK.out.frozen 3
    have c0 := HK.out.cell 0
    have c1 := HK.out.cell 1
    have c2 := HK.out.cell 2
    have c3 := HK.out.cell 3
    simp only [List.getElem?_cons_zero, List.getElem?_cons_succ] at c0 c1 c2 c3
    have hb2le : w.heap.size ≤ b2 := by rw [HB2.out]; exact Nat.le_refl _
    by_cases hu24 : 24 < u
    · have HE := Lib.hid (show tot = none by rw [HW.out, if_pos hu24])
      have hui : (24 : Int) < u := by omega
      have HBZ := Lib.hid (set4W_below HB.out hb2le (.int .i64 0) (.int .i64 0) (.int .i64 0) (.string ⟨#[]⟩))
      have HKZ := Lib.hid (set4W_blk HK.out (.int .i64 0) (.int .i64 0) (.int .i64 0) (.string ⟨#[]⟩))
      go_wp2_with fail
      obtain ⟨q0, q1, q2, q3⟩ := blk_cells4 HKZ.out
      unfold set4W at q0 q1 q2 q3 HBZ
      refine bodyPost_ret (v := .tuple #[.agg #[.int .i64 0, .int .i64 0, .int .i64 0, .string ⟨#[]⟩], .int .i64 0]) (by simp [results, Tryz.results75, go_sem, q0, q1, q2, q3]) rfl ?_
      exact firstAns_no HE.out HBZ.out rfl
    · have HE := Lib.hid (show tot = some (⟨2, 0, 0, s.extract 0 u⟩, u) by rw [HW.out, if_neg hu24])
      have hui : (u : Int) ≤ 24 := by omega
      have hus : u ≤ s.size := by omega
      have huz : (0 : Int) ≤ u := by omega
      have HBZ := Lib.hid (set4W_below HB.out hb2le (.int .i64 2) (.int .i64 0) (.int .i64 0) (.string (s.extract 0 u)))
      have HKZ := Lib.hid (set4W_blk HK.out (.int .i64 2) (.int .i64 0) (.int .i64 0) (.string (s.extract 0 u)))
      go_wp2_with fail
      obtain ⟨q0, q1, q2, q3⟩ := blk_cells4 HKZ.out
      unfold set4W at q0 q1 q2 q3 HBZ
      refine bodyPost_ret (v := .tuple #[.agg #[.int .i64 2, .int .i64 0, .int .i64 0, .string (s.extract 0 u)], .int .i64 u]) (by simp [results, Tryz.results75, go_sem, q0, q1, q2, q3]) rfl ?_
      exact firstAns_yes HE.out HBZ.out rfl
end Go.Proofs.YtcaapbbbekggiaaGreatDoor

namespace Go.Proofs.YtcaapbbbekggiaaGreatDoor
open Go.ChangeShapes Go.WideShapes Go.ChangeAt Go.RowKit
set_option linter.unusedVariables false
set_option linter.unusedSimpArgs false
set_option maxRecDepth 100000
theorem digit_range {c : Nat} (h : digitN c = true) : 48 ≤ c ∧ c ≤ 57 := by simpa [digitN] using h
set_option maxHeartbeats 4000000 in
theorem lnumber_any (s : ByteArray) (w : World) (h0 : 0 < s.size) (hs : s.size ≤ 35184372088832) :
    Calls Tryz.prog 74 #[.string s] w (FirstAns (numT (numF s.data.toList)) w) := by
  obtain ⟨m, hm⟩ : ∃ n, s.size = n := ⟨_, rfl⟩
  have HL := Lib.hid (show s.data.toList.length = m by rw [← hm]; simp)
  have HB := Lib.hid ((Below.refl w.heap.size w).alloc (Nat.le_refl _) (.cells #[.int .i64 0, .int .i64 0, .int .i64 0, .string ⟨#[]⟩] 96))
  have HK := Lib.hid (Blk.mk (heap_alloc_new w (.cells #[.int .i64 0, .int .i64 0, .int .i64 0, .string ⟨#[]⟩] 96)) : Blk _ w.heap.size 96 [.int .i64 0, .int .i64 0, .int .i64 0, .string ⟨#[]⟩])
  obtain ⟨below, hbe⟩ : ∃ b, ((s[0]'h0).toNat == 45) = b := ⟨_, rfl⟩
  have hhd : (s.data.toList.head? = some 45) ↔ below = true := by
    rw [← hbe, beq_iff_eq]
    have h1 : s.data.toList.head? = some (s[0]'h0) := by
      rw [List.head?_eq_getElem?, List.getElem?_eq_getElem (by simpa using h0)]; rfl
    rw [h1]
    constructor
    · intro h; injection h with h; rw [h]; rfl
    · intro h; congr 1; exact UInt8.toNat_inj.1 (by rw [h]; rfl)
  obtain ⟨k0, hk0⟩ : ∃ k0 : Nat, (if below = true then 1 else 0) = k0 := ⟨_, rfl⟩
  have HNF : Hid (numF s.data.toList = if below = true then numAt k0 0 (s.data.toList.drop k0) else match numAt k0 0 (s.data.toList.drop k0) with | none => none | some (n, u) => if n = -9223372036854775808 then none else some (-n, u)) := Lib.hid (by
    unfold numF
    cases below with
    | true => rw [if_pos (hhd.2 rfl), if_pos rfl, ← hk0]; rfl
    | false => rw [if_neg (fun h => by have := hhd.1 h; cases this), if_neg (by simp), ← hk0]; rfl)
  obtain ⟨tot, htot⟩ : ∃ tot, numT (numF s.data.toList) = tot := ⟨_, rfl⟩
  have HTOT := Lib.hid htot.symm
  rw [htot]
  obtain ⟨tot0, htot0⟩ : ∃ tot0, numAt k0 0 (s.data.toList.drop k0) = tot0 := ⟨_, rfl⟩
  have HT0 := Lib.hid htot0.symm
  rw [htot0] at HNF
  have t0 : (((s[0]'h0).toNat : Int) == 45) = below := by
    rw [← hbe]
    by_cases h : (s[0]'h0).toNat = 45
    · rw [h]; rfl
    · rw [beq_eq_false_iff_ne.2 h, beq_eq_false_iff_ne.2 (by omega)]
  have HK0 := Lib.hid hk0
  have hk1 : k0 ≤ 1 := by rw [← hk0]; split <;> omega
  obtain ⟨b2, hb2⟩ : ∃ b, w.heap.size = b := ⟨_, rfl⟩
  obtain ⟨W1, hW1⟩ : ∃ W, w.alloc (.cells #[.int .i64 0, .int .i64 0, .int .i64 0, .string ⟨#[]⟩] 96) = W := ⟨_, rfl⟩
  rw [hW1] at HB HK
  rw [hb2] at HK
  have HB2 := Lib.hid hb2; have HW1 := Lib.hid hW1
  have hb2le : w.heap.size ≤ b2 := by rw [hb2]; exact Nat.le_refl _
  obtain ⟨f0, f1, f2, f3⟩ : W1.frozen? ⟨b2, 0, none⟩ = false ∧ W1.frozen? ⟨b2, 1, none⟩ = false ∧ W1.frozen? ⟨b2, 2, none⟩ = false ∧ W1.frozen? ⟨b2, 3, none⟩ = false := ⟨HK.out.frozen 0, HK.out.frozen 1, HK.out.frozen 2, HK.out.frozen 3⟩
  obtain ⟨c0, c1, c2, c3⟩ := blk_cells4 HK.out
  clear hb2 hW1 hbe hhd htot htot0 hk0
  go_enter Tryz.func74, Tryz.ntmps74
  go_upto_region 3 with fail
  rw [HW1.out, HB2.out]
  clear t0
  go_upto_if 11 with fail
  go_cut [4] (fun x4 wx => x4 = .int .i64 k0 ∧ wx = W1)
  case first =>
    cases below with
    | true =>
      have hk := HK0.out
      have hk' : k0 = 1 := by rw [← hk]; rfl
      go_wp2_with fail
      go_meet
      exact ⟨by rw [hk']; rfl, rfl⟩
    | false =>
      have hk := HK0.out
      have hk' : k0 = 0 := by rw [← hk]; rfl
      go_wp2_with fail
      go_meet
      exact ⟨by rw [hk']; rfl, rfl⟩
  case rest =>
    obtain ⟨rfl, rfl⟩ := hcut
    clear HK0
    go_wp2_with fail
    go_loopg [4, 6] (m - k0) (fun g x4 x6 wr => ∃ (k : Nat) (n : Int), k + g = m ∧ x4 = .int .i64 k ∧ x6 = .int .i64 n ∧ wr = wc ∧ Hid (tot0 = numAt k n (s.data.toList.drop k)) ∧ Hid (-9223372036854775808 ≤ n) ∧ Hid (n ≤ 0))
    case atStart => exact ⟨k0, 0, by omega, rfl, rfl, rfl, HT0, Lib.hid (by omega), Lib.hid (by omega)⟩
    case round =>
      obtain ⟨k, n, hkg, rfl, rfl, rfl, HT, HLO, HHI⟩ := hrel
      clear HT0
      cases gk with
      | zero =>
        have hkm : k = m := by omega
        have HS := Lib.hid (show tot0 = some (n, k) by rw [HT.out, List.drop_eq_nil_of_le (by rw [HL.out]; omega), numAt_end])
        have hkm2 : (m : Int) ≤ k := by omega
        clear hkm
        have hlo : True := trivial
        have hhi : True := trivial
        clear HT hlo hhi
        cases below with
        | true =>
          have HE := Lib.hid (show tot = some (⟨1, n, 0, ⟨#[]⟩⟩, k) by rw [HTOT.out, HNF.out, if_pos rfl, HS.out]; rfl)
          have HBZ := Lib.hid (set4W_below HB.out hb2le (.int .i64 1) (.int .i64 n) (.int .i64 0) (.string ⟨#[]⟩))
          have HKZ := Lib.hid (set4W_blk HK.out (.int .i64 1) (.int .i64 n) (.int .i64 0) (.string ⟨#[]⟩))
          go_wp2_with fail
          obtain ⟨q0, q1, q2, q3⟩ := blk_cells4 HKZ.out
          unfold set4W at q0 q1 q2 q3 HBZ
          refine bodyPost_ret (v := .tuple #[.agg #[.int .i64 1, .int .i64 n, .int .i64 0, .string ⟨#[]⟩], .int .i64 k]) (by simp [results, Tryz.results74, go_sem, q0, q1, q2, q3]) rfl ?_
          exact firstAns_yes HE.out HBZ.out rfl
        | false =>
          by_cases hmin : n = -9223372036854775808
          · have HE := Lib.hid (show tot = none by rw [HTOT.out, HNF.out, if_neg (by simp), HS.out]; simp only; rw [if_pos hmin]; rfl)
            have t9 : (n == -9223372036854775808) = true := by rw [hmin]; rfl
            clear hmin
            have HBZ := Lib.hid (set4W_below HB.out hb2le (.int .i64 0) (.int .i64 0) (.int .i64 0) (.string ⟨#[]⟩))
            have HKZ := Lib.hid (set4W_blk HK.out (.int .i64 0) (.int .i64 0) (.int .i64 0) (.string ⟨#[]⟩))
            go_wp2_with fail
            obtain ⟨q0, q1, q2, q3⟩ := blk_cells4 HKZ.out
            unfold set4W at q0 q1 q2 q3 HBZ
            refine bodyPost_ret (v := .tuple #[.agg #[.int .i64 0, .int .i64 0, .int .i64 0, .string ⟨#[]⟩], .int .i64 0]) (by simp [results, Tryz.results74, go_sem, q0, q1, q2, q3]) rfl ?_
            exact firstAns_no HE.out HBZ.out rfl
          · have HE := Lib.hid (show tot = some (⟨1, -n, 0, ⟨#[]⟩⟩, k) by rw [HTOT.out, HNF.out, if_neg (by simp), HS.out]; simp only; rw [if_neg hmin]; rfl)
            have t9 : (n == -9223372036854775808) = false := by rw [beq_eq_false_iff_ne]; exact hmin
            have t8 : IntKind.i64.wrap (-n) = -n := by have h1 := HLO.out; have h2 := HHI.out; rw [IntKind.wrap_i64]; omega
            clear hmin
            have HBZ := Lib.hid (set4W_below HB.out hb2le (.int .i64 1) (.int .i64 (-n)) (.int .i64 0) (.string ⟨#[]⟩))
            have HKZ := Lib.hid (set4W_blk HK.out (.int .i64 1) (.int .i64 (-n)) (.int .i64 0) (.string ⟨#[]⟩))
            go_wp2_with fail
            obtain ⟨q0, q1, q2, q3⟩ := blk_cells4 HKZ.out
            unfold set4W at q0 q1 q2 q3 HBZ
            refine bodyPost_ret (v := .tuple #[.agg #[.int .i64 1, .int .i64 (-n), .int .i64 0, .string ⟨#[]⟩], .int .i64 k]) (by simp [results, Tryz.results74, go_sem, q0, q1, q2, q3]) rfl ?_
            exact firstAns_yes HE.out HBZ.out rfl
      | succ g =>
        have hlt : k < m := by omega
        have hks : k < s.size := by omega
        have HDR := Lib.hid (drop_byte s.data.toList k (by rw [HL.out]; exact hlt))
        have HGK : Hid (s.data.toList[k]'(by rw [HL.out]; exact hlt) = s[k]) := Lib.hid rfl
        rw [HGK.out] at HDR
        have HC := Lib.hid (digit_any (s[k].toNat) wr)
        obtain ⟨b, hb⟩ : ∃ b, digitN (s[k]).toNat = b := ⟨_, rfl⟩
        rw [hb] at HC
        have HBB := Lib.hid hb
        clear hb
        cases b with
        | false =>
          have HS := Lib.hid (show tot0 = some (n, k) by rw [HT.out, HDR.out, numAt_stop HBB.out])
          have hlo : True := trivial
          have hhi : True := trivial
          go_wp2_with fail
          (with_reducible refine HC.out.mono ?_); rintro e w' ⟨rfl, rfl⟩
          clear HT hlo hhi
          cases below with
          | true =>
            have HE := Lib.hid (show tot = some (⟨1, n, 0, ⟨#[]⟩⟩, k) by rw [HTOT.out, HNF.out, if_pos rfl, HS.out]; rfl)
            have HBZ := Lib.hid (set4W_below HB.out hb2le (.int .i64 1) (.int .i64 n) (.int .i64 0) (.string ⟨#[]⟩))
            have HKZ := Lib.hid (set4W_blk HK.out (.int .i64 1) (.int .i64 n) (.int .i64 0) (.string ⟨#[]⟩))
            go_wp2_with fail
            obtain ⟨q0, q1, q2, q3⟩ := blk_cells4 HKZ.out
            unfold set4W at q0 q1 q2 q3 HBZ
            refine bodyPost_ret (v := .tuple #[.agg #[.int .i64 1, .int .i64 n, .int .i64 0, .string ⟨#[]⟩], .int .i64 k]) (by simp [results, Tryz.results74, go_sem, q0, q1, q2, q3]) rfl ?_
            exact firstAns_yes HE.out HBZ.out rfl
          | false =>
            by_cases hmin : n = -9223372036854775808
            · have HE := Lib.hid (show tot = none by rw [HTOT.out, HNF.out, if_neg (by simp), HS.out]; simp only; rw [if_pos hmin]; rfl)
              have t9 : (n == -9223372036854775808) = true := by rw [hmin]; rfl
              clear hmin
              have HBZ := Lib.hid (set4W_below HB.out hb2le (.int .i64 0) (.int .i64 0) (.int .i64 0) (.string ⟨#[]⟩))
              have HKZ := Lib.hid (set4W_blk HK.out (.int .i64 0) (.int .i64 0) (.int .i64 0) (.string ⟨#[]⟩))
              go_wp2_with fail
              obtain ⟨q0, q1, q2, q3⟩ := blk_cells4 HKZ.out
              unfold set4W at q0 q1 q2 q3 HBZ
              refine bodyPost_ret (v := .tuple #[.agg #[.int .i64 0, .int .i64 0, .int .i64 0, .string ⟨#[]⟩], .int .i64 0]) (by simp [results, Tryz.results74, go_sem, q0, q1, q2, q3]) rfl ?_
              exact firstAns_no HE.out HBZ.out rfl
            · have HE := Lib.hid (show tot = some (⟨1, -n, 0, ⟨#[]⟩⟩, k) by rw [HTOT.out, HNF.out, if_neg (by simp), HS.out]; simp only; rw [if_neg hmin]; rfl)
              have t9 : (n == -9223372036854775808) = false := by rw [beq_eq_false_iff_ne]; exact hmin
              have t8 : IntKind.i64.wrap (-n) = -n := by have h1 := HLO.out; have h2 := HHI.out; rw [IntKind.wrap_i64]; omega
              clear hmin
              have HBZ := Lib.hid (set4W_below HB.out hb2le (.int .i64 1) (.int .i64 (-n)) (.int .i64 0) (.string ⟨#[]⟩))
              have HKZ := Lib.hid (set4W_blk HK.out (.int .i64 1) (.int .i64 (-n)) (.int .i64 0) (.string ⟨#[]⟩))
              go_wp2_with fail
              obtain ⟨q0, q1, q2, q3⟩ := blk_cells4 HKZ.out
              unfold set4W at q0 q1 q2 q3 HBZ
              refine bodyPost_ret (v := .tuple #[.agg #[.int .i64 1, .int .i64 (-n), .int .i64 0, .string ⟨#[]⟩], .int .i64 k]) (by simp [results, Tryz.results74, go_sem, q0, q1, q2, q3]) rfl ?_
              exact firstAns_yes HE.out HBZ.out rfl
        | true =>
          obtain ⟨hd1, hd2⟩ := digit_range HBB.out
          obtain ⟨dg, hdg⟩ : ∃ dg : Nat, s[k].toNat = 48 + dg := ⟨s[k].toNat - 48, by omega⟩
          have hdg9 : dg ≤ 9 := by omega
          obtain ⟨td, htd, htd1, htd2, htd3⟩ := tdiv_min (dg : Int) (by omega) (by omega)
          have z0 : IntKind.u8.wrap ((s[k].toNat : Int) - 48) = dg := by rw [hdg]; simp [IntKind.wrap, IntKind.bits, IntKind.signed]; omega
          have HDG := Lib.hid (show ((s[k].toNat : Int) - 48) = dg by omega)
          have z1 : IntKind.i64.wrap (-9223372036854775808 + (dg : Int)) = -9223372036854775808 + (dg : Int) := by rw [IntKind.wrap_i64]; omega
          have z2 : IntKind.i64.wrap td = td := by rw [IntKind.wrap_i64]; omega
          by_cases hov : n < td
          · have HS := Lib.hid (show tot0 = none by rw [HT.out, HDR.out, numAt_over HBB.out (by rw [HDG.out, htd]; exact hov)])
            have HE := Lib.hid (show tot = none by
              rw [HTOT.out, HNF.out, HS.out]
              cases below <;> rfl)
            clear htd1 htd2 htd3 hdg hd1 hd2 HT HLO HHI
            go_wp2_with fail
            (with_reducible refine HC.out.mono ?_); rintro e w' ⟨rfl, rfl⟩
            have HBZ := Lib.hid (set4W_below HB.out hb2le (.int .i64 0) (.int .i64 0) (.int .i64 0) (.string ⟨#[]⟩))
            have HKZ := Lib.hid (set4W_blk HK.out (.int .i64 0) (.int .i64 0) (.int .i64 0) (.string ⟨#[]⟩))
            go_wp2_with fail
            obtain ⟨q0, q1, q2, q3⟩ := blk_cells4 HKZ.out
            unfold set4W at q0 q1 q2 q3 HBZ
            refine bodyPost_ret (v := .tuple #[.agg #[.int .i64 0, .int .i64 0, .int .i64 0, .string ⟨#[]⟩], .int .i64 0]) (by simp [results, Tryz.results74, go_sem, q0, q1, q2, q3]) rfl ?_
            exact firstAns_no HE.out HBZ.out rfl
          · have HN := Lib.hid (show tot0 = numAt (k + 1) (n * 10 - (dg : Int)) (s.data.toList.drop (k + 1)) by rw [HT.out, HDR.out, numAt_next HBB.out (by rw [HDG.out, htd]; exact hov), HDG.out])
            have z3 : IntKind.i64.wrap (n * 10) = n * 10 := by have h1 := HLO.out; have h2 := HHI.out; rw [IntKind.wrap_i64]; omega
            have z4 : IntKind.i64.wrap (n * 10 - (dg : Int)) = n * 10 - (dg : Int) := by have h1 := HLO.out; have h2 := HHI.out; rw [IntKind.wrap_i64]; omega
            have HLO2 := Lib.hid (show -9223372036854775808 ≤ n * 10 - (dg : Int) by omega)
            have HHI2 := Lib.hid (show n * 10 - (dg : Int) ≤ 0 by have h2 := HHI.out; omega)
            have hov2 : td ≤ n := by omega
            clear htd1 htd2 htd3 hdg hd1 hd2 HT HLO HHI hov
            go_wp2_with fail
            (with_reducible refine HC.out.mono ?_); rintro e w' ⟨rfl, rfl⟩
            go_wp2_with fail
            go_roundg g
            case measure => omega
            case rel => exact ⟨k + 1, n * 10 - (dg : Int), by omega, by go_num, rfl, rfl, HN, HLO2, HHI2⟩
end Go.Proofs.YtcaapbbbekggiaaGreatDoor

namespace Go.Proofs.YtcaapbbbekggiaaGreatDoor
open Go.ChangeShapes Go.WideShapes Go.ChangeAt Go.RowKit
set_option linter.unusedVariables false
set_option linter.unusedSimpArgs false
set_option maxRecDepth 100000
def quotedT (l : List UInt8) : Option (Tok × Nat) := (unq (l.drop 1) []).map fun p => (⟨3, 0, 0, ⟨p.1.toArray⟩⟩, l.length - p.2.length)
set_option maxHeartbeats 8000000 in
theorem lquoted_any (s : ByteArray) (w : World) (h0 : 0 < s.size) (hs : s.size ≤ 35184372088832) :
    Calls Tryz.prog 76 #[.string s] w (FirstAns (quotedT s.data.toList) w) := by
  obtain ⟨i0, hi0, hz0, hz1, hz2⟩ := info_parts Tryz.infoU8x
  have HRS := Lib.hid (show s.data.toList.length = s.size by simp)
  have HB0 := Lib.hid ((Below.refl w.heap.size w).alloc (Nat.le_refl _) (.cells #[.int .i64 0, .int .i64 0, .int .i64 0, .string ⟨#[]⟩] 96))
  have HK0 := Lib.hid (Blk.mk (heap_alloc_new w (.cells #[.int .i64 0, .int .i64 0, .int .i64 0, .string ⟨#[]⟩] 96)) : Blk _ w.heap.size 96 [.int .i64 0, .int .i64 0, .int .i64 0, .string ⟨#[]⟩])
  obtain ⟨r, hr⟩ : ∃ r, s.data.toList = r := ⟨_, rfl⟩
  rw [hr] at HRS
  rw [hr]
  have HR := Lib.hid hr
  obtain ⟨tot, htot⟩ : ∃ tot, quotedT r = tot := ⟨_, rfl⟩
  have HTOT : Hid (tot = (unq (r.drop 1) []).map fun p => (⟨3, 0, 0, ⟨p.1.toArray⟩⟩, r.length - p.2.length)) := Lib.hid htot.symm
  rw [htot]
  obtain ⟨t0, ht0⟩ : ∃ t, unq (r.drop 1) [] = t := ⟨_, rfl⟩
  rw [ht0] at HTOT
  have HU := Lib.hid ht0.symm
  obtain ⟨b2, hb2⟩ : ∃ b, w.heap.size = b := ⟨_, rfl⟩
  obtain ⟨W1, hW1⟩ : ∃ W, w.alloc (.cells #[.int .i64 0, .int .i64 0, .int .i64 0, .string ⟨#[]⟩] 96) = W := ⟨_, rfl⟩
  rw [hW1] at HB0 HK0
  rw [hb2] at HK0
  have HB2 := Lib.hid hb2; have HW1 := Lib.hid hW1
  have hb2le : w.heap.size ≤ b2 := by rw [hb2]; exact Nat.le_refl _
  clear hb2 hW1 htot ht0 hr
  go_enter Tryz.func76, Tryz.ntmps76
  go_upto_block 0 with fail
  rw [HW1.out, HB2.out]
  go_wp2_with fail
  go_loopg [4, 5] (s.size - 1) (fun g x4 x5 wr => ∃ (k : Nat) (acc : List UInt8) (A : Option Addr) (c : Nat), k + g = s.size ∧ x5 = .int .i64 k ∧ x4 = .slice A acc.length c ∧ wr.ownsRow (b2 + 1) 5 1 (.slice A acc.length c) acc.length (Lib.byteCells acc) ∧ Blk wr b2 96 [.int .i64 0, .int .i64 0, .int .i64 0, .string ⟨#[]⟩] ∧ Below w.heap.size w wr ∧ acc.length ≤ 25 ∧ t0 = unq (r.drop k) acc)
  case atStart => exact ⟨1, [], none, 0, by omega, rfl, rfl, own_nil _ _ _ _, HK0.out, HB0.out, by simp, HU.out⟩
  case round =>
    obtain ⟨k, acc, A, c, hkg, rfl, rfl, hown, hblk, hbel, hac, htot⟩ := hrel
    have HO := Lib.hid hown; have HB := Lib.hid hbel; have HT := Lib.hid htot; have HK := Lib.hid hblk
    have hws := hbel.size
    clear hown hbel htot hblk HU HB0 HK0
    cases gk with
    | zero =>
      have hkz : s.size ≤ k := by omega
      have HN : Hid (tot = none) := Lib.hid (by rw [HTOT.out, HT.out, unq_over (by rw [HRS.out]; exact hkz)]; rfl)
      have hkz2 : (s.size : Int) ≤ k := by omega
      have HBZ := Lib.hid (set4W_below HB.out hb2le (.int .i64 0) (.int .i64 0) (.int .i64 0) (.string ⟨#[]⟩))
      have HKZ := Lib.hid (set4W_blk HK.out (.int .i64 0) (.int .i64 0) (.int .i64 0) (.string ⟨#[]⟩))
      obtain ⟨f0, f1, f2, f3⟩ : wr.frozen? ⟨b2, 0, none⟩ = false ∧ wr.frozen? ⟨b2, 1, none⟩ = false ∧ wr.frozen? ⟨b2, 2, none⟩ = false ∧ wr.frozen? ⟨b2, 3, none⟩ = false := ⟨HK.out.frozen 0, HK.out.frozen 1, HK.out.frozen 2, HK.out.frozen 3⟩
      obtain ⟨c0, c1, c2, c3⟩ := blk_cells4 HK.out
      go_wp2_with fail
      obtain ⟨q0, q1, q2, q3⟩ := blk_cells4 HKZ.out
      unfold set4W at q0 q1 q2 q3 HBZ
      refine bodyPost_ret (v := .tuple #[.agg #[.int .i64 0, .int .i64 0, .int .i64 0, .string ⟨#[]⟩], .int .i64 0]) (by simp [results, Tryz.results76, go_sem, q0, q1, q2, q3]) rfl ?_
      exact firstAns_no HN.out HBZ.out rfl
    | succ g =>
      have hlt : k < s.size := by omega
      by_cases ha : acc.length ≤ 24
      · have hklr : k < r.length := by rw [HRS.out]; exact hlt
        have HG : Hid (s[k] = r[k]) := Lib.hid (by have := HR.out; subst this; rfl)
        by_cases h34 : r[k] = 34
        · have HN : Hid (tot = some (⟨3, 0, 0, ⟨acc.toArray⟩⟩, k + 1)) := Lib.hid (by
            rw [HTOT.out, HT.out, unq_end hklr ha h34]
            show some ((⟨3, 0, 0, ⟨acc.toArray⟩⟩ : Tok), r.length - (r.drop (k + 1)).length) = some (⟨3, 0, 0, ⟨acc.toArray⟩⟩, k + 1)
            rw [List.length_drop, show r.length - (r.length - (k + 1)) = k + 1 by omega])
          have t1 : ((s[k].toNat : Int) == 34) = true := by rw [HG.out, h34]; rfl
          have HC0 := conv_own wr HO.out rfl
          clear h34 HT
          have HBZ := Lib.hid (set4W_below HB.out hb2le (.int .i64 3) (.int .i64 0) (.int .i64 0) (.string ⟨acc.toArray⟩))
          have HKZ := Lib.hid (set4W_blk HK.out (.int .i64 3) (.int .i64 0) (.int .i64 0) (.string ⟨acc.toArray⟩))
          obtain ⟨f0, f1, f2, f3⟩ : wr.frozen? ⟨b2, 0, none⟩ = false ∧ wr.frozen? ⟨b2, 1, none⟩ = false ∧ wr.frozen? ⟨b2, 2, none⟩ = false ∧ wr.frozen? ⟨b2, 3, none⟩ = false := ⟨HK.out.frozen 0, HK.out.frozen 1, HK.out.frozen 2, HK.out.frozen 3⟩
          obtain ⟨c0, c1, c2, c3⟩ := blk_cells4 HK.out
          go_wp2_with fail
          obtain ⟨q0, q1, q2, q3⟩ := blk_cells4 HKZ.out
          unfold set4W at q0 q1 q2 q3 HBZ
          refine bodyPost_ret (v := .tuple #[.agg #[.int .i64 3, .int .i64 0, .int .i64 0, .string ⟨acc.toArray⟩], .int .i64 ((k + 1 : Nat) : Int)]) (by simp [results, Tryz.results76, go_sem, q0, q1, q2, q3]) rfl ?_
          exact firstAns_yes HN.out HBZ.out rfl
        · have t1 : ((s[k].toNat : Int) == 34) = false := by
            rw [HG.out, beq_eq_false_iff_ne]
            intro e
            exact h34 (UInt8.toNat_inj.1 (by have h : r[k].toNat = 34 := (by omega); rw [h]; rfl))
          by_cases h92 : r[k] = 92
          · have t2 : ((s[k].toNat : Int) == 92) = true := by rw [HG.out, h92]; rfl
            obtain ⟨j, hjk⟩ : ∃ j, j = k + 1 := ⟨_, rfl⟩
            have hj : (k : Int) + 1 = j := by omega
            have HJ := Lib.hid hjk
            by_cases hl : k + 1 = r.length
            · have HN : Hid (tot = none) := Lib.hid (by rw [HTOT.out, HT.out.trans (unq_last hl ha h92)]; rfl)
              have t3 : ((j : Int) == s.size) = true := by rw [beq_iff_eq]; have := HRS.out; omega
              clear HT h34 h92 hl hjk
              have HBZ := Lib.hid (set4W_below HB.out hb2le (.int .i64 0) (.int .i64 0) (.int .i64 0) (.string ⟨#[]⟩))
              have HKZ := Lib.hid (set4W_blk HK.out (.int .i64 0) (.int .i64 0) (.int .i64 0) (.string ⟨#[]⟩))
              obtain ⟨f0, f1, f2, f3⟩ : wr.frozen? ⟨b2, 0, none⟩ = false ∧ wr.frozen? ⟨b2, 1, none⟩ = false ∧ wr.frozen? ⟨b2, 2, none⟩ = false ∧ wr.frozen? ⟨b2, 3, none⟩ = false := ⟨HK.out.frozen 0, HK.out.frozen 1, HK.out.frozen 2, HK.out.frozen 3⟩
              obtain ⟨c0, c1, c2, c3⟩ := blk_cells4 HK.out
              go_wp2_with fail
              obtain ⟨q0, q1, q2, q3⟩ := blk_cells4 HKZ.out
              unfold set4W at q0 q1 q2 q3 HBZ
              refine bodyPost_ret (v := .tuple #[.agg #[.int .i64 0, .int .i64 0, .int .i64 0, .string ⟨#[]⟩], .int .i64 0]) (by simp [results, Tryz.results76, go_sem, q0, q1, q2, q3]) rfl ?_
              exact firstAns_no HN.out HBZ.out rfl
            · have hk1 : k + 1 < r.length := by omega
              have hjR : j < s.size := by have := HRS.out; omega
              have t3 : ((j : Int) == s.size) = false := by rw [beq_eq_false_iff_ne]; omega
              have HE := Lib.hid (escaped_any (s[j].toNat) wr)
              have HGJ : Hid (s[j] = r[k + 1]) := Lib.hid (by subst hjk; have := HR.out; subst this; rfl)
              obtain ⟨q, hq⟩ : ∃ q, escN s[j].toNat = q := ⟨_, rfl⟩
              have HQ : Hid (escB r[k + 1] = q) := Lib.hid (by rw [← hq, HGJ.out]; rfl)
              rw [hq] at HE
              clear hq hjk
              cases q with
              | false =>
                have HN : Hid (tot = none) := Lib.hid (by rw [HTOT.out, HT.out.trans (unq_bad hk1 ha h92 HQ.out)]; rfl)
                clear HT h34 h92 hl
                have HBZ := Lib.hid (set4W_below HB.out hb2le (.int .i64 0) (.int .i64 0) (.int .i64 0) (.string ⟨#[]⟩))
                have HKZ := Lib.hid (set4W_blk HK.out (.int .i64 0) (.int .i64 0) (.int .i64 0) (.string ⟨#[]⟩))
                obtain ⟨f0, f1, f2, f3⟩ : wr.frozen? ⟨b2, 0, none⟩ = false ∧ wr.frozen? ⟨b2, 1, none⟩ = false ∧ wr.frozen? ⟨b2, 2, none⟩ = false ∧ wr.frozen? ⟨b2, 3, none⟩ = false := ⟨HK.out.frozen 0, HK.out.frozen 1, HK.out.frozen 2, HK.out.frozen 3⟩
                obtain ⟨c0, c1, c2, c3⟩ := blk_cells4 HK.out
                go_wp2_with fail
                refine HE.out.mono ?_; rintro e w' ⟨rfl, rfl⟩
                go_wp2_with fail
                obtain ⟨q0, q1, q2, q3⟩ := blk_cells4 HKZ.out
                unfold set4W at q0 q1 q2 q3 HBZ
                refine bodyPost_ret (v := .tuple #[.agg #[.int .i64 0, .int .i64 0, .int .i64 0, .string ⟨#[]⟩], .int .i64 0]) (by simp [results, Tryz.results76, go_sem, q0, q1, q2, q3]) rfl ?_
                exact firstAns_no HN.out HBZ.out rfl
              | true =>
                have HT2 : Hid (t0 = unq (r.drop (k + 2)) (acc ++ [s[j]])) := Lib.hid (by rw [HGJ.out]; exact HT.out.trans (unq_esc hk1 ha h92 HQ.out))
                have hj2 : (j : Int) + 1 = ((k + 2 : Nat) : Int) := by have := HJ.out; omega
                have HJ2 := Lib.hid hj2
                clear HT h34 h92 hl HQ HGJ hj2
                go_wp2_with fail
                refine HE.out.mono ?_; rintro e w' ⟨rfl, rfl⟩
                have HX := Lib.hid (show Sees (wr.alloc (.cells #[.int .u8 (s[j].toNat : Int)] 5)) (wr.alloc (.cells #[.int .u8 (s[j].toNat : Int)] 5)).heap.size 1 (some ⟨wr.heap.size, 0, none⟩) 1 (Lib.byteCells [s[j]]) from (Blk.mk (heap_alloc_new wr _) : Blk _ wr.heap.size 5 [.int .u8 (s[j].toNat : Int)]).sees rfl (List.prefix_refl _))
                have HOA := Lib.hid (HO.out.alloc (.cells #[.int .u8 (s[j].toNat : Int)] 5))
                have HBA := Lib.hid (HB.out.alloc hws (.cells #[.int .u8 (s[j].toNat : Int)] 5))
                have HKA := Lib.hid (HK.out.alloc (.cells #[.int .u8 (s[j].toNat : Int)] 5))
                have hbv : ∀ g, (Value.slice A acc.length c).ownBlock = some g → b2 + 1 ≤ g := fun g hg => (HO.out.lt g hg).1
                have HBV := Lib.hid hbv
                have hbl := HKA.out.lt
                clear HO HB HK hbv
                go_wp2_with (at_builtin; refine wpList_append_at rfl (.tmp 43) (.tmp 47) 50 rfl (b2 + 1) 5 i0 (.int .u8 0) 1 1 Tryz.underlying50 hi0 hz0 hz1 hz2 rfl (by decide) _ acc.length (Lib.byteCells acc) rfl HOA.out _ _ 1 1 (Lib.byteCells [s[j]]) rfl HX.out (byteCells_one' _) (by unfold maxLen; omega) (by omega) hbl ?_)
                intro v3 w3 hown3 hgr3 hwh3
                obtain ⟨A3, c3, rfl, hc3, hc4⟩ := own_slice hown3
                rw [← Lib.byteCells_append] at hown3
                have HO3 := Lib.hid hown3
                have HB3 := Lib.hid (HBA.out.grown hgr3 HBA.out.size (fun g hg => by have := HBV.out g hg; omega))
                have HK3 := Lib.hid (HKA.out.grown hgr3 (fun e => by have := HBV.out b2 e.symm; omega))
                clear hown3 hgr3 hwh3 HOA HX HBA HBV HKA hbl
                go_wp2_with fail
                go_roundg (g - 1)
                case measure => omega
                case rel => exact ⟨k + 2, acc ++ [s[j]], A3, c3, by omega, (by rw [HJ2.out]), by rw [List.length_append, List.length_singleton], by rw [List.length_append, List.length_singleton]; exact HO3.out, HK3.out, HB3.out, by rw [List.length_append, List.length_singleton]; omega, HT2.out⟩
          · have t2 : ((s[k].toNat : Int) == 92) = false := by
              rw [HG.out, beq_eq_false_iff_ne]
              intro e
              exact h92 (UInt8.toNat_inj.1 (by have h : r[k].toNat = 92 := (by omega); rw [h]; rfl))
            have HT2 : Hid (t0 = unq (r.drop (k + 1)) (acc ++ [s[k]])) := Lib.hid (by rw [HG.out]; exact HT.out.trans (unq_step hklr ha h34 h92))
            clear HT h34 h92
            have HX := Lib.hid (show Sees (wr.alloc (.cells #[.int .u8 (s[k].toNat : Int)] 5)) (wr.alloc (.cells #[.int .u8 (s[k].toNat : Int)] 5)).heap.size 1 (some ⟨wr.heap.size, 0, none⟩) 1 (Lib.byteCells [s[k]]) from (Blk.mk (heap_alloc_new wr _) : Blk _ wr.heap.size 5 [.int .u8 (s[k].toNat : Int)]).sees rfl (List.prefix_refl _))
            have HOA := Lib.hid (HO.out.alloc (.cells #[.int .u8 (s[k].toNat : Int)] 5))
            have HBA := Lib.hid (HB.out.alloc hws (.cells #[.int .u8 (s[k].toNat : Int)] 5))
            have HKA := Lib.hid (HK.out.alloc (.cells #[.int .u8 (s[k].toNat : Int)] 5))
            have hbv : ∀ g, (Value.slice A acc.length c).ownBlock = some g → b2 + 1 ≤ g := fun g hg => (HO.out.lt g hg).1
            have HBV := Lib.hid hbv
            have hbl := HKA.out.lt
            clear HO HB HK hbv
            go_wp2_with (at_builtin; refine wpList_append_at rfl (.tmp 43) (.tmp 47) 50 rfl (b2 + 1) 5 i0 (.int .u8 0) 1 1 Tryz.underlying50 hi0 hz0 hz1 hz2 rfl (by decide) _ acc.length (Lib.byteCells acc) rfl HOA.out _ _ 1 1 (Lib.byteCells [s[k]]) rfl HX.out (byteCells_one' _) (by unfold maxLen; omega) (by omega) hbl ?_)
            intro v3 w3 hown3 hgr3 hwh3
            obtain ⟨A3, c3, rfl, hc3, hc4⟩ := own_slice hown3
            rw [← Lib.byteCells_append] at hown3
            have HO3 := Lib.hid hown3
            have HB3 := Lib.hid (HBA.out.grown hgr3 HBA.out.size (fun g hg => by have := HBV.out g hg; omega))
            have HK3 := Lib.hid (HKA.out.grown hgr3 (fun e => by have := HBV.out b2 e.symm; omega))
            clear hown3 hgr3 hwh3 HOA HX HBA HBV HKA hbl
            go_wp2_with fail
            go_roundg g
            case measure => omega
            case rel => exact ⟨k + 1, acc ++ [s[k]], A3, c3, by omega, by go_num, by rw [List.length_append, List.length_singleton], by rw [List.length_append, List.length_singleton]; exact HO3.out, HK3.out, HB3.out, by rw [List.length_append, List.length_singleton]; omega, HT2.out⟩
      · have HN : Hid (tot = none) := Lib.hid (by rw [HTOT.out, HT.out, unq_long (by omega)]; rfl)
        have HBZ := Lib.hid (set4W_below HB.out hb2le (.int .i64 0) (.int .i64 0) (.int .i64 0) (.string ⟨#[]⟩))
        have HKZ := Lib.hid (set4W_blk HK.out (.int .i64 0) (.int .i64 0) (.int .i64 0) (.string ⟨#[]⟩))
        obtain ⟨f0, f1, f2, f3⟩ : wr.frozen? ⟨b2, 0, none⟩ = false ∧ wr.frozen? ⟨b2, 1, none⟩ = false ∧ wr.frozen? ⟨b2, 2, none⟩ = false ∧ wr.frozen? ⟨b2, 3, none⟩ = false := ⟨HK.out.frozen 0, HK.out.frozen 1, HK.out.frozen 2, HK.out.frozen 3⟩
        obtain ⟨c0, c1, c2, c3⟩ := blk_cells4 HK.out
        go_wp2_with fail
        obtain ⟨q0, q1, q2, q3⟩ := blk_cells4 HKZ.out
        unfold set4W at q0 q1 q2 q3 HBZ
        refine bodyPost_ret (v := .tuple #[.agg #[.int .i64 0, .int .i64 0, .int .i64 0, .string ⟨#[]⟩], .int .i64 0]) (by simp [results, Tryz.results76, go_sem, q0, q1, q2, q3]) rfl ?_
        exact firstAns_no HN.out HBZ.out rfl
end Go.Proofs.YtcaapbbbekggiaaGreatDoor

namespace Go.Proofs.YtcaapbbbekggiaaGreatDoor
open Go.ChangeShapes Go.WideShapes Go.ChangeAt Go.RowKit
set_option linter.unusedVariables false
set_option linter.unusedSimpArgs false
set_option maxRecDepth 100000
def signsL : List ByteArray := [⟨#[33, 61]⟩, ⟨#[94, 61]⟩, ⟨#[33, 94]⟩, ⟨#[61, 61]⟩, ⟨#[60, 61]⟩, ⟨#[62, 61]⟩, ⟨#[40]⟩, ⟨#[41]⟩, ⟨#[123]⟩, ⟨#[125]⟩, ⟨#[91]⟩, ⟨#[93]⟩, ⟨#[44]⟩, ⟨#[61]⟩, ⟨#[60]⟩, ⟨#[62]⟩, ⟨#[43]⟩, ⟨#[45]⟩, ⟨#[42]⟩, ⟨#[47]⟩, ⟨#[37]⟩, ⟨#[58]⟩]
/-- The first of these that a text begins with. -/
def signIn (l : List UInt8) : List ByteArray → Option (Tok × Nat)
  | [] => none
  | x :: r => if Lib.hasPrefix l x.data.toList = true then some (⟨4, 0, 0, x⟩, x.size) else signIn l r
def txs1 (l : List ByteArray) : List Value := l.map Value.string
theorem signIn_drop {l : List UInt8} {L : List ByteArray} {k : Nat} (h : k < L.length) : signIn l (L.drop k) = if Lib.hasPrefix l (L[k]).data.toList = true then some (⟨4, 0, 0, L[k]⟩, (L[k]).size) else signIn l (L.drop (k + 1)) := by
  rw [List.drop_eq_getElem_cons h]; rfl
theorem lsigns_any (w : World) : Calls Tryz.prog 91 #[] w fun e w' => e = .returned (.slice (some ⟨w.heap.size, 0, none⟩) 22 22) ∧ w.alloc (.cells (txs1 signsL).toArray 9) = w' := by
  go_enter Tryz.func91, Tryz.ntmps91
  go_wp2_with fail
  go_ret
  exact ⟨rfl, rfl⟩
set_option maxHeartbeats 8000000 in
theorem lsign_any (s : ByteArray) (w : World) (hs : s.size ≤ 35184372088832) :
    Calls Tryz.prog 77 #[.string s] w (FirstAns (signIn s.data.toList signsL) w) := by
  have HB0 := Lib.hid ((Below.refl w.heap.size w).alloc (Nat.le_refl _) (.cells #[.int .i64 0, .int .i64 0, .int .i64 0, .string ⟨#[]⟩] 96))
  have HK0 := Lib.hid (Blk.mk (heap_alloc_new w (.cells #[.int .i64 0, .int .i64 0, .int .i64 0, .string ⟨#[]⟩] 96)) : Blk _ w.heap.size 96 [.int .i64 0, .int .i64 0, .int .i64 0, .string ⟨#[]⟩])
  obtain ⟨tot, htot⟩ : ∃ tot, signIn s.data.toList signsL = tot := ⟨_, rfl⟩
  rw [htot]
  have HTOT := Lib.hid (show tot = signIn s.data.toList (signsL.drop 0) from htot.symm)
  obtain ⟨b2, hb2⟩ : ∃ b, w.heap.size = b := ⟨_, rfl⟩
  obtain ⟨W1, hW1⟩ : ∃ W, w.alloc (.cells #[.int .i64 0, .int .i64 0, .int .i64 0, .string ⟨#[]⟩] 96) = W := ⟨_, rfl⟩
  rw [hW1] at HB0 HK0
  rw [hb2] at HK0
  have HB2 := Lib.hid hb2; have HW1 := Lib.hid hW1
  have hb2le : w.heap.size ≤ b2 := by rw [hb2]; exact Nat.le_refl _
  clear hb2 hW1 htot
  go_enter Tryz.func77, Tryz.ntmps77
  go_upto_region 1 with fail
  rw [HW1.out, HB2.out]
  go_wp2_with fail
  (with_reducible refine (lsigns_any _).mono ?_); rintro e w2 ⟨rfl, hw2⟩
  have HS0 := Lib.hid (show Blk w2 W1.heap.size 9 (txs1 signsL) by rw [← hw2]; exact Blk.mk (heap_alloc_new W1 _))
  have hb12 : Below W1.heap.size W1 w2 := by rw [← hw2]; exact (Below.refl _ _).alloc (Nat.le_refl _) _
  have HB1 := Lib.hid (HB0.out.trans (hb12.mono HB0.out.size))
  have HK1 := Lib.hid (HK0.out.below hb12 HK0.out.lt)
  obtain ⟨bs, hbs⟩ : ∃ b, W1.heap.size = b := ⟨_, rfl⟩
  rw [hbs] at HS0
  have HBS := Lib.hid hbs
  clear hw2 hb12 hbs HB0 HK0
  rw [show (⟨W1.heap.size, 0, none⟩ : Addr) = ⟨bs, 0, none⟩ by rw [HBS.out]]
  go_wp2_with fail
  go_loopg [8] 22 (fun g x8 wr => ∃ k : Nat, k + g = 22 ∧ x8 = .int .i64 k ∧ tot = signIn s.data.toList (signsL.drop k) ∧ Blk wr b2 96 [.int .i64 0, .int .i64 0, .int .i64 0, .string ⟨#[]⟩] ∧ Blk wr bs 9 (txs1 signsL) ∧ Below w.heap.size w wr)
  case atStart => exact ⟨0, by omega, rfl, HTOT.out, HK1.out, HS0.out, HB1.out⟩
  case round =>
    obtain ⟨k, hkg, rfl, ht, hblk, hsg, hbel⟩ := hrel
    have HT := Lib.hid ht; have HK := Lib.hid hblk; have HS := Lib.hid hsg; have HB := Lib.hid hbel
    clear ht hblk hsg hbel HTOT HK1 HS0 HB1
    cases gk with
    | zero =>
      have hk22 : (22 : Int) ≤ k := by omega
      have HN := Lib.hid (show tot = none by rw [HT.out, List.drop_eq_nil_of_le (by show 22 ≤ k; omega)]; rfl)
      obtain ⟨WW, hWW⟩ : ∃ W, wr = W := ⟨_, rfl⟩
      subst hWW
      have HBZ := Lib.hid (set4W_below HB.out hb2le (.int .i64 0) (.int .i64 0) (.int .i64 0) (.string ⟨#[]⟩))
      have HKZ := Lib.hid (set4W_blk HK.out (.int .i64 0) (.int .i64 0) (.int .i64 0) (.string ⟨#[]⟩))
      obtain ⟨f0, f1, f2, f3⟩ : wr.frozen? ⟨b2, 0, none⟩ = false ∧ wr.frozen? ⟨b2, 1, none⟩ = false ∧ wr.frozen? ⟨b2, 2, none⟩ = false ∧ wr.frozen? ⟨b2, 3, none⟩ = false := ⟨HK.out.frozen 0, HK.out.frozen 1, HK.out.frozen 2, HK.out.frozen 3⟩
      obtain ⟨c0, c1, c2, c3⟩ := blk_cells4 HK.out
      go_wp2_with fail
      obtain ⟨q0, q1, q2, q3⟩ := blk_cells4 HKZ.out
      unfold set4W at q0 q1 q2 q3 HBZ
      refine bodyPost_ret (v := .tuple #[.agg #[.int .i64 0, .int .i64 0, .int .i64 0, .string ⟨#[]⟩], .int .i64 0]) (by simp [results, Tryz.results77, go_sem, q0, q1, q2, q3]) rfl ?_
      exact firstAns_no HN.out HBZ.out rfl
    | succ g =>
      have hk22 : k < 22 := by omega
      have hkL : k < signsL.length := hk22
      have HST := Lib.hid (signIn_drop (l := s.data.toList) hkL)
      have hc : wr.cell? ⟨bs, k, none⟩ = some (.string (signsL[k]'hkL)) := by
        rw [HS.out.cell k]
        unfold txs1
        rw [List.getElem?_map, List.getElem?_eq_getElem hkL]; rfl
      have hxl : (signsL[k]'hkL).size ≤ 2 := by
        have : ∀ x ∈ signsL, x.size ≤ 2 := by decide
        exact this _ (List.getElem_mem hkL)
      generalize signsL[k]'hkL = x at *
      have hpf := Tryz.strings_HasPrefix s x wr
      obtain ⟨q, hq⟩ : ∃ q, Lib.hasPrefix s.data.toList x.data.toList = q := ⟨_, rfl⟩
      rw [hq] at hpf HST
      have HP := Lib.hid hpf
      clear hq hpf
      cases q with
      | true =>
        have HN := Lib.hid (show tot = some (⟨4, 0, 0, x⟩, x.size) by rw [HT.out, HST.out, if_pos rfl])
        clear HT HST HS
        have HBZ := Lib.hid (set4W_below HB.out hb2le (.int .i64 4) (.int .i64 0) (.int .i64 0) (.string x))
        have HKZ := Lib.hid (set4W_blk HK.out (.int .i64 4) (.int .i64 0) (.int .i64 0) (.string x))
        obtain ⟨f0, f1, f2, f3⟩ : wr.frozen? ⟨b2, 0, none⟩ = false ∧ wr.frozen? ⟨b2, 1, none⟩ = false ∧ wr.frozen? ⟨b2, 2, none⟩ = false ∧ wr.frozen? ⟨b2, 3, none⟩ = false := ⟨HK.out.frozen 0, HK.out.frozen 1, HK.out.frozen 2, HK.out.frozen 3⟩
        obtain ⟨c0, c1, c2, c3⟩ := blk_cells4 HK.out
        go_wp2_with fail
        (with_reducible refine HP.out.mono ?_); rintro e w' ⟨rfl, rfl⟩
        go_wp2_with fail
        obtain ⟨q0, q1, q2, q3⟩ := blk_cells4 HKZ.out
        unfold set4W at q0 q1 q2 q3 HBZ
        refine bodyPost_ret (v := .tuple #[.agg #[.int .i64 4, .int .i64 0, .int .i64 0, .string x], .int .i64 x.size]) (by simp [results, Tryz.results77, go_sem, q0, q1, q2, q3]) rfl ?_
        exact firstAns_yes HN.out HBZ.out rfl
      | false =>
        have HN := Lib.hid (show tot = signIn s.data.toList (signsL.drop (k + 1)) by rw [HT.out, HST.out, if_neg (by simp)])
        clear HT HST
        go_wp2_with fail
        (with_reducible refine HP.out.mono ?_); rintro e w' ⟨rfl, rfl⟩
        go_wp2_with fail
        go_roundg g
        case measure => omega
        case rel => exact ⟨k + 1, by omega, by go_num, HN.out, HK.out, HS.out, HB.out⟩
end Go.Proofs.YtcaapbbbekggiaaGreatDoor

namespace Go.Proofs.YtcaapbbbekggiaaGreatDoor
open Go.RowKit
set_option linter.unusedVariables false
/-- Rows of two types lie in two blocks. -/
theorem own_ne {w : World} {b b2 : Nat} {e e2 : TypeId} {s s2 n n2 : Nat} {v v2 : Value} {xs xs2 : List Value} (h : w.ownsRow b e s v n xs) (h2 : w.ownsRow b2 e2 s2 v2 n2 xs2) (he : e ≠ e2) : ∀ g, v.ownBlock = some g → v2.ownBlock ≠ some g := by
  intro g hg hg2
  rcases h.2 with ⟨rfl, _⟩ | ⟨g1, cap, cur, rfl, _, hh, _⟩
  · simp [Value.ownBlock] at hg
  · rcases h2.2 with ⟨rfl, _⟩ | ⟨g3, cap2, cur2, rfl, _, hh2, _⟩
    · simp [Value.ownBlock] at hg2
    · simp [Value.ownBlock] at hg hg2
      subst hg; subst hg2
      rw [hh] at hh2
      injection hh2 with hh2; injection hh2 with _ hh2
      exact he hh2
theorem own_grown {w w' : World} {base : Nat} {e : TypeId} {size n : Nat} {v : Value} {xs : List Value} {row : Option Nat} (h : w.ownsRow base e size v n xs) (hg : w.grownBy w' row) (hne : ∀ g, v.ownBlock = some g → row ≠ some g) : w'.ownsRow base e size v n xs := by
  refine ⟨h.1, ?_⟩
  rcases h.2 with h2 | ⟨g, cap, cur, rfl, hb, hh, rest⟩
  · exact .inl h2
  · refine .inr ⟨g, cap, cur, rfl, hb, ?_, rest⟩
    have : g < w.heap.size := (Array.getElem?_eq_some_iff.1 hh).1
    rw [hg.block g this (fun e => hne g (by simp [Value.ownBlock]) e.symm)]; exact hh
end Go.Proofs.YtcaapbbbekggiaaGreatDoor

namespace Go.Proofs.YtcaapbbbekggiaaGreatDoor
open Go.RowKit
set_option linter.unusedVariables false
theorem only_alloc {a w : World} {row : Option Nat} (h : a.grownBy w row) (o : Obj) : a.grownBy (w.alloc o) row :=
  ⟨h.os, h.tape, h.output, Nat.le_trans h.size (by simp), fun i hi hne => (Below.heap_alloc w o i (Nat.lt_of_lt_of_le hi h.size)).trans (h.block i hi hne)⟩
theorem only_drewN {a w : World} {row : Option Nat} (h : a.grownBy w row) (n : Nat) : a.grownBy (w.drewN n) row := ⟨h.os, h.tape, h.output, h.size, h.block⟩
theorem only_drew {a w : World} {row : Option Nat} (h : a.grownBy w row) : a.grownBy w.drew row := ⟨h.os, h.tape, h.output, h.size, h.block⟩
theorem only_of_below {a w : World} (h : Below a.heap.size a w) (row : Option Nat) : a.grownBy w row := ⟨h.os, h.tape, h.output, h.size, fun i hi _ => h.block i hi⟩
theorem only_setCell {a w : World} {row : Option Nat} (h : a.grownBy w row) {p : Addr} (hp : row = some p.block ∨ a.heap.size ≤ p.block) (u : Value) : a.grownBy (w.setCell p u) row :=
  ⟨h.os, h.tape, h.output, by simpa [World.setCell] using h.size, fun i hi hne => (Below.heap_setCell w p u i (by
    rintro rfl
    rcases hp with hp | hp
    · exact hne hp.symm
    · omega)).trans (h.block i hi hne)⟩
/-- Two appends, one behind the other. -/
theorem grown_where {a b c : World} {v v1 : Value} (h : a.grownBy b v.ownBlock) (hw : Where a v v1) (k : b.grownBy c v1.ownBlock) : a.grownBy c v.ownBlock :=
  ⟨k.os.trans h.os, k.tape.trans h.tape, k.output.trans h.output, Nat.le_trans h.size k.size, fun i hi hn => (k.block i (Nat.lt_of_lt_of_le hi h.size) (fun e => by
    rcases hw with hw | hw
    · exact hn (e.trans hw)
    · have := hw i e.symm; omega)).trans (h.block i hi hn)⟩
theorem Where.trans {a b : World} {v v1 v2 : Value} (h : Where a v v1) (k : Where b v1 v2) (hs : a.heap.size ≤ b.heap.size) : Where a v v2 := by
  rcases k with k | k
  · rcases h with h | h
    · exact .inl (k.trans h)
    · exact .inr fun i hi => h i (k ▸ hi)
  · exact .inr fun i hi => Nat.le_trans hs (k i hi)
theorem Where.older {a b : World} {v v1 : Value} (h : Where b v v1) (hs : a.heap.size ≤ b.heap.size) : Where a v v1 := by
  rcases h with h | h
  · exact .inl h
  · exact .inr fun i hi => Nat.le_trans hs (h i hi)
/-- A call answers v with ys behind it; nothing else of what there was has turned. -/
def AppAns (base : Nat) (t : TypeId) (size n : Nat) (xs : List Value) (v : Value) (w : World) (e : Ending) (w' : World) : Prop :=
  ∃ A c, e = .returned (.slice A n c) ∧ w'.ownsRow base t size (.slice A n c) n xs ∧ w.grownBy w' v.ownBlock ∧ Where w v (.slice A n c) ∧ n ≤ c ∧ c ≤ 9223372036854775807
theorem appAns {base : Nat} {t : TypeId} {size n c : Nat} {xs : List Value} {v : Value} {w w' : World} {e : Ending} {A : Option Addr} (hown : w'.ownsRow base t size (.slice A n c) n xs) (hg : w.grownBy w' v.ownBlock) (hw : Where w v (.slice A n c))
    (he : e = .returned (.slice A n c)) : AppAns base t size n xs v w e w' := by
  obtain ⟨A', c', h1, h2, h3⟩ := own_slice hown
  injection h1 with h1 h4 h5
  subst h1; subst h5
  exact ⟨A, c, he, hown, hg, hw, h2, h3⟩
end Go.Proofs.YtcaapbbbekggiaaGreatDoor

namespace Go.Proofs.YtcaapbbbekggiaaGreatDoor
open Go.RowKit
set_option linter.unusedVariables false
/-- A fact that holds, and stays when memory is made. -/
def Stays (P : World → Prop) (w : World) : Prop := ∀ w', Below w.heap.size w w' → P w'
theorem Stays.now {P : World → Prop} {w : World} (h : Stays P w) : P w := h w (Below.refl _ _)
theorem Stays.below {P : World → Prop} {w w' : World} (h : Stays P w) (hb : Below w.heap.size w w') : Stays P w' := fun w2 h2 => h w2 (hb.trans (h2.mono hb.size))
/-- Behind w0, with these facts. -/
def Kept (w0 : World) (Ps : List (World → Prop)) (w : World) : Prop := Below w0.heap.size w0 w ∧ ∀ P ∈ Ps, Stays P w
section
variable {w0 w w' : World} {Ps : List (World → Prop)} {P P1 P2 P3 P4 P5 P6 P7 P8 P9 : World → Prop}
theorem Kept.start (w : World) : Kept w [] w := ⟨Below.refl _ _, fun P h => absurd h List.not_mem_nil⟩
theorem Kept.bel (h : Kept w0 Ps w) : Below w0.heap.size w0 w := h.1
theorem Kept.size (h : Kept w0 Ps w) : w0.heap.size ≤ w.heap.size := h.1.size
theorem Kept.below (h : Kept w0 Ps w) (hb : Below w.heap.size w w') : Kept w0 Ps w' := ⟨h.1.trans (hb.mono h.1.size), fun P hp => (h.2 P hp).below hb⟩
theorem Kept.alloc (h : Kept w0 Ps w) (o : Obj) : Kept w0 Ps (w.alloc o) := h.below ((Below.refl _ _).alloc (Nat.le_refl _) o)
theorem Kept.drew (h : Kept w0 Ps w) : Kept w0 Ps w.drew := h.below (Below.refl _ _).drew
theorem Kept.drewN (h : Kept w0 Ps w) (n : Nat) : Kept w0 Ps (w.drewN n) := by
  induction n with
  | zero => exact h
  | succ n ih => exact ih.drew
theorem Kept.add (h : Kept w0 Ps w) (hP : Stays P w) : Kept w0 (P :: Ps) w := ⟨h.1, fun Q hq => by
  rcases List.mem_cons.1 hq with rfl | hq
  · exact hP
  · exact h.2 Q hq⟩
theorem Kept.tail (h : Kept w0 (P :: Ps) w) : Kept w0 Ps w := ⟨h.1, fun Q hq => h.2 Q (List.mem_cons_of_mem _ hq)⟩
theorem Kept.p0 (h : Kept w0 (P :: Ps) w) : P w := (h.2 P List.mem_cons_self).now
theorem Kept.p1 (h : Kept w0 (P :: P1 :: Ps) w) : P1 w := h.tail.p0
theorem Kept.p2 (h : Kept w0 (P :: P1 :: P2 :: Ps) w) : P2 w := h.tail.p1
theorem Kept.p3 (h : Kept w0 (P :: P1 :: P2 :: P3 :: Ps) w) : P3 w := h.tail.p2
theorem Kept.p4 (h : Kept w0 (P :: P1 :: P2 :: P3 :: P4 :: Ps) w) : P4 w := h.tail.p3
theorem Kept.p5 (h : Kept w0 (P :: P1 :: P2 :: P3 :: P4 :: P5 :: Ps) w) : P5 w := h.tail.p4
theorem Kept.p6 (h : Kept w0 (P :: P1 :: P2 :: P3 :: P4 :: P5 :: P6 :: Ps) w) : P6 w := h.tail.p5
theorem Kept.p7 (h : Kept w0 (P :: P1 :: P2 :: P3 :: P4 :: P5 :: P6 :: P7 :: Ps) w) : P7 w := h.tail.p6
theorem Kept.p8 (h : Kept w0 (P :: P1 :: P2 :: P3 :: P4 :: P5 :: P6 :: P7 :: P8 :: Ps) w) : P8 w := h.tail.p7
end
section
variable {w w' : World} {B size n g base : Nat} {A : Option Addr} {xs cs : List Value} {t : TypeId} {v : Value}
theorem Sees.stays (h : Sees w B size A n xs) (hB : B ≤ w.heap.size) : Stays (fun W => Sees W B size A n xs) w := fun _ hb => h.below (hb.mono hB)
theorem Blk.stays (h : Blk w g t cs) : Stays (fun W => Blk W g t cs) w := fun _ hb => h.below hb h.lt
theorem own_stays (h : w.ownsRow base t size v n xs) : Stays (fun W => W.ownsRow base t size v n xs) w := fun _ hb => own_below h hb (Nat.le_refl _)
/-- A value is a slice that reads as these cells. -/
def Slc (w : World) (size : Nat) (v : Value) (n : Nat) (xs : List Value) : Prop := ∃ A c, v = .slice A n c ∧ Sees w w.heap.size size A n xs ∧ n ≤ c ∧ c ≤ 9223372036854775807
theorem Slc.below (h : Slc w size v n xs) (hb : Below w.heap.size w w') : Slc w' size v n xs := by
  obtain ⟨A, c, h1, h2, h3⟩ := h
  exact ⟨A, c, h1, (h2.below hb).more hb.size, h3⟩
theorem Slc.stays (h : Slc w size v n xs) : Stays (fun W => Slc W size v n xs) w := fun _ hb => h.below hb
theorem Slc.sees {c : Nat} (h : Slc w size (.slice A n c) n xs) : Sees w w.heap.size size A n xs := by
  obtain ⟨A', c', h1, h2, h3, h4⟩ := h
  injection h1 with h1 h5 h6
  subst h1; subst h6
  exact h2
theorem Slc.caps {c : Nat} (h : Slc w size (.slice A n c) n xs) : n ≤ c ∧ c ≤ 9223372036854775807 := by
  obtain ⟨A', c', h1, h2, h3, h4⟩ := h
  injection h1 with h1 h5 h6
  subst h6
  exact ⟨h3, h4⟩
theorem Slc.form (h : Slc w size v n xs) : ∃ A c, v = .slice A n c ∧ n ≤ c ∧ c ≤ 9223372036854775807 := by
  obtain ⟨A, c, h1, h2, h3⟩ := h
  exact ⟨A, c, h1, h3⟩
theorem Slc.of_own (h : w.ownsRow base t size v n xs) : Slc w size v n xs := by
  obtain ⟨A, c, rfl, h1, h2⟩ := own_slice h
  exact ⟨A, c, rfl, Sees.of_own h, h1, h2⟩
/-- A call answers a new slice of these cells. -/
theorem slc_ans {W : World} {e : Ending} (h : OwnAns t size n xs W e w') : ∃ A c, e = .returned (.slice A n c) ∧ Slc w' size (.slice A n c) n xs ∧ Below W.heap.size W w' := by
  obtain ⟨A, c, h1, h2, h3, h4, h5⟩ := h
  exact ⟨A, c, h1, Slc.of_own h2, h3⟩
end
end Go.Proofs.YtcaapbbbekggiaaGreatDoor

namespace Go.Proofs.YtcaapbbbekggiaaGreatDoor
open Go.RowKit
set_option linter.unusedVariables false
/-- A fact that stays whatever becomes of the blocks of S. -/
def FarS (S : Nat → Prop) (P : World → Prop) (w : World) : Prop := ∀ w', w.heap.size ≤ w'.heap.size → (∀ b, b < w.heap.size → ¬ S b → w'.heap[b]? = w.heap[b]?) → P w'
theorem FarS.now {S : Nat → Prop} {P : World → Prop} {w : World} (h : FarS S P w) : P w := h w (Nat.le_refl _) (fun _ _ _ => rfl)
theorem FarS.next {S S' : Nat → Prop} {P : World → Prop} {w w' : World} (h : FarS S P w) (h1 : w.heap.size ≤ w'.heap.size) (h2 : ∀ b, b < w.heap.size → ¬ S b → w'.heap[b]? = w.heap[b]?) (h3 : ∀ b, b < w.heap.size → S' b → S b) : FarS S' P w' :=
  fun V hs hk => h V (Nat.le_trans h1 hs) fun b hb hn => (hk b (by omega) (fun hS => hn (h3 b hb hS))).trans (h2 b hb hn)
theorem FarS.below {S : Nat → Prop} {P : World → Prop} {w w' : World} (h : FarS S P w) (hb : Below w.heap.size w w') : FarS S P w' :=
  h.next hb.size (fun b hl _ => hb.block b hl) (fun _ _ hS => hS)
theorem FarS.mono {S S' : Nat → Prop} {P : World → Prop} {w : World} (h : FarS S P w) (h3 : ∀ b, b < w.heap.size → S' b → S b) : FarS S' P w :=
  h.next (Nat.le_refl _) (fun _ _ _ => rfl) h3
theorem FarS.grown {S : Nat → Prop} {P : World → Prop} {w w' : World} {row : Option Nat} (h : FarS S P w) (hg : w.grownBy w' row) (hr : ∀ b, row = some b → S b) : FarS S P w' :=
  h.next hg.size (fun b hl hn => hg.block b hl (fun e => hn (hr b e.symm))) (fun _ _ hS => hS)
theorem FarS.and {S : Nat → Prop} {P Q : World → Prop} {w : World} (h : FarS S P w) (k : FarS S Q w) : FarS S (fun W => P W ∧ Q W) w := fun V hs hk => ⟨h V hs hk, k V hs hk⟩
theorem FarS.const {S : Nat → Prop} {P : Prop} {w : World} (h : P) : FarS S (fun _ => P) w := fun _ _ _ => h
theorem slc_nil' (w : World) (size : Nat) : Slc w size (.slice none 0 0) 0 [] := ⟨none, 0, rfl, Sees.nil, Nat.le_refl _, by simp⟩
theorem FarS.nil {S : Nat → Prop} {w : World} (size : Nat) : FarS S (fun W => Slc W size (.slice none 0 0) 0 []) w := fun V _ _ => slc_nil' V size
theorem FarS.blk {S : Nat → Prop} {w : World} {g : Nat} {t : TypeId} {cs : List Value} (h : Blk w g t cs) (hg : ¬ S g) : FarS S (fun W => Blk W g t cs) w := fun V _ hk => (hk g h.lt hg).trans h.eq
/-- A row of one's own, whose block is none of S. -/
theorem FarS.own {S : Nat → Prop} {w : World} {base : Nat} {t : TypeId} {size n : Nat} {v : Value} {xs : List Value} (h : w.ownsRow base t size v n xs) (hg : ∀ g, v.ownBlock = some g → ¬ S g) : FarS S (fun W => Slc W size v n xs) w := fun V hs hk => by
  obtain ⟨A, c, rfl, h1, h2⟩ := own_slice h
  have hS := Sees.of_own h
  refine ⟨A, c, rfl, ⟨hS.len, fun hp => ?_⟩, h1, h2⟩
  obtain ⟨ad, e, hl, hc⟩ := hS.at_ hp
  refine ⟨ad, e, by omega, fun j u hj => ?_⟩
  have hcc := hc j u hj
  have hh := hk ad.block hl (hg ad.block (by subst e; rfl))
  unfold World.cell? at hcc ⊢
  rw [add_block] at hcc ⊢
  rw [hh]; exact hcc
theorem FarS.slc {S : Nat → Prop} {w : World} {g n size : Nat} {t : TypeId} {cs : List Value} (h : Blk w g t cs) (hg : ¬ S g) (hl : cs.length = n * size) (hn : n ≤ 9223372036854775807) : FarS S (fun W => Slc W size (.slice (some ⟨g, 0, none⟩) n n) n cs) w := fun V hs hk =>
  ⟨some ⟨g, 0, none⟩, n, rfl, (show Blk V g t cs from (hk g h.lt hg).trans h.eq).sees hl (List.prefix_refl _), Nat.le_refl _, hn⟩
end Go.Proofs.YtcaapbbbekggiaaGreatDoor

namespace Go.Proofs.YtcaapbbbekggiaaGreatDoor
open Go Go.RowKit
set_option linter.unusedVariables false
/-- P holds, and stays along R. -/
def Hold (R : World → World → Prop) (P : World → Prop) (w : World) : Prop := ∀ w', R w w' → P w'
theorem Hold.now {P : World → Prop} {w : World} (h : Hold (fun a b => Below a.heap.size a b) P w) : P w := h w (Below.refl _ _)
def slotOf (ops : Array Oper) (j : Nat) : Option Tmp := (ops[j]?).bind (·.dst)
/-- What operation j left. -/
def slotV (ops : Array Oper) (a : Act) (j : Nat) : Value := match slotOf ops j with | some d => a.tmps.getD d undef | none => undef
/-- What the region does not write is as it was. -/
structure FrameOk (ops : Array Oper) (a0 a : Act) : Prop where
  defers : a.defers = a0.defers
  size : a.tmps.size = a0.tmps.size
  same : ∀ k, (∀ j, slotOf ops j ≠ some k) → a.tmps.getD k undef = a0.tmps.getD k undef
/-- .. and what is written by operations that wait for operation i alone is as it was, ahead of i. -/
structure FrameAt (ops : Array Oper) (a0 a : Act) (i : Nat) : Prop where
  fr : FrameOk ops a0 a
  early : ∀ k, (∀ (j : Nat) (o : Oper), ops[j]? = some o → o.dst = some k → ∃ e ∈ o.after.toList, e.on = i ∧ Region.binds .any e = true) → a.tmps.getD k undef = a0.tmps.getD k undef
/-- The facts of the operations that are waited for. -/
def Deps (R : World → World → Prop) (V : Nat → Value → World → Prop) (ops : Array Oper) (a : Act) (w : World) : List Edge → Prop
  | [] => True
  | e :: l => (Region.binds .any e = true → Hold R (V e.on (slotV ops a e.on)) w) ∧ Deps R V ops a w l
/-- What an operation leaves. -/
def OpPost (R : World → World → Prop) (V : Nat → Value → World → Prop) (i : Nat) (o : Oper) (a : Act) (w : World) (a' : Act) (w' : World) : Prop := R w w' ∧ ∃ v, a' = a.put o.dst v ∧ Hold R (V i (match o.dst with | some _ => v | none => undef)) w'
def OpOk (P : Program) (ops : Array Oper) (Q : Exit → Act → World → Prop) (R : World → World → Prop) (G : World → Prop) (V : Nat → Value → World → Prop) (a0 : Act) (i : Nat) (o : Oper) : Prop :=
  ∀ a w, FrameAt ops a0 a i → Hold R G w → Deps R V ops a w o.after.toList →
    (Region.wanted o (yielded ops a.tmps) = true → o.wp P a w (OpPost R V i o a w) Q) ∧
    (Region.wanted o (yielded ops a.tmps) = false → Hold R (V i undef) w)
def AllOps (P : Program) (ops : Array Oper) (Q : Exit → Act → World → Prop) (R : World → World → Prop) (G : World → Prop) (V : Nat → Value → World → Prop) (a0 : Act) : Nat → List Oper → Prop
  | _, [] => True
  | i, o :: l => OpOk P ops Q R G V a0 i o ∧ AllOps P ops Q R G V a0 (i + 1) l
/-- The frame with all of the region's slots written. -/
def putAll (vs : Nat → Value) : Nat → List Oper → Act → Act
  | _, [], a => a
  | i, o :: l, a => putAll vs (i + 1) l (a.put o.dst (vs i))
/-- No two operations write one slot, and each slot is there. -/
def apartB (n : Nat) : List Oper → Bool
  | [] => true
  | o :: l => (match o.dst with | some d => decide (d < n) && l.all (fun p => p.dst != some d) | none => true) && apartB n l

section
variable {P : Program} {ops : Array Oper} {Q : Exit → Act → World → Prop} {R : World → World → Prop} {G : World → Prop} {V : Nat → Value → World → Prop} {a0 : Act}
theorem allOps_at : ∀ {l : List Oper} {k : Nat}, AllOps P ops Q R G V a0 k l → ∀ (i : Nat) (o : Oper), l[i]? = some o → OpOk P ops Q R G V a0 (k + i) o
  | [], _, _, i, o, h => by simp at h
  | p :: l, k, ⟨h1, h2⟩, 0, o, h => by simp at h; subst h; exact h1
  | p :: l, k, ⟨h1, h2⟩, i + 1, o, h => by
    have := allOps_at h2 i o (by simpa using h)
    rwa [show k + (i + 1) = k + 1 + i by omega]
theorem apartB_lt {n : Nat} : ∀ {l : List Oper}, apartB n l = true → ∀ (i : Nat) (o : Oper) (d : Tmp), l[i]? = some o → o.dst = some d → d < n
  | [], _, i, o, d, h, _ => by simp at h
  | p :: l, hb, 0, o, d, h, hd => by
    simp at h; subst h
    simp only [apartB, hd, Bool.and_eq_true, decide_eq_true_eq] at hb
    exact hb.1.1
  | p :: l, hb, i + 1, o, d, h, hd => by
    simp only [apartB, Bool.and_eq_true] at hb
    exact apartB_lt hb.2 i o d (by simpa using h) hd
theorem apartB_ne {n : Nat} : ∀ {l : List Oper}, apartB n l = true → ∀ (i j : Nat) (o p : Oper) (d : Tmp), l[i]? = some o → l[j]? = some p → o.dst = some d → p.dst = some d → i = j
  | [], _, i, _, o, _, _, h, _, _, _ => by simp at h
  | q :: l, hb, 0, 0, o, p, d, h, h2, hd, hd2 => rfl
  | q :: l, hb, 0, j + 1, o, p, d, h, h2, hd, hd2 => by
    simp at h; subst h
    simp only [apartB, hd, Bool.and_eq_true, decide_eq_true_eq, List.all_eq_true] at hb
    have := hb.1.2 p (List.mem_of_getElem? (by simpa using h2 : l[j]? = some p))
    simp [hd2] at this
  | q :: l, hb, i + 1, 0, o, p, d, h, h2, hd, hd2 => by
    simp at h2; subst h2
    simp only [apartB, hd2, Bool.and_eq_true, decide_eq_true_eq, List.all_eq_true] at hb
    have := hb.1.2 o (List.mem_of_getElem? (by simpa using h : l[i]? = some o))
    simp [hd] at this
  | q :: l, hb, i + 1, j + 1, o, p, d, h, h2, hd, hd2 => by
    simp only [apartB, Bool.and_eq_true] at hb
    have := apartB_ne hb.2 i j o p d (by simpa using h) (by simpa using h2) hd hd2
    omega
theorem slotOf_ne (hb : apartB a0.tmps.size ops.toList = true) {i j : Nat} {d : Tmp} (hi : slotOf ops i = some d) (hj : slotOf ops j = some d) : i = j := by
  unfold slotOf at hi hj
  cases ho : ops[i]? with
  | none => rw [ho] at hi; cases hi
  | some o =>
    cases hp : ops[j]? with
    | none => rw [hp] at hj; cases hj
    | some p =>
      rw [ho] at hi; rw [hp] at hj
      exact apartB_ne hb i j o p d (by simpa using ho) (by simpa using hp) hi hj
theorem slotOf_lt (hb : apartB a0.tmps.size ops.toList = true) {i : Nat} {d : Tmp} (hi : slotOf ops i = some d) : d < a0.tmps.size := by
  unfold slotOf at hi
  cases ho : ops[i]? with
  | none => rw [ho] at hi; cases hi
  | some o => rw [ho] at hi; exact apartB_lt hb i o d (by simpa using ho) hi
theorem slotV_put_other (hb : apartB a0.tmps.size ops.toList = true) {a : Act} {i j : Nat} (hij : i ≠ j) (v : Value) : slotV ops (a.put (slotOf ops i) v) j = slotV ops a j := by
  unfold slotV
  cases hj : slotOf ops j with
  | none => rfl
  | some d =>
    cases hi : slotOf ops i with
    | none => rfl
    | some e =>
      have hne : e ≠ d := fun h => hij (slotOf_ne hb hi (h ▸ hj))
      simp [Act.put, Array.getElem?_setIfInBounds_ne hne]
theorem FrameOk.put (hb : apartB a0.tmps.size ops.toList = true) {a : Act} (h : FrameOk ops a0 a) (i : Nat) (v : Value) : FrameOk ops a0 (a.put (slotOf ops i) v) := by
  cases hi : slotOf ops i with
  | none => exact h
  | some e =>
    refine ⟨h.defers, by simpa [Act.put] using h.size, fun k hk => ?_⟩
    have hne : e ≠ k := fun he => hk i (he ▸ hi)
    rw [← h.same k hk]
    simp [Act.put, Array.getElem?_setIfInBounds_ne hne]
/-- The state ahead of each operation. -/
structure RInv (P : Program) (ops : Array Oper) (R : World → World → Prop) (G : World → Prop) (V : Nat → Value → World → Prop) (a0 : Act) (listed : Array Bool) (a : Act) (w : World) : Prop where
  fr : FrameOk ops a0 a
  early : ∀ k, (∀ j, slotOf ops j = some k → listed.getD j false = false) → a.tmps.getD k undef = a0.tmps.getD k undef
  closed : ∀ (j : Nat) (o : Oper), ops[j]? = some o → listed.getD j false = true → ∀ e ∈ o.after.toList, Region.binds .any e = true → listed.getD e.on false = true
  g : Hold R G w
  facts : ∀ i, listed.getD i false = true → Hold R (V i (slotV ops a i)) w
theorem Hold.trans {A : World → Prop} (ht : ∀ a b c, R a b → R b c → R a c) {w w' : World} (h : Hold R A w) (hr : R w w') : Hold R A w' := fun w2 h2 => h w2 (ht _ _ _ hr h2)
theorem deps_of {a : Act} {w : World} {listed : Array Bool} (hf : ∀ i, listed.getD i false = true → Hold R (V i (slotV ops a i)) w) :
    ∀ l : List Edge, (∀ e ∈ l, Region.binds .any e = true → listed.getD e.on false = true) → Deps R V ops a w l
  | [], _ => trivial
  | e :: l, h => ⟨fun hb => hf _ (h e List.mem_cons_self hb), deps_of hf l fun e' he' => h e' (List.mem_cons_of_mem _ he')⟩
/-- Each operation waits for earlier ones alone. -/
def backB : Nat → List Oper → Bool
  | _, [] => true
  | i, o :: l => o.after.all (fun e => decide (e.on < i)) && backB (i + 1) l
theorem backB_at : ∀ {l : List Oper} {k : Nat}, backB k l = true → ∀ (i : Nat) (o : Oper), l[i]? = some o → ∀ e ∈ o.after, e.on < k + i
  | [], _, _, i, o, h, _, _ => by simp at h
  | p :: l, k, hb, 0, o, h, e, he => by
    simp at h; subst h
    simp only [backB, Bool.and_eq_true] at hb
    have h1 := hb.1
    rw [Array.all_eq_true_iff_forall_mem] at h1
    simpa using h1 e he
  | p :: l, k, hb, i + 1, o, h, e, he => by
    simp only [backB, Bool.and_eq_true] at hb
    have := backB_at hb.2 i o (by simpa using h) e he
    omega
def left (n : Nat) (listed : Array Bool) : Nat := ((List.range n).filter fun i => !listed.getD i true).length
theorem filter_less {l : List Nat} {p q : Nat → Bool} (h : ∀ x ∈ l, q x = true → p x = true) {i : Nat} (hi : i ∈ l) (h1 : p i = true) (h2 : q i = false) : (l.filter q).length < (l.filter p).length := by
  induction l with
  | nil => cases hi
  | cons x l ih =>
    have hx := h x List.mem_cons_self
    have hl : ∀ y ∈ l, q y = true → p y = true := fun y hy => h y (List.mem_cons_of_mem _ hy)
    have hle : (l.filter q).length ≤ (l.filter p).length := by
      clear ih hi h hx
      induction l with
      | nil => simp
      | cons y l ih =>
        have := ih (fun z hz => hl z (List.mem_cons_of_mem _ hz))
        have hy := hl y List.mem_cons_self
        cases hq : q y <;> cases hp : p y <;> simp [hq, hp] <;> first | omega | (rw [hy hq] at hp; cases hp)
    rcases List.mem_cons.1 hi with rfl | hi
    · simp only [List.filter_cons, h1, h2, if_true, List.length_cons]; simp; omega
    · have := ih hl hi
      cases hq : q x <;> cases hp : p x <;> simp [hq, hp] <;> first | omega | (rw [hx hq] at hp; cases hp)
theorem left_set {n : Nat} {listed : Array Bool} {i : Nat} (hn : listed.size = n) (hi : listed.getD i true = false) : left n (listed.setIfInBounds i true) < left n listed := by
  have hlt : i < listed.size := by
    rcases Nat.lt_or_ge i listed.size with h | h
    · exact h
    · simp [Array.getElem?_eq_none h] at hi
  refine filter_less (fun x hx hq => ?_) (List.mem_range.2 (by omega : i < n)) (by simp [hi]) (by simp [hlt])
  by_cases h : i = x
  · subst h; simp [hlt] at hq
  · rw [getD_set_ne true h] at hq; exact hq
theorem left_none {n : Nat} {listed : Array Bool} (hn : listed.size = n) (h : left n listed = 0) : ∀ i, i < n → listed.getD i true = true := fun i hi => by
  unfold left at h
  have := List.eq_nil_of_length_eq_zero h
  rw [List.filter_eq_nil_iff] at this
  simpa using this i (List.mem_range.2 hi)
theorem all_listed (hback : backB 0 ops.toList = true) {listed : Array Bool} (hs : listed.size = ops.size) (hr : Region.ready .any ops listed = []) : ∀ i, i < ops.size → listed.getD i true = true := by
  intro i
  induction i using Nat.strongRecOn with
  | _ i ih =>
    intro hi
    cases hc : listed.getD i true with
    | true => rfl
    | false =>
      have : i ∈ Region.ready .any ops listed := by
        rw [mem_ready]
        refine ⟨hc, ops[i], Array.getElem?_eq_getElem hi, fun e he hb => ?_⟩
        have h1 := backB_at hback i ops[i] (by simp [hi]) e he
        have h2 := ih e.on (by omega) (by omega)
        have hlt : e.on < listed.size := by omega
        simp [hlt] at h2 ⊢
        exact h2
      rw [hr] at this
      cases this
theorem wpAny_facts (hr0 : ∀ w, R w w) (ht : ∀ a b c, R a b → R b c → R a c) (hb : apartB a0.tmps.size ops.toList = true) (hback : backB 0 ops.toList = true) (hall : AllOps P ops Q R G V a0 0 ops.toList)
    (hend : ∀ a w, FrameOk ops a0 a → Hold R G w → (∀ i, i < ops.size → Hold R (V i (slotV ops a i)) w) → Q .normal a w) :
    ∀ (fuel : Nat) (listed : Array Bool) (a : Act) (w : World), listed.size = ops.size → left ops.size listed ≤ fuel → RInv P ops R G V a0 listed a w → wpAny P .any ops Q fuel listed a w := by
  have fin : ∀ (listed : Array Bool) (a : Act) (w : World), listed.size = ops.size → RInv P ops R G V a0 listed a w → Region.ready .any ops listed = [] → Q .normal a w := fun listed a w hs hI hr =>
    hend a w hI.fr hI.g fun i hi => hI.facts i (by
      have h1 := all_listed hback hs hr i hi
      have hlt : i < listed.size := by omega
      simp [hlt] at h1 ⊢
      exact h1)
  intro fuel
  induction fuel with
  | zero =>
    intro listed a w hs hl hI
    have hr : Region.ready .any ops listed = [] := by
      rw [List.eq_nil_iff_forall_not_mem]
      intro i hi
      obtain ⟨h1, o, ho, _⟩ := mem_ready.1 hi
      have hlt : i < ops.size := (Array.getElem?_eq_some_iff.1 ho).1
      rw [left_none hs (by omega) i hlt] at h1
      cases h1
    exact ⟨hr, fin listed a w hs hI hr⟩
  | succ fuel ih =>
    intro listed a w hs hl hI
    refine ⟨fin listed a w hs hI, fun i hi => ?_⟩
    obtain ⟨h1, o, ho, hdone⟩ := mem_ready.1 hi
    have hlt : i < ops.size := (Array.getElem?_eq_some_iff.1 ho).1
    have hok : OpOk P ops Q R G V a0 i o := by have := allOps_at hall i o (by simpa using ho); rwa [Nat.zero_add] at this
    have hdst : o.dst = slotOf ops i := by unfold slotOf; rw [ho]; rfl
    have hfa : FrameAt ops a0 a i := ⟨hI.fr, fun k hk => hI.early k fun j hj => by
      have hj2 := hj
      unfold slotOf at hj2
      cases hoj : ops[j]? with
      | none => rw [hoj] at hj2; cases hj2
      | some oj =>
        rw [hoj] at hj2
        obtain ⟨e, he, heq, hbb⟩ := hk j oj hoj hj2
        cases hlj : listed.getD j false with
        | false => rfl
        | true =>
          have h5 := hI.closed j oj hoj hlj e he hbb
          rw [heq] at h5
          have hlt2 : i < listed.size := by omega
          simp [hlt2] at h1 h5
          rw [h5] at h1; cases h1⟩
    obtain ⟨hw, hn⟩ := hok a w hfa hI.g (deps_of hI.facts _ fun e he hbb => hdone e (by simpa using he) hbb)
    have go : ∀ v w', R w w' → Hold R (V i (match slotOf ops i with | some _ => v | none => undef)) w' → wpAny P .any ops Q fuel (listed.setIfInBounds i true) (a.put (slotOf ops i) v) w' := fun v w' hrw hv => by
      refine ih _ _ _ (by simpa using hs) (by have := left_set hs h1; omega) ⟨hI.fr.put hb i v, fun k hk => ?_, fun j oj hoj hlj e he hbb => ?_, hI.g.trans ht hrw, fun j hj => ?_⟩
      · have hlt2 : i < listed.size := by omega
        have hne : slotOf ops i ≠ some k := fun h => by have := hk i h; simp [hlt2] at this
        have h6 := hI.early k fun j hj => by
          have h7 := hk j hj
          by_cases hij : i = j
          · subst hij; simp [hlt2] at h7
          · rwa [getD_set_ne false hij] at h7
        rw [← h6]
        cases hsl : slotOf ops i with
        | none => rfl
        | some d =>
          have hdk : d ≠ k := fun h => hne (by rw [hsl, h])
          simp [Act.put, Array.getElem?_setIfInBounds_ne hdk]
      · have hlt2 : i < listed.size := by omega
        by_cases hij : i = j
        · subst hij
          rw [ho] at hoj; injection hoj with hoj; subst hoj
          have h8 := hdone e (by simpa using he) hbb
          by_cases hie : i = e.on
          · rw [← hie]; simp [hlt2]
          · rw [getD_set_ne false hie]; exact h8
        · rw [getD_set_ne false hij] at hlj
          have h8 := hI.closed j oj hoj hlj e he hbb
          by_cases hie : i = e.on
          · rw [← hie]; simp [hlt2]
          · rw [getD_set_ne false hie]; exact h8
      by_cases hij : i = j
      · subst hij
        have e : slotV ops (a.put (slotOf ops i) v) i = match slotOf ops i with | some _ => v | none => undef := by
          unfold slotV
          cases hsl : slotOf ops i with
          | none => rfl
          | some d =>
            have hd := slotOf_lt hb hsl
            rw [← hI.fr.size] at hd
            simp [Act.put, hd]
        rw [e]
        exact hv
      · rw [slotV_put_other hb hij]
        refine (hI.facts j ?_).trans ht hrw
        rw [getD_set_ne false hij] at hj
        exact hj
    unfold wpOp
    rw [ho]
    simp only
    split
    · rename_i hwant
      refine .inl (Oper.wp_mono (fun a' w' h => ?_) (hw hwant))
      obtain ⟨hrw, v, rfl, hv⟩ := h
      rw [hdst] at hv ⊢
      exact go v w' hrw hv
    · rename_i hwant
      rw [hdst]
      exact go undef w (hr0 w) (by have := hn (by simpa using hwant); cases slotOf ops i <;> exact this)
/-- The facts of all operations. -/
def AllV (R : World → World → Prop) (V : Nat → Value → World → Prop) (vs : Nat → Value) (w : World) : Nat → List Oper → Prop
  | _, [] => True
  | i, _ :: l => Hold R (V i (vs i)) w ∧ AllV R V vs w (i + 1) l
theorem allV_of {vs : Nat → Value} {w : World} : ∀ (l : List Oper) (k : Nat), (∀ i, i < l.length → Hold R (V (k + i) (vs (k + i))) w) → AllV R V vs w k l
  | [], _, _ => trivial
  | o :: l, k, h => ⟨h 0 (by simp), allV_of l (k + 1) fun i hi => by have := h (i + 1) (by simpa using hi); rwa [show k + (i + 1) = k + 1 + i by omega] at this⟩
theorem putAll_same {vs : Nat → Value} {a : Act} : ∀ (l : List Oper) (k : Nat), (∀ i o, l[i]? = some o → a.put o.dst (vs (k + i)) = a) → putAll vs k l a = a
  | [], _, _ => rfl
  | o :: l, k, h => by
    have h0 := h 0 o (by simp)
    unfold putAll
    rw [show a.put o.dst (vs k) = a from h0]
    exact putAll_same l (k + 1) fun i p hp => by have := h (i + 1) p (by simpa using hp); rwa [show k + (i + 1) = k + 1 + i by omega] at this
theorem act_ext {a b : Act} (h1 : a.defers = b.defers) (h2 : a.tmps.size = b.tmps.size) (h3 : ∀ k, a.tmps.getD k undef = b.tmps.getD k undef) : a = b := by
  obtain ⟨x, y⟩ := a; obtain ⟨x', y'⟩ := b
  simp only at h1 h2 h3
  subst h1
  have : x = x' := Array.ext h2 fun i hi hi' => by have := h3 i; simpa [hi, hi'] using this
  rw [this]
theorem putAll_congr {vs : Nat → Value} : ∀ (l : List Oper) (k : Nat) (a b : Act), a.defers = b.defers → a.tmps.size = b.tmps.size → (∀ t, (∀ o ∈ l, o.dst ≠ some t) → a.tmps.getD t undef = b.tmps.getD t undef) → putAll vs k l a = putAll vs k l b
  | [], _, a, b, h1, h2, h3 => act_ext h1 h2 fun k => h3 k (fun o ho => absurd ho List.not_mem_nil)
  | o :: l, k, a, b, h1, h2, h3 => by
    unfold putAll
    cases hd : o.dst with
    | none =>
      refine putAll_congr l (k + 1) _ _ h1 h2 fun t ht => h3 t fun p hp => ?_
      rcases List.mem_cons.1 hp with rfl | hp
      · rw [hd]; simp
      · exact ht p hp
    | some d =>
      refine putAll_congr l (k + 1) _ _ h1 (by simpa [Act.put] using h2) fun t ht => ?_
      by_cases he : d = t
      · subst he
        by_cases hlt : d < a.tmps.size
        · have hlt' : d < b.tmps.size := h2 ▸ hlt
          simp [Act.put, hlt, hlt']
        · have hlt' : ¬ d < b.tmps.size := h2 ▸ hlt
          simp [Act.put, hlt, hlt']
      · have := h3 t fun p hp => by
          rcases List.mem_cons.1 hp with rfl | hp
          · rw [hd]; simpa using he
          · exact ht p hp
        simpa [Act.put, Array.getElem?_setIfInBounds_ne he] using this
/-- THE LAW: each operation has a fact that stays along R; a region that draws its order ends with all of them. -/
theorem wp_region_facts {id : Nat} {w : World} (hm : P.follows .mixedOrders = true) (hr0 : ∀ w, R w w) (ht : ∀ a b c, R a b → R b c → R a c) (hb : apartB a0.tmps.size ops.toList = true) (hback : backB 0 ops.toList = true)
    (hG : Hold R G { w with drawn := w.drawn + 1 }) (hall : AllOps P ops Q R G V a0 0 ops.toList)
    (hend : ∀ vs w', Hold R G w' → AllV R V vs w' 0 ops.toList → Q .normal (putAll vs 0 ops.toList a0) w') : (Code.region id ops true).wp P Q a0 w := by
  refine wp_region_any hm (wpAny_facts hr0 ht hb hback hall (fun a w' hfr hg hf => ?_) ops.size _ a0 _ (by simp) (by unfold left; exact Nat.le_trans (List.length_filter_le _ _) (by simp)) ⟨⟨rfl, rfl, fun _ _ => rfl⟩, fun _ _ => rfl, fun j o _ hj => ?_, hG, fun i hi => ?_⟩)
  · have h1 := hend (slotV ops a) w' hg (allV_of _ 0 fun i hi => by rw [Nat.zero_add]; exact hf i (by simpa using hi))
    have h2 : putAll (slotV ops a) 0 ops.toList a0 = a := by
      rw [putAll_congr ops.toList 0 a0 a hfr.defers.symm hfr.size.symm fun t hno => (hfr.same t fun j hj => ?_).symm]
      · refine putAll_same _ 0 fun i o ho => ?_
        rw [Nat.zero_add]
        have hdst : o.dst = slotOf ops i := by unfold slotOf; rw [show ops[i]? = some o by simpa using ho]; rfl
        rw [hdst]
        unfold slotV
        cases hsl : slotOf ops i with
        | none => rfl
        | some d =>
          refine act_ext rfl (by simp [Act.put]) fun k => ?_
          by_cases he : d = k
          · subst he
            have hd := slotOf_lt hb hsl
            rw [← hfr.size] at hd
            simp [Act.put, hd]
          · simp [Act.put, Array.getElem?_setIfInBounds_ne he]
      · unfold slotOf at hj
        cases ho : ops[j]? with
        | none => rw [ho] at hj; cases hj
        | some o => rw [ho] at hj; exact hno o (by simpa using Array.mem_of_getElem? ho) hj
    rwa [h2] at h1
  · exfalso
    have : (Array.replicate ops.size false).getD j false = false := by
      by_cases h : j < ops.size <;> simp [h]
    rw [this] at hj
    cases hj
  · exfalso
    have : (Array.replicate ops.size false).getD i false = false := by
      by_cases h : i < ops.size <;> simp [h]
    rw [this] at hi
    cases hi
end
/-! Words for the operations' obligations. -/
section
variable {P : Program} {ops : Array Oper} {Q : Exit → Act → World → Prop} {R : World → World → Prop} {G : World → Prop} {V : Nat → Value → World → Prop} {a0 : Act}
theorem FrameAt.at {a : Act} {i : Nat} (h : FrameAt ops a0 a i) (k : Nat) (hk : ops.toList.all (fun o => o.dst != some k || o.after.toList.any (fun e => e.on == i && Region.binds .any e)) = true) : a.tmps.getD k undef = a0.tmps.getD k undef :=
  h.early k fun j o ho hd => by
    have h1 := List.all_eq_true.1 hk o (by simpa using Array.mem_of_getElem? ho)
    rw [hd] at h1
    have hz : ((some k : Option Tmp) != some k) = false := by simp
    rw [hz, Bool.false_or] at h1
    obtain ⟨e, he, h3⟩ := List.any_eq_true.1 h1
    rw [Bool.and_eq_true] at h3
    exact ⟨e, he, by simpa using h3.1, h3.2⟩
theorem FrameOk.at {a : Act} (h : FrameOk ops a0 a) (k : Nat) (hk : ops.toList.all (fun o => o.dst != some k) = true) : a.tmps.getD k undef = a0.tmps.getD k undef :=
  h.same k fun j hj => by
    unfold slotOf at hj
    cases ho : ops[j]? with
    | none => rw [ho] at hj; cases hj
    | some o =>
      rw [ho] at hj
      have := List.all_eq_true.1 hk o (by simpa using Array.mem_of_getElem? ho)
      simp [show o.dst = some k from hj] at this
theorem op_yields {i : Nat} {o : Oper} {a : Act} {w : World} (v : Value) (h : (execOp a.eval o).run P w = .ok (.value v) w) (hr : R w w) (hv : Hold R (V i (match o.dst with | some _ => v | none => undef)) w) :
    o.wp P a w (OpPost R V i o a w) Q := by
  unfold Oper.wp
  rw [h]
  exact ⟨hr, v, rfl, hv⟩
/-- An operation that makes memory. -/
theorem op_makes {i : Nat} {o : Oper} {a : Act} {w w' : World} (v : Value) (h : (execOp a.eval o).run P w = .ok (.value v) w') (hr : R w w') (hv : Hold R (V i (match o.dst with | some _ => v | none => undef)) w') :
    o.wp P a w (OpPost R V i o a w) Q := by
  unfold Oper.wp
  rw [h]
  exact ⟨hr, v, rfl, hv⟩
/-- A call. -/
theorem op_calls {i : Nat} {o : Oper} {a : Act} {w : World} {f : FuncId} {args : Array Value} (h : (execOp a.eval o).run P w = .ok (.enter f args) w)
    (hc : Calls P f args w fun e w' => ∃ v, e = .returned v ∧ R w w' ∧ Hold R (V i (match o.dst with | some _ => v | none => undef)) w') :
    o.wp P a w (OpPost R V i o a w) Q := by
  unfold Oper.wp
  rw [h]
  refine Calls.mono hc fun e w' hh => ?_
  obtain ⟨v, rfl, h1, h2⟩ := hh
  exact ⟨h1, v, rfl, h2⟩
theorem op_calls2 {i : Nat} {o : Oper} {a : Act} {w : World} {f : FuncId} {args : Array Value}
    (hc : Calls P f args w fun e w' => ∃ v, e = .returned v ∧ R w w' ∧ Hold R (V i (match o.dst with | some _ => v | none => undef)) w') (h : (execOp a.eval o).run P w = .ok (.enter f args) w) :
    o.wp P a w (OpPost R V i o a w) Q := op_calls h hc
theorem op_append {o : Oper} {a : Act} {w w' : World} {s x : Operand} {t : TypeId} {v u v' : Value} (ho : o.op = .call { callee := .builtin .append, args := #[s, x], argTypes := #[t, t] }) (hv : a.eval s = v) (hx : a.eval x = u)
    (hr : (Builtin.append_ #[t, t] o.type #[v, u]).run P w = .ok v' w') : (execOp a.eval o).run P w = .ok (.value v') w' := by
  simp only [execOp, ho, resolve, invoke, builtin, Sem.run_bind, Sem.run_pure, Result.andThen_ok, List.map_toArray, List.map_cons, List.map_nil, hv, hx, hr]
theorem yielded_of {a : Act} {j t : Nat} {b : Bool} (hj : slotOf ops j = some t) (h : a.tmps.getD t undef = .bool b) : yielded ops a.tmps j = some b := by
  unfold yielded slotOf at *
  rw [hj]
  simp only [Option.bind_some]
  cases hc : a.tmps[t]? with
  | none => simp [hc, undef] at h
  | some u => simp [hc] at h; rw [h]
theorem wanted_of {o : Oper} {a : Act} {j : Nat} {b want : Bool} (hg : o.guard = some (j, want)) (h : yielded ops a.tmps j = some b) : Region.wanted o (yielded ops a.tmps) = (b == want) := by
  unfold Region.wanted
  rw [hg]; simp only [h]
  cases b <;> cases want <;> rfl
theorem yielded_undef {a : Act} {j t : Nat} (hj : slotOf ops j = some t) (h : a.tmps.getD t undef = undef) : yielded ops a.tmps j = none := by
  unfold yielded slotOf at *
  rw [hj]
  simp only [Option.bind_some]
  cases hc : a.tmps[t]? with
  | none => rfl
  | some u => simp [hc] at h; rw [h]; rfl
theorem wanted_none {o : Oper} {a : Act} {j : Nat} {want : Bool} (hg : o.guard = some (j, want)) (h : yielded ops a.tmps j = none) : Region.wanted o (yielded ops a.tmps) = false := by
  unfold Region.wanted
  rw [hg]; simp only [h]
  rfl
end
end Go.Proofs.YtcaapbbbekggiaaGreatDoor

namespace Go.Proofs.YtcaapbbbekggiaaGreatDoor
open Go Go.RowKit
set_option linter.unusedVariables false
section
variable {P : Program} {ops : Array Oper} {Q : Exit → Act → World → Prop} {R : World → World → Prop} {G : World → Prop} {V : Nat → Value → World → Prop} {a0 : Act}
theorem wpAny_more {md : Region.Mode} : ∀ (fuel : Nat) (listed : Array Bool) (a : Act) (w : World), wpAny P md ops Q fuel listed a w → wpAny P md ops Q (fuel + 1) listed a w
  | 0, listed, a, w, h => ⟨fun _ => h.2, fun i hi => by rw [h.1] at hi; cases hi⟩
  | fuel + 1, listed, a, w, h => ⟨h.1, fun i hi => wpOp_mono (fun a' w' h' => wpAny_more fuel _ a' w' h') (h.2 i hi)⟩
theorem wpAny_le {md : Region.Mode} {m n : Nat} {listed : Array Bool} {a : Act} {w : World} (h : wpAny P md ops Q m listed a w) (hmn : m ≤ n) : wpAny P md ops Q n listed a w := by
  obtain ⟨k, rfl⟩ : ∃ k, n = m + k := ⟨n - m, by omega⟩
  clear hmn
  induction k with
  | zero => exact h
  | succ k ih => exact wpAny_more _ _ _ _ ih
/-- The first n of m are done. -/
def headN (n m : Nat) : Array Bool := (List.replicate n true ++ List.replicate (m - n) false).toArray
theorem headN_eq {n m : Nat} {listed : Array Bool} (hn : n ≤ m) (hs : listed.size = m) (h1 : ∀ i, i < n → listed.getD i true = true) (h2 : ∀ i, n ≤ i → i < m → listed.getD i true = false) : listed = headN n m := by
  refine Array.ext (by rw [hs]; simp [headN]; omega) fun i hi hi2 => ?_
  by_cases h : i < n
  · have := h1 i h
    simp [hi] at this
    rw [this]
    simp [headN, h]
  · have := h2 i (by omega) (by omega)
    simp [hi] at this
    rw [this]
    simp [headN, List.getElem_append, h]
def leftH (n : Nat) (listed : Array Bool) : Nat := ((List.range n).filter fun i => !listed.getD i true).length
theorem leftH_set {n : Nat} {listed : Array Bool} {i : Nat} (hin : i < n) (hi : listed.getD i true = false) : leftH n (listed.setIfInBounds i true) < leftH n listed := by
  have hlt : i < listed.size := by
    rcases Nat.lt_or_ge i listed.size with h | h
    · exact h
    · simp [Array.getElem?_eq_none h] at hi
  refine filter_less (fun x hx hq => ?_) (List.mem_range.2 hin) (by simp [hi]) (by simp [hlt])
  by_cases h : i = x
  · subst h; simp [hlt] at hq
  · rw [getD_set_ne true h] at hq; exact hq
theorem wpAny_facts_tail (n : Nat) (hback : backB 0 ops.toList = true) (hr0 : ∀ w, R w w) (ht : ∀ a b c, R a b → R b c → R a c) (hb : apartB a0.tmps.size ops.toList = true) (hs : Region.sinkB .any ops n = true) (hc : Region.chainB .any ops n = true) (hn : n < ops.size)
    (hseq : Region.seqB .any ops (ops.size - n) n (headN n ops.size) = true) (hall : AllOps P ops Q R G V a0 0 (ops.toList.take n))
    (hend : ∀ a w, FrameOk ops a0 a → (∀ k, (∀ j, j < n → slotOf ops j ≠ some k) → a.tmps.getD k undef = a0.tmps.getD k undef) → Hold R G w → (∀ i, i < n → Hold R (V i (slotV ops a i)) w) → wpList P ops Q (ops.toList.drop n) a w) :
    ∀ (fuel : Nat) (listed : Array Bool) (a : Act) (w : World), HeadInv .any ops n listed → leftH n listed + (ops.size - n) ≤ fuel → RInv P ops R G V a0 listed a w → wpAny P .any ops Q fuel listed a w := by
  intro fuel
  induction fuel with
  | zero => intro listed a w inv hl hI; omega
  | succ fuel ih =>
    intro listed a w inv hl hI
    by_cases h0 : ∃ i, i < n ∧ listed.getD i true = false
    · obtain ⟨i0, hi0, hu0⟩ := h0
      have hready : ∀ i ∈ Region.ready .any ops listed, i < n := fun i hi => by
        rcases Nat.lt_or_ge i n with h | h
        · exact h
        · exact absurd hi (tail_waits hs hc hn inv (n - i0) i0 rfl hi0 hu0 i h)
      have hne : Region.ready .any ops listed ≠ [] := fun hr => by
        have key : ∀ m, m ≤ n → ∀ i, i < m → listed.getD i true = true := by
          intro m
          induction m with
          | zero => intro _ i hi; omega
          | succ m ihm =>
            intro hm i hi
            by_cases him : i < m
            · exact ihm (by omega) i him
            · have hie : i = m := by omega
              subst hie
              cases hli : listed.getD i true with
              | true => rfl
              | false =>
                exfalso
                have hio : i < ops.size := by omega
                have : i ∈ Region.ready .any ops listed := mem_ready.2 ⟨hli, ops[i], Array.getElem?_eq_getElem hio, fun e he hbb => by
                  have hb3 := backB_at hback i ops[i] (by simp [hio]) e (by simpa using he)
                  have h3 := ihm (by omega) e.on (by omega)
                  have hlt : e.on < listed.size := by rw [inv.size]; omega
                  simp [hlt] at h3 ⊢
                  exact h3⟩
                rw [hr] at this; cases this
        rw [key n (Nat.le_refl _) i0 hi0] at hu0
        cases hu0
      refine ⟨fun h => absurd h hne, fun i hi => ?_⟩
      have hin := hready i hi
      obtain ⟨h1, o, ho, hdone⟩ := mem_ready.1 hi
      have hlt : i < ops.size := (Array.getElem?_eq_some_iff.1 ho).1
      have hok : OpOk P ops Q R G V a0 i o := by
        have := allOps_at hall i o (by rw [List.getElem?_take, if_pos hin]; simpa using ho)
        rwa [Nat.zero_add] at this
      have hdst : o.dst = slotOf ops i := by unfold slotOf; rw [ho]; rfl
      have hlt2 : i < listed.size := by rw [inv.size]; exact hlt
      have hfa : FrameAt ops a0 a i := ⟨hI.fr, fun k hk => hI.early k fun j hj => by
        have hj2 := hj
        unfold slotOf at hj2
        cases hoj : ops[j]? with
        | none => rw [hoj] at hj2; cases hj2
        | some oj =>
          rw [hoj] at hj2
          obtain ⟨e, he, heq, hbb⟩ := hk j oj hoj hj2
          cases hlj : listed.getD j false with
          | false => rfl
          | true =>
            have h5 := hI.closed j oj hoj hlj e he hbb
            rw [heq] at h5
            simp [hlt2] at h1 h5
            rw [h5] at h1; cases h1⟩
      obtain ⟨hw, hno⟩ := hok a w hfa hI.g (deps_of hI.facts _ fun e he hbb => hdone e (by simpa using he) hbb)
      have go : ∀ v w', R w w' → Hold R (V i (match slotOf ops i with | some _ => v | none => undef)) w' → wpAny P .any ops Q fuel (listed.setIfInBounds i true) (a.put (slotOf ops i) v) w' := fun v w' hrw hv => by
        refine ih _ _ _ (inv.set hi hin) (by have := leftH_set hin h1; omega) ⟨hI.fr.put hb i v, fun k hk => ?_, fun j oj hoj hlj e he hbb => ?_, hI.g.trans ht hrw, fun j hj => ?_⟩
        · have hne : slotOf ops i ≠ some k := fun h => by have := hk i h; simp [hlt2] at this
          have h6 := hI.early k fun j hj => by
            have h7 := hk j hj
            by_cases hij : i = j
            · subst hij; simp [hlt2] at h7
            · rwa [getD_set_ne false hij] at h7
          rw [← h6]
          cases hsl : slotOf ops i with
          | none => rfl
          | some d =>
            have hdk : d ≠ k := fun h => hne (by rw [hsl, h])
            simp [Act.put, Array.getElem?_setIfInBounds_ne hdk]
        · by_cases hij : i = j
          · subst hij
            rw [ho] at hoj; injection hoj with hoj; subst hoj
            have h8 := hdone e (by simpa using he) hbb
            by_cases hie : i = e.on
            · rw [← hie]; simp [hlt2]
            · rw [getD_set_ne false hie]; exact h8
          · rw [getD_set_ne false hij] at hlj
            have h8 := hI.closed j oj hoj hlj e he hbb
            by_cases hie : i = e.on
            · rw [← hie]; simp [hlt2]
            · rw [getD_set_ne false hie]; exact h8
        · by_cases hij : i = j
          · subst hij
            have e : slotV ops (a.put (slotOf ops i) v) i = match slotOf ops i with | some _ => v | none => undef := by
              unfold slotV
              cases hsl : slotOf ops i with
              | none => rfl
              | some d =>
                have hd := slotOf_lt hb hsl
                rw [← hI.fr.size] at hd
                simp [Act.put, hd]
            rw [e]
            exact hv
          · rw [slotV_put_other hb hij]
            refine (hI.facts j ?_).trans ht hrw
            rw [getD_set_ne false hij] at hj
            exact hj
      unfold wpOp
      rw [ho]
      simp only
      split
      · rename_i hwant
        refine .inl (Oper.wp_mono (fun a' w' h => ?_) (hw hwant))
        obtain ⟨hrw, v, rfl, hv⟩ := h
        rw [hdst] at hv ⊢
        exact go v w' hrw hv
      · rename_i hwant
        rw [hdst]
        exact go undef w (hr0 w) (by have := hno (by simpa using hwant); cases slotOf ops i <;> exact this)
    · have hall1 : ∀ i, i < n → listed.getD i true = true := fun i hi => by
        cases h : listed.getD i true with
        | true => rfl
        | false => exact absurd ⟨i, hi, h⟩ h0
      have hcan := headN_eq (Nat.le_of_lt hn) inv.size hall1 (fun i h1 h2 => inv.tail i h1 h2)
      have hfalse : ∀ i, i < n → listed.getD i false = true := fun i hi => by
        have h := hall1 i hi
        have hlt : i < listed.size := by rw [inv.size]; omega
        simp [hlt] at h ⊢
        exact h
      have hL := hend a w hI.fr (fun k hk => hI.early k fun j hj => by
        rcases Nat.lt_or_ge j n with h | h
        · exact absurd hj (hk j h)
        · rcases Nat.lt_or_ge j ops.size with h2 | h2
          · exact getD_both (inv.tail j h h2)
          · simp [show listed.size ≤ j by rw [inv.size]; exact h2]) hI.g (fun i hi => hI.facts i (hfalse i hi))
      have hdl : (ops.toList.drop n).length = ops.size - n := by simp
      have := wpAny_of_seq (md := .any) (Q' := Q) (ops.toList.drop n) n listed a w (fun j => by simp [List.getElem?_drop]) (by rw [hdl, hcan]; exact hseq) hL
      rw [hdl] at this
      exact wpAny_le this (by omega)
theorem wp_region_facts_tail {id : Nat} {w : World} (n : Nat) (hm : P.follows .mixedOrders = true) (hr0 : ∀ w, R w w) (ht : ∀ a b c, R a b → R b c → R a c) (hb : apartB a0.tmps.size ops.toList = true) (hback : backB 0 ops.toList = true)
    (hs : Region.sinkB .any ops n = true) (hc : Region.chainB .any ops n = true) (hn : n < ops.size) (hseq : Region.seqB .any ops (ops.size - n) n (headN n ops.size) = true)
    (hG : Hold R G { w with drawn := w.drawn + 1 }) (hall : AllOps P ops Q R G V a0 0 (ops.toList.take n))
    (hend : ∀ vs w', Hold R G w' → AllV R V vs w' 0 (ops.toList.take n) → wpList P ops Q (ops.toList.drop n) (putAll vs 0 (ops.toList.take n) a0) w') : (Code.region id ops true).wp P Q a0 w := by
  have hrep : ∀ j, (Array.replicate ops.size false).getD j false = false := fun j => by by_cases h : j < ops.size <;> simp [h]
  refine wp_region_any hm (wpAny_facts_tail n hback hr0 ht hb hs hc hn hseq hall (fun a w' hfr hea hg hf => ?_) ops.size _ a0 _ ⟨by simp, fun j oj _ hj => ?_, fun t _ h2 => getD_in (by simpa using h2) (hrep t)⟩ (by
    have h1 : leftH n (Array.replicate ops.size false) ≤ n := by unfold leftH; exact Nat.le_trans (List.length_filter_le _ _) (by simp)
    omega) ⟨⟨rfl, rfl, fun _ _ => rfl⟩, fun _ _ => rfl, fun j o _ hj => ?_, hG, fun i hi => ?_⟩)
  · have htl : (ops.toList.take n).length = n := by simp; omega
    have hget : ∀ i o, (ops.toList.take n)[i]? = some o → ops[i]? = some o ∧ i < n := fun i o h => by
      rw [List.getElem?_take] at h
      split at h
      · rename_i h2; exact ⟨by simpa using h, h2⟩
      · cases h
    have h1 := hend (slotV ops a) w' hg (allV_of _ 0 fun i hi => by rw [Nat.zero_add]; exact hf i (by rw [htl] at hi; exact hi))
    have h2 : putAll (slotV ops a) 0 (ops.toList.take n) a0 = a := by
      rw [putAll_congr (ops.toList.take n) 0 a0 a hfr.defers.symm hfr.size.symm fun t hno => (hea t fun j hj hsl => ?_).symm]
      · refine putAll_same _ 0 fun i o ho => ?_
        obtain ⟨ho2, hin⟩ := hget i o ho
        rw [Nat.zero_add]
        have hdst : o.dst = slotOf ops i := by unfold slotOf; rw [ho2]; rfl
        rw [hdst]
        unfold slotV
        cases hsl : slotOf ops i with
        | none => rfl
        | some d =>
          refine act_ext rfl (by simp [Act.put]) fun k => ?_
          by_cases he : d = k
          · subst he
            have hd := slotOf_lt hb hsl
            rw [← hfr.size] at hd
            simp [Act.put, hd]
          · simp [Act.put, Array.getElem?_setIfInBounds_ne he]
      · unfold slotOf at hsl
        cases ho : ops[j]? with
        | none => rw [ho] at hsl; cases hsl
        | some o =>
          rw [ho] at hsl
          have hmem : o ∈ ops.toList.take n := List.mem_of_getElem? (i := j) (by rw [List.getElem?_take, if_pos hj]; simpa using ho)
          exact hno o hmem hsl
    rwa [h2] at h1
  · rw [hrep] at hj; cases hj
  · rw [hrep] at hj; cases hj
  · rw [hrep] at hi; cases hi
end
end Go.Proofs.YtcaapbbbekggiaaGreatDoor

namespace Go.Proofs.YtcaapbbbekggiaaGreatDoor
open Go.RowKit Go.ChangeShapes Go.WideShapes Go.ChangeAt
set_option linter.unusedVariables false
/-- Texts as cells. -/
def strs (l : List ByteArray) : List Value := l.map Value.string
theorem strs_length (l : List ByteArray) : (strs l).length = l.length := by simp [strs]
theorem strs_get (l : List ByteArray) (k : Nat) (h : k < l.length) : (strs l)[k]? = some (.string l[k]) := by simp [strs, h]
theorem Sees.str {w : World} {B : Nat} {A : Option Addr} {n : Nat} {l : List ByteArray} (h : Sees w B 1 A n (strs l)) {k : Nat} (hk : k < n) :
    ∃ ad, ∃ hl : k < l.length, A = some ad ∧ w.cell? (ad.add k) = some (.string l[k]) := by
  have hl : k < l.length := by have := h.len; rw [strs_length] at this; omega
  obtain ⟨ad, u, e, hx, hc⟩ := h.one hk
  rw [strs_get l k hl] at hx
  injection hx with hx; subst hx
  exact ⟨ad, hl, e, hc⟩
theorem Sees.str_len {w : World} {B : Nat} {A : Option Addr} {n : Nat} {l : List ByteArray} (h : Sees w B 1 A n (strs l)) : l.length = n := by
  have := h.len; rw [strs_length] at this; omega
theorem sees_of_cells {w : World} {a : Addr} {len m : Nat} {V : Nat → Value} (hlm : len ≤ m) (h : ∀ i, i < m → w.cell? (a.add i) = some (V i)) :
    Sees w w.heap.size 1 (some a) len ((List.range len).map V) := by
  refine ⟨by simp, fun hn => ⟨a, rfl, ?_, fun j u hu => ?_⟩⟩
  · have := World.block_lt_of_cell? w (a.add 0) (h 0 (by omega))
    rwa [add_block] at this
  · have hj : j < len := by have := (List.getElem?_eq_some_iff.1 hu).1; simpa using this
    rw [List.getElem?_map, List.getElem?_range hj] at hu
    simp at hu; subst hu
    exact h j (by omega)
section
variable {P : Program} {w : World} {base : Nat} {spare : Nat → Bool} {held : Bool} {H : Type} {enc : TypeId × Value → H}
theorem arg_bools {t e : TypeId} {fuel : Nat} {a0 : Option Addr} {len cap : Nat} {x : DataW H × List MemPlace} (ht : P.underlying t = some (.slice e)) (he : P.underlying e = some .bool) (hc : P.cellsOf e = 1)
    (h : DataW.trod enc P w base spare held fuel t (Value.slice a0 len cap).cells.toList = some x) :
    ∃ zs : List Bool, Sees w w.heap.size 1 a0 len (bools zs) ∧ len ≤ cap ∧ cap ≤ 9223372036854775807 := by
  rcases Deep.open_slice1 ht hc h with ⟨hcs, _⟩ | ⟨a, l, c, m, n, V, D, Pl, hcs, _, hl, hm, hmm, _, hx⟩
  · simp [Value.cells] at hcs
    obtain ⟨rfl, rfl, rfl⟩ := hcs
    exact ⟨[], by simpa [bools] using Sees.nil, Nat.le_refl _, by omega⟩
  · simp [Value.cells] at hcs
    obtain ⟨rfl, rfl, rfl⟩ := hcs
    have hlm : len ≤ m := by rw [hmm]; split <;> omega
    refine ⟨(List.range len).map fun i => match V i with | .bool b => b | _ => false, ?_, hl, by unfold maxLen at hm; exact hm⟩
    have := sees_of_cells hlm fun i hi => (hx i hi).1
    have e : bools ((List.range len).map fun i => match V i with | .bool b => b | _ => false) = (List.range len).map V := by
      unfold bools
      rw [List.map_map]
      refine List.map_congr_left fun i hi => ?_
      have hi' : i < m := by have := List.mem_range.1 hi; omega
      obtain ⟨b, hb, _⟩ := DataW.trod_bool he (hx i hi').2
      simp at hb
      simp [hb]
    rw [e]; exact this
theorem arg_strs {t e : TypeId} {fuel : Nat} {a0 : Option Addr} {len cap : Nat} {x : DataW H × List MemPlace} (ht : P.underlying t = some (.slice e)) (he : P.underlying e = some .string) (hc : P.cellsOf e = 1)
    (h : DataW.trod enc P w base spare held fuel t (Value.slice a0 len cap).cells.toList = some x) :
    ∃ zs : List ByteArray, Sees w w.heap.size 1 a0 len (strs zs) ∧ len ≤ cap ∧ cap ≤ 9223372036854775807 ∧ ∀ s ∈ zs, s.size ≤ maxLen := by
  rcases Deep.open_slice1 ht hc h with ⟨hcs, _⟩ | ⟨a, l, c, m, n, V, D, Pl, hcs, _, hl, hm, hmm, _, hx⟩
  · simp [Value.cells] at hcs
    obtain ⟨rfl, rfl, rfl⟩ := hcs
    exact ⟨[], by simpa [strs] using Sees.nil, Nat.le_refl _, by omega, by simp⟩
  · simp [Value.cells] at hcs
    obtain ⟨rfl, rfl, rfl⟩ := hcs
    have hlm : len ≤ m := by rw [hmm]; split <;> omega
    have each : ∀ i, i < m → ∃ s : ByteArray, V i = .string s ∧ s.size ≤ maxLen := by
      intro i hi
      obtain ⟨s, hs, _, hz⟩ := DataW.trod_string he (hx i hi).2
      simp at hs
      exact ⟨s, hs, hz⟩
    refine ⟨(List.range len).map fun i => match V i with | .string b => b | _ => ByteArray.empty, ?_, hl, by unfold maxLen at hm; exact hm, ?_⟩
    · have := sees_of_cells hlm fun i hi => (hx i hi).1
      have e : strs ((List.range len).map fun i => match V i with | .string b => b | _ => ByteArray.empty) = (List.range len).map V := by
        unfold strs
        rw [List.map_map]
        refine List.map_congr_left fun i hi => ?_
        obtain ⟨s, hs, _⟩ := each i (by have := List.mem_range.1 hi; omega)
        simp [hs]
      rw [e]; exact this
    · intro s hs
      simp only [List.mem_map, List.mem_range] at hs
      obtain ⟨i, hi, rfl⟩ := hs
      obtain ⟨s, hs, hz⟩ := each i (by omega)
      simp [hs, hz]
theorem arg_ints {t e : TypeId} {fuel : Nat} {a0 : Option Addr} {len cap : Nat} {x : DataW H × List MemPlace} (ht : P.underlying t = some (.slice e)) (he : P.underlying e = some (.int .i64)) (hc : P.cellsOf e = 1)
    (h : DataW.trod enc P w base spare held fuel t (Value.slice a0 len cap).cells.toList = some x) :
    ∃ zs : List Int, Sees w w.heap.size 1 a0 len (ints zs) ∧ len ≤ cap ∧ cap ≤ 9223372036854775807 ∧ ∀ z ∈ zs, (Lit.int .i64 z).wf = true := by
  rcases open_ints ht he hc h with ⟨hcs, _⟩ | ⟨x, l, c, zs, hcs, _, hl, hm, hz, _, hcell, hwz⟩
  · simp [Value.cells] at hcs
    obtain ⟨rfl, rfl, rfl⟩ := hcs
    exact ⟨[], by simpa [ints] using Sees.nil, Nat.le_refl _, by omega, by simp⟩
  · simp [Value.cells] at hcs
    obtain ⟨rfl, rfl, rfl⟩ := hcs
    have hlz : len ≤ zs.length := by rw [hz]; split <;> omega
    refine ⟨zs.take len, ?_, hl, by unfold maxLen at hm; exact hm, fun z hzz => hwz z (List.mem_of_mem_take hzz)⟩
    have := sees_of_cells (V := fun i => .int .i64 (zs.getD i 0)) hlz fun i hi => hcell i hi
    have e : ints (zs.take len) = (List.range len).map fun i => Value.int .i64 (zs.getD i 0) := by
      refine List.ext_getElem? fun i => ?_
      by_cases hi : i < len
      · rw [ints_get _ i (by rw [List.length_take]; omega), List.getElem?_map, List.getElem?_range hi]
        simp [List.getD_eq_getElem?_getD, List.getElem?_eq_getElem (show i < zs.length by omega)]
      · rw [List.getElem?_eq_none (by rw [ints_length, List.length_take]; omega), List.getElem?_eq_none (by simp; omega)]
    rw [e]; exact this
end
end Go.Proofs.YtcaapbbbekggiaaGreatDoor

namespace Go.Proofs.YtcaapbbbekggiaaGreatDoor
open Go.ChangeShapes Go.WideShapes Go.ChangeAt Go.RowKit
set_option linter.unusedVariables false
set_option maxRecDepth 100000
abbrev Mtc := ByteArray × ByteArray × Int
/-- Matchers as cells: names, values and kinds. -/
def mtcs (l : List Mtc) : List Value := l.flatMap fun x => [.string x.1, .string x.2.1, .int .i64 x.2.2]
theorem mtcs_length (l : List Mtc) : (mtcs l).length = l.length * 3 := by
  induction l with
  | nil => rfl
  | cons x l ih => simp only [mtcs, List.flatMap_cons, List.length_append, List.length_cons, List.length_nil] at ih ⊢; omega
theorem mtcs_append (l m : List Mtc) : mtcs (l ++ m) = mtcs l ++ mtcs m := by simp [mtcs]
theorem mtcs_one (l : List Mtc) : ∀ u ∈ mtcs l, u.oneCell' = true := by
  intro u hu
  simp only [mtcs, List.mem_flatMap] at hu
  obtain ⟨x, _, hu⟩ := hu
  simp at hu
  rcases hu with rfl | rfl | rfl <;> rfl
theorem mtcs_get (l : List Mtc) (p : Nat) (h : p < l.length) : (mtcs l)[p * 3]? = some (.string l[p].1) ∧ (mtcs l)[p * 3 + 1]? = some (.string l[p].2.1) ∧ (mtcs l)[p * 3 + 2]? = some (.int .i64 l[p].2.2) := by
  have e : mtcs l = mtcs (l.take p) ++ (mtcs [l[p]] ++ mtcs (l.drop (p + 1))) := by
    rw [← mtcs_append, ← mtcs_append, List.singleton_append, ← List.drop_eq_getElem_cons h, List.take_append_drop]
  have hl : (mtcs (l.take p)).length = p * 3 := by rw [mtcs_length, List.length_take]; omega
  rw [e]
  refine ⟨?_, ?_, ?_⟩
  · rw [List.getElem?_append_right (by omega), hl, Nat.sub_self]; rfl
  · rw [List.getElem?_append_right (by omega), hl, show p * 3 + 1 - p * 3 = 1 by omega]; rfl
  · rw [List.getElem?_append_right (by omega), hl, show p * 3 + 2 - p * 3 = 2 by omega]; rfl
theorem mtcs_take (l : List Mtc) (k : Nat) : (mtcs l).take (k * 3) = mtcs (l.take k) := by
  by_cases h : k ≤ l.length
  · conv => lhs; rw [← List.take_append_drop k l, mtcs_append]
    rw [List.take_append_of_le_length (by rw [mtcs_length, List.length_take]; omega), List.take_of_length_le (by rw [mtcs_length, List.length_take]; omega)]
  · rw [List.take_of_length_le (by rw [mtcs_length]; omega), List.take_of_length_le (by omega)]
theorem mtcs_drop (l : List Mtc) (k : Nat) : (mtcs l).drop (k * 3) = mtcs (l.drop k) := by
  by_cases h : k ≤ l.length
  · have hl : (mtcs (l.take k)).length = k * 3 := by rw [mtcs_length, List.length_take]; omega
    conv => lhs; rw [← List.take_append_drop k l, mtcs_append]
    rw [← hl, List.drop_left]
  · rw [List.drop_of_length_le (by rw [mtcs_length]; omega), List.drop_of_length_le (by omega)]; rfl
theorem Sees.mtc {w : World} {B : Nat} {A : Option Addr} {n : Nat} {l : List Mtc} (h : Sees w B 3 A n (mtcs l)) {k : Nat} (hk : k < n) :
    ∃ ad, ∃ hl : k < l.length, A = some ad ∧ w.cell? (ad.add (k * 3)) = some (.string l[k].1) ∧ w.cell? ⟨(ad.add (k * 3)).block, (ad.add (k * 3)).off + 1, none⟩ = some (.string l[k].2.1) ∧ w.cell? ⟨(ad.add (k * 3)).block, (ad.add (k * 3)).off + 2, none⟩ = some (.int .i64 l[k].2.2) := by
  have hl : k < l.length := by have := h.len; rw [mtcs_length] at this; omega
  obtain ⟨ad, e, _, hc⟩ := h.at_ (by omega)
  obtain ⟨h0, h1, h2⟩ := mtcs_get l k hl
  exact ⟨ad, hl, e, hc _ _ h0, by rw [add_spelt _ _ _ (by omega)]; exact hc _ _ h1, by rw [add_spelt _ _ _ (by omega)]; exact hc _ _ h2⟩
theorem Sees.mtc_len {w : World} {B : Nat} {A : Option Addr} {n : Nat} {l : List Mtc} (h : Sees w B 3 A n (mtcs l)) : l.length = n := by
  have := h.len; rw [mtcs_length] at this; omega
/-- A kind's sign. -/
def signF (k : Int) : ByteArray := if k = 1 then ⟨#[61]⟩ else if k = 2 then ⟨#[33, 61]⟩ else if k = 3 then ⟨#[94, 61]⟩ else if k = 4 then ⟨#[33, 94]⟩ else ⟨#[]⟩
/-- A value is these matchers. -/
def HasM (w : World) (v : Value) (l : List Mtc) : Prop := ∃ A c, v = .slice A l.length c ∧ Sees w w.heap.size 3 A l.length (mtcs l) ∧ l.length ≤ c ∧ c ≤ 9223372036854775807
theorem HasM.below {w w' : World} {v : Value} {l : List Mtc} (h : HasM w v l) (hb : Below w.heap.size w w') : HasM w' v l := by
  obtain ⟨A, c, h1, h2, h3⟩ := h
  exact ⟨A, c, h1, (h2.below hb).more hb.size, h3⟩
theorem HasM.drewN {w : World} {v : Value} {l : List Mtc} (h : HasM w v l) (n : Nat) : HasM (w.drewN n) v l := by
  obtain ⟨A, c, h1, h2, h3⟩ := h
  exact ⟨A, c, h1, h2.drewN n, h3⟩
theorem HasM.sees {w : World} {A : Option Addr} {n c : Nat} {l : List Mtc} (h : HasM w (.slice A n c) l) : Sees w w.heap.size 3 A n (mtcs l) := by
  obtain ⟨A', c', h1, h2, h3, h4⟩ := h
  injection h1 with h1 h5 h6
  subst h1; subst h5; subst h6
  exact h2
def mtcL (x : Mtc) : List UInt8 := x.1.data.toList ++ ((signF x.2.2).data.toList ++ quoteL x.2.1.data.toList)
/-- Matchers' texts, commas between. -/
def joinM : List Mtc → List UInt8
  | [] => []
  | x :: l => mtcL x ++ (if l.isEmpty then [] else 44 :: joinM l)
theorem joinM_snoc (l : List Mtc) (x : Mtc) : joinM (l ++ [x]) = joinM l ++ (if l.isEmpty then mtcL x else 44 :: mtcL x) := by
  induction l with
  | nil => simp [joinM]
  | cons y l ih =>
    rw [List.cons_append, joinM, joinM, ih]
    cases l <;> simp [joinM]
end Go.Proofs.YtcaapbbbekggiaaGreatDoor

namespace Go.Proofs.YtcaapbbbekggiaaGreatDoor
open Go.ChangeShapes Go.WideShapes Go.ChangeAt Go.RowKit
set_option linter.unusedVariables false

/-- A number brought into lo .. hi. -/
def nWithin (n lo hi : Int) : Int := lo + n % (hi - lo + 1)
theorem nWithin_in (n : Int) {lo hi : Int} (h : lo ≤ hi) : lo ≤ nWithin n lo hi ∧ nWithin n lo hi ≤ hi := by
  unfold nWithin
  have h1 := Int.emod_nonneg n (show hi - lo + 1 ≠ 0 by omega)
  have h2 := Int.emod_lt_of_pos n (show 0 < hi - lo + 1 by omega)
  omega
theorem tmod_parts {n d : Int} (hd : 0 < d) : (n.tmod d = n % d ∨ n.tmod d = n % d - d ∧ 0 < n % d) ∧ 0 ≤ n % d ∧ n % d < d := by
  have h1 : n.tmod d = n % d - _ := Int.tmod_eq_emod
  have h2 := Int.emod_nonneg n (show d ≠ 0 by omega)
  have h3 := Int.emod_lt_of_pos n hd
  refine ⟨?_, h2, h3⟩
  split at h1
  · exact .inl (by simpa using h1)
  · rename_i hc
    refine .inr ⟨by omega, ?_⟩
    have : n % d ≠ 0 := fun h => hc (.inr (Int.dvd_of_emod_eq_zero h))
    omega
theorem tmod_neg {n d : Int} (hd : 0 < d) (h : n.tmod d < 0) : n % d = n.tmod d + d := by
  have := tmod_parts (n := n) hd; omega
theorem tmod_pos {n d : Int} (hd : 0 < d) (h : ¬ n.tmod d < 0) : n % d = n.tmod d := by
  have := tmod_parts (n := n) hd; omega
theorem within_any (n lo hi : Int) (w : World) (wn : I64 n) (h1 : -4611686018427387904 ≤ lo) (h2 : lo ≤ hi) (h3 : hi ≤ 4611686018427387000) :
    Calls Tryz.prog 35 #[.int .i64 n, .int .i64 lo, .int .i64 hi] w fun e w' => e = .returned (.int .i64 (nWithin n lo hi)) ∧ w = w' := by
  have hd : 0 < hi - lo + 1 := by omega
  have hz : ¬ hi - lo + 1 = 0 := by omega
  have hb : -(hi - lo + 1) < n.tmod (hi - lo + 1) ∧ n.tmod (hi - lo + 1) < hi - lo + 1 := by
    have := tmod_parts (n := n) hd
    omega
  by_cases hm : n.tmod (hi - lo + 1) < 0
  · have HW := Lib.hid (show lo + (n.tmod (hi - lo + 1) + hi - lo + 1) = nWithin n lo hi by unfold nWithin; rw [tmod_neg hd hm]; omega)
    clear wn
    go_enter Tryz.func35, Tryz.ntmps35
    go_wp2
    go_ret
    exact ⟨ret_int HW.out, rfl⟩
  · have HW := Lib.hid (show lo + n.tmod (hi - lo + 1) = nWithin n lo hi by unfold nWithin; rw [tmod_pos hd hm])
    clear wn
    go_enter Tryz.func35, Tryz.ntmps35
    go_wp2
    go_ret
    exact ⟨ret_int HW.out, rfl⟩
end Go.Proofs.YtcaapbbbekggiaaGreatDoor

namespace Go.Proofs.YtcaapbbbekggiaaGreatDoor
open Go.ChangeShapes Go.WideShapes Go.ChangeAt Go.RowKit Go.Deep
set_option linter.unusedVariables false
/-- klaxonkeep's names and values. -/
def keepNames : List ByteArray := [⟨#[97]⟩, ⟨#[98]⟩, ⟨#[99]⟩, ⟨#[110, 97, 109, 101]⟩]
def keepValues : List ByteArray := [⟨#[120]⟩, ⟨#[121]⟩, ⟨#[120, 121]⟩, ⟨#[49]⟩, ⟨#[34]⟩, ⟨#[92]⟩, ⟨#[123, 125]⟩, ⟨#[122, 32, 122]⟩]
/-- A number of a row, round and round. -/
def pickF (l : List Int) (i : Nat) : Int := if h : 0 < l.length then l[i % l.length]'(Nat.mod_lt _ h) else 0
/-- Numbers of which a set is made. -/
structure KSet where
  A : Option Addr
  n : Nat
  c : Nat
  has : List Int
  A2 : Option Addr
  n2 : Nat
  c2 : Nat
  vals : List Int
def KSet.val (k : KSet) : Value := .agg #[.slice k.A k.n k.c, .slice k.A2 k.n2 k.c2]
structure KSet.ok (k : KSet) (B : Nat) (w : World) : Prop where
  has_ : Sees w B 1 k.A k.n (ints k.has)
  hasI : ∀ z ∈ k.has, I64 z
  n_ : k.n ≤ k.c ∧ k.c ≤ 9223372036854775807
  vals_ : Sees w B 1 k.A2 k.n2 (ints k.vals)
  valsI : ∀ z ∈ k.vals, I64 z
  n2_ : k.n2 ≤ k.c2 ∧ k.c2 ≤ 9223372036854775807
theorem KSet.ok.below {k : KSet} {B : Nat} {w w' : World} (h : k.ok B w) (hb : Below B w w') : k.ok B w' := ⟨h.has_.below hb, h.hasI, h.n_, h.vals_.below hb, h.valsI, h.n2_⟩
section
variable {P : Program} {w : World} {base b0 : Nat} {spare : Nat → Bool} {held : Bool} {H : Type} {enc : TypeId × Value → H}
theorem arg_ints_cs {t e : TypeId} {fuel : Nat} {v : Value} {x : DataW H × List MemPlace} (ht : P.underlying t = some (.slice e)) (he : P.underlying e = some (.int .i64)) (hc : P.cellsOf e = 1)
    (h : DataW.trod enc P w base spare held fuel t [v] = some x) :
    ∃ (a0 : Option Addr) (len cap : Nat) (zs : List Int), v = .slice a0 len cap ∧ Sees w w.heap.size 1 a0 len (ints zs) ∧ len ≤ cap ∧ cap ≤ 9223372036854775807 ∧ ∀ z ∈ zs, I64 z := by
  have key : ∀ a0 len cap, v = .slice a0 len cap → ∃ zs : List Int, Sees w w.heap.size 1 a0 len (ints zs) ∧ len ≤ cap ∧ cap ≤ 9223372036854775807 ∧ ∀ z ∈ zs, I64 z := by
    intro a0 len cap hv
    subst hv
    obtain ⟨zs, h1, h2, h3, h4⟩ := arg_ints ht he hc (a0 := a0) (len := len) (cap := cap) (by simpa [Value.cells] using h)
    exact ⟨zs, h1, h2, h3, fun z hz => wf_of (h4 z hz)⟩
  rcases open_ints ht he hc h with ⟨hcs, _⟩ | ⟨x, l, c, zs, hcs, _⟩
  · simp only [List.cons.injEq, and_true] at hcs
    obtain ⟨zs, hz⟩ := key _ _ _ hcs
    exact ⟨_, _, _, zs, hcs, hz⟩
  · simp only [List.cons.injEq, and_true] at hcs
    obtain ⟨zs, hz⟩ := key _ _ _ hcs
    exact ⟨_, _, _, zs, hcs, hz⟩
theorem arg_set {r : Reach} {t te : TypeId} {f0 f1 : Field} {v : Value} {d : DataW H} {p : List MemPlace} (hs : P.underlying t = some (.struct #[f0, f1])) (hone : oneCellFields P #[f0, f1] = true) (hC : P.cellsOf t = 2)
    (u0 : P.underlying f0.type = some (.slice te)) (u1 : P.underlying f1.type = some (.slice te)) (he : P.underlying te = some (.int .i64)) (ce : P.cellsOf te = 1)
    (hv : Value.okWide P w r b0 t v) (h : DataW.Trod enc P w base spare held t v d p) : ∃ k : KSet, v = k.val ∧ k.ok w.heap.size w := by
  obtain ⟨c0, c1, y0, y1, m, rfl, _, _, h0, h1⟩ := Go.Joins.open_agg2 hs hone hC hv h
  obtain ⟨a0, n0, cp0, z0, rfl, s0, l0, m0, i0⟩ := arg_ints_cs u0 he ce h0
  obtain ⟨a1, n1, cp1, z1, rfl, s1, l1, m1, i1⟩ := arg_ints_cs u1 he ce h1
  exact ⟨⟨a0, n0, cp0, z0, a1, n1, cp1, z1⟩, rfl, ⟨s0, i0, ⟨l0, m0⟩, s1, i1, ⟨l1, m1⟩⟩⟩
end
end Go.Proofs.YtcaapbbbekggiaaGreatDoor

namespace Go.Proofs.YtcaapbbbekggiaaGreatDoor
open Go.ChangeShapes Go.WideShapes Go.ChangeAt Go.RowKit
set_option linter.unusedVariables false
set_option maxRecDepth 100000
theorem names_any (w : World) : Calls Tryz.prog 36 #[] w fun e w' => e = .returned (.slice (some ⟨w.heap.size, 0, none⟩) 4 4) ∧ w.alloc (.cells (strs keepNames).toArray 9) = w' := by
  go_enter Tryz.func36, Tryz.ntmps36
  go_wp2_with fail
  go_ret
  exact ⟨rfl, rfl⟩
theorem values_any (w : World) : Calls Tryz.prog 37 #[] w fun e w' => e = .returned (.slice (some ⟨w.heap.size, 0, none⟩) 8 8) ∧ w.alloc (.cells (strs keepValues).toArray 9) = w' := by
  go_enter Tryz.func37, Tryz.ntmps37
  go_wp2_with fail
  go_ret
  exact ⟨rfl, rfl⟩
theorem pick_any (A : Option Addr) (n c B : Nat) (l : List Int) (i : Nat) (w : World) (h : Sees w B 1 A n (ints l)) (hn : n ≤ 9223372036854775807) (hi : i ≤ 9223372036854775807) :
    Calls Tryz.prog 53 #[.slice A n c, .int .i64 i] w fun e w' => e = .returned (.int .i64 (pickF l i)) ∧ w = w' := by
  have hl := h.int_len
  by_cases h0 : 0 < n
  · have hm := Nat.mod_lt i h0
    obtain ⟨ad, hkl, rfl, hc⟩ := h.int hm
    have hp : pickF l i = l[i % n] := by rw [pickF, dif_pos (by omega)]; simp only [hl]
    have HP := Lib.hid hp
    have z1 : ¬ (n : Int) = 0 := by omega
    have z2 : ((n : Int) == 0) = false := by rw [beq_eq_false_iff_ne]; omega
    have z3 : (i : Int).tmod n = ((i % n : Nat) : Int) := rfl
    generalize l[i % n] = x at *
    generalize i % n = k at *
    clear hp h hl h0
    go_enter Tryz.func53, Tryz.ntmps53
    go_wp2_with fail
    go_ret
    exact ⟨ret_int HP.out.symm, rfl⟩
  · obtain rfl : n = 0 := by omega
    have hp : pickF l i = 0 := by rw [pickF, dif_neg (by omega)]
    have HP := Lib.hid hp
    clear hp h hl h0
    go_enter Tryz.func53, Tryz.ntmps53
    go_wp2_with fail
    go_ret
    exact ⟨ret_int HP.out.symm, rfl⟩
end Go.Proofs.YtcaapbbbekggiaaGreatDoor

namespace Go.Proofs.YtcaapbbbekggiaaGreatDoor
open Go.ChangeShapes Go.WideShapes Go.ChangeAt Go.RowKit
set_option linter.unusedVariables false
set_option maxRecDepth 100000
/-- Rows of five cells. -/
def quint (l : List (Value × Value × Value × Value × Value)) : List Value := l.flatMap fun x => [x.1, x.2.1, x.2.2.1, x.2.2.2.1, x.2.2.2.2]
theorem quint_length (l : List (Value × Value × Value × Value × Value)) : (quint l).length = l.length * 5 := by
  induction l with
  | nil => rfl
  | cons x l ih => simp only [quint, List.flatMap_cons, List.length_append, List.length_cons, List.length_nil] at ih ⊢; omega
theorem quint_append (l m : List (Value × Value × Value × Value × Value)) : quint (l ++ m) = quint l ++ quint m := by simp [quint]
theorem quint_get (l : List (Value × Value × Value × Value × Value)) (p : Nat) (h : p < l.length) : (quint l)[p * 5]? = some l[p].1 ∧ (quint l)[p * 5 + 1]? = some l[p].2.1 ∧ (quint l)[p * 5 + 2]? = some l[p].2.2.1 ∧ (quint l)[p * 5 + 3]? = some l[p].2.2.2.1 ∧ (quint l)[p * 5 + 4]? = some l[p].2.2.2.2 := by
  have e : quint l = quint (l.take p) ++ (quint [l[p]] ++ quint (l.drop (p + 1))) := by
    rw [← quint_append, ← quint_append, List.singleton_append, ← List.drop_eq_getElem_cons h, List.take_append_drop]
  have hl : (quint (l.take p)).length = p * 5 := by rw [quint_length, List.length_take]; omega
  rw [e]
  refine ⟨?_, ?_, ?_, ?_, ?_⟩
  · rw [List.getElem?_append_right (by omega), hl, Nat.sub_self]; rfl
  · rw [List.getElem?_append_right (by omega), hl, show p * 5 + 1 - p * 5 = 1 by omega]; rfl
  · rw [List.getElem?_append_right (by omega), hl, show p * 5 + 2 - p * 5 = 2 by omega]; rfl
  · rw [List.getElem?_append_right (by omega), hl, show p * 5 + 3 - p * 5 = 3 by omega]; rfl
  · rw [List.getElem?_append_right (by omega), hl, show p * 5 + 4 - p * 5 = 4 by omega]; rfl
theorem Sees.quint {w : World} {B : Nat} {A : Option Addr} {n : Nat} {l : List (Value × Value × Value × Value × Value)} (h : Sees w B 5 A n (quint l)) {k : Nat} (hk : k < n) :
    ∃ ad, ∃ hl : k < l.length, A = some ad ∧ w.cell? (ad.add (k * 5)) = some l[k].1 ∧ w.cell? ⟨(ad.add (k * 5)).block, (ad.add (k * 5)).off + 1, none⟩ = some l[k].2.1 ∧ w.cell? ⟨(ad.add (k * 5)).block, (ad.add (k * 5)).off + 2, none⟩ = some l[k].2.2.1 ∧ w.cell? ⟨(ad.add (k * 5)).block, (ad.add (k * 5)).off + 3, none⟩ = some l[k].2.2.2.1 ∧ w.cell? ⟨(ad.add (k * 5)).block, (ad.add (k * 5)).off + 4, none⟩ = some l[k].2.2.2.2 := by
  have hl : k < l.length := by have := h.len; rw [quint_length] at this; omega
  obtain ⟨ad, e, _, hc⟩ := h.at_ (by omega)
  obtain ⟨h0, h1, h2, h3, h4⟩ := quint_get l k hl
  exact ⟨ad, hl, e, hc _ _ h0, by rw [add_spelt _ _ _ (by omega)]; exact hc _ _ h1, by rw [add_spelt _ _ _ (by omega)]; exact hc _ _ h2, by rw [add_spelt _ _ _ (by omega)]; exact hc _ _ h3, by rw [add_spelt _ _ _ (by omega)]; exact hc _ _ h4⟩
/-- An expression: its kind, its number, the value that its matchers lie under, they, its names', they, its kids', they. -/
inductive XE where
  | mk (kd n : Int) (mv : Value) (ms : List Mtc) (nv : Value) (ns : List ByteArray) (kv : Value) (kids : List XE)
def XE.kd : XE → Int | .mk a _ _ _ _ _ _ _ => a
def XE.n : XE → Int | .mk _ a _ _ _ _ _ _ => a
def XE.mv : XE → Value | .mk _ _ a _ _ _ _ _ => a
def XE.ms : XE → List Mtc | .mk _ _ _ a _ _ _ _ => a
def XE.nv : XE → Value | .mk _ _ _ _ a _ _ _ => a
def XE.ns : XE → List ByteArray | .mk _ _ _ _ _ a _ _ => a
def XE.kv : XE → Value | .mk _ _ _ _ _ _ a _ => a
def XE.kids : XE → List XE | .mk _ _ _ _ _ _ _ a => a
def XE.cells (x : XE) : Value × Value × Value × Value × Value := (.int .i64 x.kd, .int .i64 x.n, x.mv, x.nv, x.kv)
def XE.val (x : XE) : Value := .agg #[.int .i64 x.kd, .int .i64 x.n, x.mv, x.nv, x.kv]
/-- Expressions one behind the other. -/
def kcells (l : List XE) : List Value := quint (l.map XE.cells)
theorem kcells_append (l m : List XE) : kcells (l ++ m) = kcells l ++ kcells m := by unfold kcells; rw [List.map_append, quint_append]
theorem kcells_length (l : List XE) : (kcells l).length = l.length * 5 := by unfold kcells; rw [quint_length, List.length_map]
theorem Sees.kid {w : World} {B : Nat} {A : Option Addr} {n : Nat} {l : List XE} (h : Sees w B 5 A n (kcells l)) {k : Nat} (hk : k < n) :
    ∃ ad, ∃ hl : k < l.length, A = some ad ∧ w.cell? (ad.add (k * 5)) = some (.int .i64 l[k].kd) ∧ w.cell? ⟨(ad.add (k * 5)).block, (ad.add (k * 5)).off + 1, none⟩ = some (.int .i64 l[k].n) ∧ w.cell? ⟨(ad.add (k * 5)).block, (ad.add (k * 5)).off + 2, none⟩ = some l[k].mv ∧ w.cell? ⟨(ad.add (k * 5)).block, (ad.add (k * 5)).off + 3, none⟩ = some l[k].nv ∧ w.cell? ⟨(ad.add (k * 5)).block, (ad.add (k * 5)).off + 4, none⟩ = some l[k].kv := by
  obtain ⟨ad, hl, e, h0, h1, h2, h3, h4⟩ := Sees.quint h hk
  have hl2 : k < l.length := by simpa using hl
  rw [List.getElem_map] at h0 h1 h2 h3 h4
  exact ⟨ad, hl2, e, h0, h1, h2, h3, h4⟩
/-- An expression of so many floors lies in memory. -/
def okX : Nat → XE → World → Prop
  | 0, _, _ => False
  | d + 1, x, w => Slc w 3 x.mv x.ms.length (mtcs x.ms) ∧ Slc w 1 x.nv x.ns.length (strs x.ns) ∧ Slc w 5 x.kv x.kids.length (kcells x.kids) ∧ ∀ k ∈ x.kids, okX d k w
theorem okX_below {w w' : World} (hb : Below w.heap.size w w') : ∀ (d : Nat) (x : XE), okX d x w → okX d x w'
  | 0, _, h => h.elim
  | d + 1, x, h => ⟨h.1.below hb, h.2.1.below hb, h.2.2.1.below hb, fun k hk => okX_below hb d k (h.2.2.2 k hk)⟩
theorem okX_stays {w : World} {d : Nat} {x : XE} (h : okX d x w) : Stays (fun W => okX d x W) w := fun _ hb => okX_below hb d x h
theorem okX_more {w : World} : ∀ (d : Nat) (x : XE), okX d x w → okX (d + 1) x w
  | 0, _, h => h.elim
  | d + 1, x, h => ⟨h.1, h.2.1, h.2.2.1, fun k hk => okX_more d k (h.2.2.2 k hk)⟩
theorem okX_far {S : Nat → Prop} {w : World} {d : Nat} {kd n : Int} {mv nv kv : Value} {ms : List Mtc} {ns : List ByteArray} {ks : List XE}
    (h1 : FarS S (fun W => Slc W 3 mv ms.length (mtcs ms)) w) (h2 : FarS S (fun W => Slc W 1 nv ns.length (strs ns)) w) (h3 : FarS S (fun W => Slc W 5 kv ks.length (kcells ks)) w) (h4 : ∀ k ∈ ks, FarS S (okX d k) w) :
    FarS S (okX (d + 1) (.mk kd n mv ms nv ns kv ks)) w := fun V hs hk => ⟨h1 V hs hk, h2 V hs hk, h3 V hs hk, fun k hm => h4 k hm V hs hk⟩
theorem okX_forms {d : Nat} {x : XE} {w : World} (h : okX d x w) : ∃ A1 c1 A2 c2 A3 c3, x.mv = .slice A1 x.ms.length c1 ∧ x.nv = .slice A2 x.ns.length c2 ∧ x.kv = .slice A3 x.kids.length c3 := by
  cases d with
  | zero => exact h.elim
  | succ d =>
    obtain ⟨⟨A1, c1, e1, _⟩, ⟨A2, c2, e2, _⟩, ⟨A3, c3, e3, _⟩, _⟩ := h
    exact ⟨A1, c1, A2, c2, A3, c3, e1, e2, e3⟩
/-- What klaxonkeep makes: a number of numbers .. -/
def keepN : Nat → XE → Prop
  | 0, _ => False
  | d + 1, x => (x.kd = 1 ∧ -3 ≤ x.n ∧ x.n ≤ 5 ∧ x.ms = [] ∧ x.ns = [] ∧ x.kids = []) ∨ (3 ≤ x.kd ∧ x.kd ≤ 5 ∧ x.n = 0 ∧ x.ms = [] ∧ x.ns = [] ∧ ∃ a b, x.kids = [a, b] ∧ (a.kd = 1 ∧ -3 ≤ a.n ∧ a.n ≤ 5 ∧ a.ms = [] ∧ a.ns = [] ∧ a.kids = []) ∧ keepN d b)
/-- .. its matchers .. -/
def keepMs (ms : List Mtc) : Prop := ∃ c : UInt8, (c = 109 ∨ c = 110) ∧ (ms = [(⟨#[110, 97, 109, 101]⟩, ⟨#[c]⟩, 1)] ∨ ∃ a q : Nat, ∃ kd : Int, a < 3 ∧ q < 4 ∧ 1 ≤ kd ∧ kd ≤ 4 ∧ ms = [(⟨#[110, 97, 109, 101]⟩, ⟨#[c]⟩, 1), (keepNames.getD a ⟨#[]⟩, keepValues.getD q ⟨#[]⟩, kd)])
/-- .. its names .. -/
def keepNs (ns : List ByteArray) : Prop := List.Sublist ns keepNames
/-- .. a vector of numbers. -/
def keepV : Nat → XE → Prop
  | 0, _ => False
  | d + 1, x =>
    (x.kd = 2 ∧ 1 ≤ x.n ∧ x.n ≤ 30 ∧ keepMs x.ms ∧ x.ns = [] ∧ x.kids = []) ∨
    (8 ≤ x.kd ∧ x.kd ≤ 13 ∧ x.n = 0 ∧ x.ms = [] ∧ x.ns = [] ∧ ∃ a b, x.kids = [a, b] ∧ keepV d a ∧ (b.kd = 1 ∧ -3 ≤ b.n ∧ b.n ≤ 9 ∧ b.ms = [] ∧ b.ns = [] ∧ b.kids = [])) ∨
    (3 ≤ x.kd ∧ x.kd ≤ 16 ∧ x.n = 0 ∧ x.ms = [] ∧ x.ns = [] ∧ ∃ a b, x.kids = [a, b] ∧ keepV d a ∧ keepV d b) ∨
    (3 ≤ x.kd ∧ x.kd ≤ 7 ∧ x.n = 0 ∧ x.ms = [] ∧ x.ns = [] ∧ ∃ a b, x.kids = [a, b] ∧ keepV d a ∧ keepN d b) ∨
    (17 ≤ x.kd ∧ x.kd ≤ 20 ∧ x.n = 0 ∧ x.ms = [] ∧ keepNs x.ns ∧ ∃ a, x.kids = [a] ∧ keepV d a)
end Go.Proofs.YtcaapbbbekggiaaGreatDoor

namespace Go.Proofs.YtcaapbbbekggiaaGreatDoor
open Go.ChangeShapes Go.WideShapes Go.ChangeAt Go.RowKit
set_option linter.unusedVariables false
set_option linter.unusedSimpArgs false
set_option maxRecDepth 100000
theorem step_append_at3 {P : Program} {w : World} {ops : Array Oper} {o : Oper} {a : Act} {K : Act → World → Prop} {Q : Exit → Act → World → Prop} {E : Prop} (hgd : o.guard = none) (s x : Operand) (t : TypeId)
    (ho : o.op = .call { callee := .builtin .append, args := #[s, x], argTypes := #[t, t] })
    (base : Nat) (e : TypeId) (i : TypeInfo) (z : Value) (size bytes : Nat) (ht : P.underlying t = some (.slice e)) (hi : P.info? e = some i) (hz : i.zero = some z)
    (hsize : i.size = size) (hby : i.bytes = bytes) (hzs : z.cells.size = size) (hsz : 0 < size)
    (v : Value) (n : Nat) (xs : List Value) (hv : a.eval s = v) (hown : w.ownsRow base e size v n xs)
    (B : Nat) (A : Option Addr) (m c : Nat) (news : List Value) (hx : a.eval x = .slice A m c) (hs : Sees w B size A m news) (h1 : ∀ u ∈ news, u.oneCell' = true)
    (h63 : n + m ≤ maxLen) (hbytes : (n + m) * bytes ≤ 140737488355328) (hbase : base ≤ w.heap.size)
    (h : ∀ v' w', w'.ownsRow base e size v' (n + m) (xs ++ news) → w.grownBy w' v.ownBlock → Where w v v' → K (a.put o.dst v') w') :
    if Region.wanted o (yielded ops a.tmps) = true then Oper.wp P o a w K Q else E := by
  have hw : Region.wanted o (yielded ops a.tmps) = true := by simp [Region.wanted, hgd]
  rw [if_pos hw]
  obtain ⟨v', w', hr, h2, h3⟩ := append_run (P := P) w base t o.type e i z size bytes ht hi hz hsize hby hzs hsz v n xs hown B A m c news hs h1 h63 hbytes hbase
  have h4 := append_where (P := P) w base t o.type e i z size bytes ht hi hz hsize hby hzs hsz v n xs hown B A m c news hs h1 h63 hbytes v' w' hr
  unfold Oper.wp execOp
  simp only [ho, resolve, invoke, builtin, Sem.run_bind, Sem.run_pure, Result.andThen_ok, List.map_toArray, List.map_cons, List.map_nil, hv, hx, hr]
  exact h v' w' h2 h3 h4
theorem I64_tdiv {v d : Int} (h : I64 v) (hd : 0 < d) : I64 (v.tdiv d) := by
  unfold I64 at *
  have h1 : (v.tdiv d).natAbs ≤ v.natAbs := by
    rw [Int.natAbs_tdiv]; exact Nat.div_le_self _ _
  rcases Int.le_total 0 v with h2 | h2
  · have := Int.tdiv_nonneg h2 (Int.le_of_lt hd)
    omega
  · have : v.tdiv d ≤ 0 := by
      have h3 := Int.tdiv_nonneg (a := -v) (b := d) (by omega) (Int.le_of_lt hd)
      rw [Int.neg_tdiv] at h3; omega
    omega
theorem name_cell {w : World} {g a : Nat} (h : Blk w g 9 (strs keepNames)) (ha : a < 3) : w.cell? ⟨g, a, none⟩ = some (.string (keepNames.getD a ⟨#[]⟩)) := by
  rw [h.cell a]
  match a, ha with
  | 0, _ => rfl
  | 1, _ => rfl
  | 2, _ => rfl
theorem value_cell {w : World} {g a : Nat} (h : Blk w g 9 (strs keepValues)) (ha : a < 4) : w.cell? ⟨g, a, none⟩ = some (.string (keepValues.getD a ⟨#[]⟩)) := by
  rw [h.cell a]
  match a, ha with
  | 0, _ => rfl
  | 1, _ => rfl
  | 2, _ => rfl
  | 3, _ => rfl
/-- string([]byte{c}), of a block that holds it. -/
theorem conv_at (w : World) (g : Nat) (c : UInt8) (v : Int) (hv : v = c.toNat) (hb : Blk w g 5 [.int .u8 v]) :
    (convert 50 9 (.slice (some ⟨g, 0, none⟩) 1 1)).run Tryz.prog w = .ok (.string ⟨#[c]⟩) w := by
  subst hv
  refine run_convert_bytes_back _ 50 9 5 ⟨g, 0, none⟩ 1 [c] Tryz.underlying50 Tryz.underlying5 Tryz.underlying9 fun j hj => ?_
  have hj0 : j = 0 := by simpa using hj
  subst hj0
  rw [add_zero']
  exact hb.cell 0
end Go.Proofs.YtcaapbbbekggiaaGreatDoor

namespace Go.Proofs.YtcaapbbbekggiaaGreatDoor
open Go.RowKit
theorem ba_ext {a b : ByteArray} (h : a.toList = b.toList) : a = b := by
  rw [ByteArray.toList_eq, ByteArray.toList_eq] at h
  cases a; cases b
  exact congrArg ByteArray.mk (Array.toList_inj.1 h)
theorem ba_list (l : List UInt8) : ByteArray.toList ⟨l.toArray⟩ = l := by rw [ByteArray.toList_eq]
end Go.Proofs.YtcaapbbbekggiaaGreatDoor

namespace Go.Proofs.YtcaapbbbekggiaaGreatDoor
open Go.ChangeShapes Go.WideShapes Go.ChangeAt Go.RowKit
set_option linter.unusedVariables false
set_option maxRecDepth 100000
/-- Is x one of zs. -/
def hasS (zs : List ByteArray) (x : ByteArray) : Bool := zs.any fun z => decide (z = x)
theorem hasS_iff {zs : List ByteArray} {x : ByteArray} : hasS zs x = true ↔ x ∈ zs := by
  simp [hasS]
theorem hasS_yes {zs : List ByteArray} {x : ByteArray} (h : x ∈ zs) : hasS zs x = true := hasS_iff.2 h
theorem hasS_no {zs : List ByteArray} {x : ByteArray} (h : x ∉ zs) : hasS zs x = false := by
  cases hq : hasS zs x with
  | false => rfl
  | true => exact absurd (hasS_iff.1 hq) h
theorem index_str (A : Option Addr) (n c B : Nat) (zs : List ByteArray) (x : ByteArray) (w : World) (h : Sees w B 1 A n (strs zs)) (hn : n ≤ 9223372036854775807) :
    Calls Tryz.prog 69 #[.slice A n c, .string x] w fun e w' => (∃ k : Int, e = .returned (.int .i64 k) ∧ (hasS zs x = decide (0 ≤ k))) ∧ w = w' := by
  have H := Lib.hid h
  have HL := Lib.hid h.str_len
  clear h
  go_enter Tryz.func69, Tryz.ntmps69
  go_wp2_with fail
  go_loop [8] (fun i => ∃ k : Nat, k ≤ n ∧ i = .int .i64 k ∧ x ∉ zs.take k) (fun i => n - (intOf i).toNat)
  case atStart => exact ⟨0, Nat.zero_le _, rfl, by simp⟩
  case round =>
    obtain ⟨k, hk, rfl, ht⟩ := hrel
    have HT := Lib.hid ht; clear ht
    by_cases hlt : k < n
    · obtain ⟨ad, hkl, rfl, hc⟩ := H.out.str hlt
      by_cases he : x = zs[k]
      · have HE := Lib.hid (show hasS zs x = decide (0 ≤ (k : Int)) by rw [hasS_yes (by rw [he]; exact List.getElem_mem _), decide_eq_true (by omega)])
        have t1 : (x.toList == (zs[k]).toList) = true := by rw [← he]; simp
        clear he
        go_wp2_with fail
        go_ret
        exact ⟨⟨k, rfl, HE.out⟩, rfl⟩
      · have t1 : (x.toList == (zs[k]).toList) = false := by rw [beq_eq_false_iff_ne]; exact fun h => he (ba_ext h)
        have HN := Lib.hid (show x ∉ zs.take (k + 1) by rw [List.take_succ_eq_append_getElem hkl]; simp only [List.mem_append, List.mem_singleton, not_or]; exact ⟨HT.out, he⟩)
        clear he
        go_wp2_with fail
        go_round
        case rel => exact ⟨k + 1, by omega, by go_num, HN.out⟩
        case measure => simp [intOf]; omega
    · obtain rfl : k = n := by omega
      have HE := Lib.hid (show hasS zs x = decide (0 ≤ (-1 : Int)) by
        have h := HT.out
        rw [List.take_of_length_le (by rw [HL.out]; exact Nat.le_refl _)] at h
        rw [hasS_no h]; rfl)
      go_wp2_with fail
      go_ret
      exact ⟨⟨-1, rfl, HE.out⟩, rfl⟩
theorem contains_str (A : Option Addr) (n c B : Nat) (zs : List ByteArray) (x : ByteArray) (w : World) (h : Sees w B 1 A n (strs zs)) (hn : n ≤ 9223372036854775807) :
    Calls Tryz.prog 60 #[.slice A n c, .string x] w fun e w' => e = .returned (.bool (hasS zs x)) ∧ w = w' := by
  have HI := Lib.hid (index_str A n c B zs x w h hn)
  clear h
  generalize hasS zs x = q at *
  go_enter Tryz.func60, Tryz.ntmps60
  go_wp2_with fail
  refine HI.out.mono ?_; rintro e w' ⟨⟨k, rfl, hq⟩, rfl⟩
  have HQ := Lib.hid hq
  clear hq
  go_wp2_with fail
  go_ret
  exact ⟨by rw [HQ.out]; rfl, rfl⟩
end Go.Proofs.YtcaapbbbekggiaaGreatDoor

namespace Go.Proofs.YtcaapbbbekggiaaGreatDoor
open Go.ChangeShapes Go.WideShapes Go.ChangeAt Go.RowKit
set_option linter.unusedVariables false
set_option maxRecDepth 100000
/-- The k'th byte of s. -/
def byteAt (s : ByteArray) (k : Nat) : Nat := if h : k < s.size then (s[k]).toNat else 0
theorem byteAt_get {s : ByteArray} {k : Nat} (h : k < s.size) : byteAt s k = (s[k]).toNat := dif_pos h
/-- Each of the first k bytes may stand in a word. -/
def allIn (s : ByteArray) : Nat → Bool
  | 0 => true
  | k + 1 => allIn s k && withinN (byteAt s k)
theorem allIn_false {s : ByteArray} {k : Nat} (h : withinN (byteAt s k) = false) : ∀ n, k < n → allIn s n = false
  | 0, hn => by omega
  | n + 1, hn => by
    unfold allIn
    by_cases e : k = n
    · subst e; rw [h, Bool.and_false]
    · rw [allIn_false h n (by omega), Bool.false_and]
/-- May s be a name. -/
def wordF (s : ByteArray) : Bool := decide (1 ≤ s.size) && decide (s.size ≤ 24) && smallN (byteAt s 0) && allIn s s.size
theorem wordF_short {s : ByteArray} (h : ¬ 1 ≤ s.size) : wordF s = false := by simp [wordF, h]
theorem wordF_long {s : ByteArray} (h : ¬ s.size ≤ 24) : wordF s = false := by simp [wordF, h]
theorem wordF_first {s : ByteArray} (h : smallN (byteAt s 0) = false) : wordF s = false := by simp [wordF, h]
theorem wordF_bad {s : ByteArray} {k : Nat} (hk : k < s.size) (h : withinN (byteAt s k) = false) : wordF s = false := by simp [wordF, allIn_false h s.size hk]
theorem wordF_yes {s : ByteArray} (h1 : 1 ≤ s.size) (h2 : s.size ≤ 24) (h3 : smallN (byteAt s 0) = true) (h4 : allIn s s.size = true) : wordF s = true := by simp [wordF, h1, h2, h3, h4]
set_option maxHeartbeats 1000000 in
theorem word_any (s : ByteArray) (w : World) : Calls Tryz.prog 43 #[.string s] w fun e w' => e = .returned (.bool (wordF s)) ∧ w = w' := by
  have i0 : (0 : Int) ≤ s.size := by omega
  by_cases h1 : 1 ≤ s.size
  · have j1 : ¬ (s.size : Int) < 1 := by omega
    have h0 : 0 < s.size := by omega
    by_cases h2 : s.size ≤ 24
    · have j2 : ¬ (24 : Int) < s.size := by omega
      have hb0 := byteAt_get (s := s) (k := 0) (by omega)
      have HC := Lib.hid (small_any (byteAt s 0) w)
      rw [hb0] at HC
      obtain ⟨b, hb⟩ : ∃ b, smallN (s[0]).toNat = b := ⟨_, rfl⟩
      rw [hb] at HC
      have HF := Lib.hid (hb0 ▸ hb : smallN (byteAt s 0) = b)
      have H1 := Lib.hid h1; have H2 := Lib.hid h2
      clear hb hb0 h1 h2
      cases b with
      | false =>
        have HR := Lib.hid (wordF_first HF.out)
        go_enter Tryz.func43, Tryz.ntmps43
        go_wp2_with fail
        refine HC.out.mono ?_; rintro e w' ⟨rfl, rfl⟩
        go_wp2_with fail
        go_ret
        exact ⟨ret_no rfl HR.out, rfl⟩
      | true =>
        obtain ⟨n, hn⟩ : ∃ n, s.size = n := ⟨_, rfl⟩
        go_enter Tryz.func43, Tryz.ntmps43
        go_wp2_with fail
        refine HC.out.mono ?_; rintro e w' ⟨rfl, rfl⟩
        go_wp2_with fail
        go_loopg [20] n (fun g x20 wr => ∃ k : Nat, k + g = n ∧ x20 = .int .i64 k ∧ wr = w ∧ allIn s k = true)
        case atStart => exact ⟨0, by omega, rfl, rfl, rfl⟩
        case round =>
          obtain ⟨k, hkg, rfl, rfl, hall⟩ := hrel
          have HA := Lib.hid hall; clear hall
          cases gk with
          | zero =>
            have hkn : ¬ (k : Int) < s.size := by omega
            have HR := Lib.hid (wordF_yes H1.out H2.out HF.out (by rw [hn, show n = k by omega]; exact HA.out))
            go_wp2_with fail
            go_ret
            exact ⟨ret_yes rfl HR.out, rfl⟩
          | succ g =>
            have hkn : k < s.size := by omega
            have hki : (k : Int) < s.size := by omega
            have hk0 : (0 : Int) ≤ k := by omega
            have hbk := byteAt_get hkn
            have HC2 := Lib.hid (textWithin_any (byteAt s k) wr)
            rw [hbk] at HC2
            obtain ⟨b, hb⟩ : ∃ b, withinN (s[k]).toNat = b := ⟨_, rfl⟩
            rw [hb] at HC2
            have HB := Lib.hid (hbk ▸ hb : withinN (byteAt s k) = b)
            clear hb hbk
            cases b with
            | false =>
              have HR := Lib.hid (wordF_bad hkn HB.out)
              go_wp2_with fail
              refine HC2.out.mono ?_; rintro e w' ⟨rfl, rfl⟩
              go_wp2_with fail
              go_ret
              exact ⟨ret_no rfl HR.out, rfl⟩
            | true =>
              have HN : Hid (allIn s (k + 1) = true) := Lib.hid (by unfold allIn; rw [HA.out, HB.out]; rfl)
              go_wp2_with fail
              refine HC2.out.mono ?_; rintro e w' ⟨rfl, rfl⟩
              go_wp2_with fail
              go_roundg g
              case measure => omega
              case rel => exact ⟨k + 1, by omega, by first | rfl | go_num, rfl, HN.out⟩
    · have j2 : (24 : Int) < s.size := by omega
      have HR := Lib.hid (wordF_long h2)
      clear h2
      go_enter Tryz.func43, Tryz.ntmps43
      go_wp2_with fail
      go_ret
      exact ⟨ret_no rfl HR.out, rfl⟩
  · have j1 : (s.size : Int) < 1 := by omega
    have HR := Lib.hid (wordF_short h1)
    clear h1
    go_enter Tryz.func43, Tryz.ntmps43
    go_wp2_with fail
    go_ret
    exact ⟨ret_no rfl HR.out, rfl⟩
theorem withinN_small {c : Nat} (h : smallN c = true) : withinN c = true := by simp [withinN, h]
theorem withinN_digit {c : Nat} (h1 : 48 ≤ c) (h2 : c ≤ 57) : withinN c = true := by simp [withinN, digitN_yes h1 h2]
theorem withinN_no {c : Nat} (h1 : smallN c = false) (h2 : digitN c = false) (h3 : c ≠ 95) : withinN c = false := by simp [withinN, h1, h2, h3]
set_option maxHeartbeats 1000000 in
theorem refWord_any (s : ByteArray) (w : World) (hs : s.size ≤ 9223372036854775807) : Calls Tryz.prog 54 #[.string s] w fun e w' => e = .returned (.bool (wordF s)) ∧ w = w' := by
  have i0 : (0 : Int) ≤ s.size := by omega
  obtain ⟨n, hn⟩ : ∃ n, s.size = n := ⟨_, rfl⟩
  go_enter Tryz.func54, Tryz.ntmps54
  go_wp2_with fail
  go_loopg [3] n (fun g x3 wr => ∃ k : Nat, k + g = n ∧ x3 = .int .i64 k ∧ wr = w ∧ allIn s k = true ∧ (0 < k → smallN (byteAt s 0) = true))
  case atStart => exact ⟨0, by omega, rfl, rfl, rfl, fun h => absurd h (by omega)⟩
  case round =>
    obtain ⟨k, hkg, rfl, rfl, hall, hfst⟩ := hrel
    have HA := Lib.hid hall; have HF := Lib.hid hfst
    clear hall hfst
    cases gk with
    | zero =>
      have hkn : ¬ (k : Int) < s.size := by omega
      by_cases h1 : 1 ≤ s.size
      · have j1 : (1 : Int) ≤ s.size := by omega
        by_cases h2 : s.size ≤ 24
        · have j2 : (s.size : Int) ≤ 24 := by omega
          have HR := Lib.hid (wordF_yes h1 h2 (HF.out (by omega)) (by rw [hn, show n = k by omega]; exact HA.out))
          clear h1 h2
          go_wp2_with fail
          go_ret
          exact ⟨ret_yes (show Ending.returned (.bool (decide ((n : Int) ≤ 24))) = .returned (.bool true) by rw [decide_eq_true (show (n : Int) ≤ 24 by omega)]) HR.out, rfl⟩
        · have j2 : ¬ (s.size : Int) ≤ 24 := by omega
          have HR := Lib.hid (wordF_long h2)
          clear h1 h2
          go_wp2_with fail
          go_ret
          exact ⟨ret_no (show Ending.returned (.bool (decide ((n : Int) ≤ 24))) = .returned (.bool false) by rw [decide_eq_false (show ¬ (n : Int) ≤ 24 by omega)]) HR.out, rfl⟩
      · have j1 : ¬ (1 : Int) ≤ s.size := by omega
        have HR := Lib.hid (wordF_short h1)
        clear h1
        go_wp2_with fail
        go_ret
        exact ⟨ret_no rfl HR.out, rfl⟩
    | succ g =>
      have hkn : k < s.size := by omega
      have hki : (k : Int) < s.size := by omega
      have hk0 : (0 : Int) ≤ k := by omega
      have hbk := byteAt_get hkn
      have HBK := Lib.hid hbk
      obtain ⟨c, hc⟩ : ∃ c, (s[k]).toNat = c := ⟨_, rfl⟩
      have HBC := Lib.hid (hbk.trans hc)
      have HNEXT : Hid (withinN c = true → allIn s (k + 1) = true) := Lib.hid fun h => by unfold allIn; rw [HA.out, HBC.out, h]; rfl
      have HBAD : Hid (withinN c = false → wordF s = false) := Lib.hid fun h => wordF_bad hkn (by rw [HBC.out]; exact h)
      have HFB : Hid (k = 0 → smallN c = false → wordF s = false) := Lib.hid fun e h => by subst e; exact wordF_first (by rw [HBC.out]; exact h)
      have HFN : Hid ((k = 0 → smallN c = true) → 0 < k + 1 → smallN (byteAt s 0) = true) := Lib.hid fun h _ => by
        rcases Nat.eq_zero_or_pos k with e | e
        · have := h e; subst e; rw [HBC.out]; exact this
        · exact HF.out e
      clear hbk HBK HBC HA HF
      by_cases h1 : 97 ≤ c
      · have i1 : (97 : Int) ≤ ((s[k]).toNat : Int) := by rw [hc]; omega
        by_cases h2 : c ≤ 122
        · have i2 : ((s[k]).toNat : Int) ≤ 122 := by rw [hc]; omega
          have HS := Lib.hid (smallN_yes h1 h2)
          clear h1 h2 hc
          have HR1 := Lib.hid (HNEXT.out (withinN_small HS.out))
          have HR2 := Lib.hid (HFN.out (fun _ => HS.out))
          clear HNEXT HBAD HFB HFN
          go_wp2_with fail
          go_roundg g
          case measure => omega
          case rel => exact ⟨k + 1, by omega, by first | rfl | go_num, rfl, HR1.out, HR2.out⟩
        · have i2 : ¬ ((s[k]).toNat : Int) ≤ 122 := by rw [hc]; omega
          have HS := Lib.hid (smallN_high h2)
          have HR0 := Lib.hid (HBAD.out (withinN_no HS.out (digitN_high (by omega)) (by omega)))
          have i3 : ¬ ((s[k]).toNat : Int) < 48 := by rw [hc]; omega
          have i4 : (57 : Int) < ((s[k]).toNat : Int) := by rw [hc]; omega
          have e1 : (((s[k]).toNat : Int) == 95) = false := by rw [hc, beq_eq_false_iff_ne]; omega
          have e2 : (((s[k]).toNat : Int) != 95) = true := by rw [hc, bne_iff_ne]; omega
          clear h1 h2 hc
          rcases Nat.eq_zero_or_pos k with hz | hz
          · have z1 : ((k : Int) == 0) = true := by simp [hz]
            clear hz
            have HR := Lib.hid (HR0.out)
            clear HNEXT HBAD HFB HFN
            go_wp2_with fail
            go_ret
            exact ⟨ret_no rfl HR.out, rfl⟩
          · have z1 : ((k : Int) == 0) = false := by rw [beq_eq_false_iff_ne]; omega
            clear hz
            have HR := Lib.hid (HR0.out)
            clear HNEXT HBAD HFB HFN
            go_wp2_with fail
            go_ret
            exact ⟨ret_no rfl HR.out, rfl⟩
      · have i1 : ¬ (97 : Int) ≤ ((s[k]).toNat : Int) := by rw [hc]; omega
        have HS := Lib.hid (smallN_low h1)
        rcases Nat.eq_zero_or_pos k with hz | hz
        · have HR0 := Lib.hid (HFB.out hz HS.out)
          have z1 : ((k : Int) == 0) = true := by simp [hz]
          clear hz h1 hc
          have HR := Lib.hid (HR0.out)
          clear HNEXT HBAD HFB HFN
          go_wp2_with fail
          go_ret
          exact ⟨ret_no rfl HR.out, rfl⟩
        · have z1 : ((k : Int) == 0) = false := by rw [beq_eq_false_iff_ne]; omega
          have HK : Hid (k = 0 → smallN c = true) := Lib.hid fun e => absurd e (by omega)
          by_cases h3 : c = 95
          · have HW := Lib.hid (show withinN c = true by rw [h3]; rfl)
            have e1 : (((s[k]).toNat : Int) == 95) = true := by rw [hc, beq_iff_eq]; omega
            have e2 : (((s[k]).toNat : Int) != 95) = false := by rw [hc, bne_eq_false_iff_eq]; omega
            clear hz h1 h3 hc
            have HR1 := Lib.hid (HNEXT.out HW.out)
            have HR2 := Lib.hid (HFN.out HK.out)
            clear HNEXT HBAD HFB HFN
            go_wp2_with fail
            go_roundg g
            case measure => omega
            case rel => exact ⟨k + 1, by omega, by first | rfl | go_num, rfl, HR1.out, HR2.out⟩
          · have e1 : (((s[k]).toNat : Int) == 95) = false := by rw [hc, beq_eq_false_iff_ne]; omega
            have e2 : (((s[k]).toNat : Int) != 95) = true := by rw [hc, bne_iff_ne]; omega
            by_cases h4 : 48 ≤ c
            · have i3 : ¬ ((s[k]).toNat : Int) < 48 := by rw [hc]; omega
              by_cases h5 : c ≤ 57
              · have i4 : ¬ (57 : Int) < ((s[k]).toNat : Int) := by rw [hc]; omega
                have HW := Lib.hid (withinN_digit h4 h5)
                clear hz h1 h3 h4 h5 hc
                have HR1 := Lib.hid (HNEXT.out HW.out)
                have HR2 := Lib.hid (HFN.out HK.out)
                clear HNEXT HBAD HFB HFN
                go_wp2_with fail
                go_roundg g
                case measure => omega
                case rel => exact ⟨k + 1, by omega, by first | rfl | go_num, rfl, HR1.out, HR2.out⟩
              · have i4 : (57 : Int) < ((s[k]).toNat : Int) := by rw [hc]; omega
                have HR0 := Lib.hid (HBAD.out (withinN_no HS.out (digitN_high h5) h3))
                clear hz h1 h3 h4 h5 hc
                have HR := Lib.hid (HR0.out)
                clear HNEXT HBAD HFB HFN
                go_wp2_with fail
                go_ret
                exact ⟨ret_no rfl HR.out, rfl⟩
            · have i3 : ((s[k]).toNat : Int) < 48 := by rw [hc]; omega
              have HR0 := Lib.hid (HBAD.out (withinN_no HS.out (digitN_low h4) h3))
              clear hz h1 h3 h4 hc
              have HR := Lib.hid (HR0.out)
              clear HNEXT HBAD HFB HFN
              go_wp2_with fail
              go_ret
              exact ⟨ret_no rfl HR.out, rfl⟩
end Go.Proofs.YtcaapbbbekggiaaGreatDoor

namespace Go.Proofs.YtcaapbbbekggiaaGreatDoor
open Go.ChangeShapes Go.WideShapes Go.ChangeAt Go.RowKit
set_option linter.unusedVariables false
set_option maxRecDepth 100000
/-- May the k'th name stand where it does. -/
def nameAt (ns : List ByteArray) (k : Nat) : Bool := wordF (ns.getD k ⟨#[]⟩) && !hasS (ns.take k) (ns.getD k ⟨#[]⟩)
def namesOk (ns : List ByteArray) : Nat → Bool
  | 0 => true
  | k + 1 => namesOk ns k && nameAt ns k
def namesF (ns : List ByteArray) : Bool := decide (ns.length ≤ 6) && namesOk ns ns.length
theorem namesOk_false {ns : List ByteArray} {k : Nat} (h : nameAt ns k = false) : ∀ n, k < n → namesOk ns n = false
  | 0, hk => by omega
  | n + 1, hk => by
    unfold namesOk
    by_cases e : k = n
    · rw [← e, h, Bool.and_false]
    · rw [namesOk_false h n (by omega), Bool.false_and]
theorem sees_take1 {w : World} {B : Nat} {A : Option Addr} {n k : Nat} {ns : List ByteArray} (h : Sees w B 1 A n (strs ns)) (hk : k ≤ n) : Sees w B 1 A k (strs (ns.take k)) := by
  have hl : ns.length = n := h.str_len
  refine ⟨by rw [strs_length, List.length_take]; omega, fun hp => ?_⟩
  obtain ⟨ad, e, hb, hc⟩ := h.at_ (by omega)
  refine ⟨ad, e, hb, fun j u hj => hc j u ?_⟩
  have hj2 : (strs (ns.take k))[j]? = some u := hj
  have e2 : strs (ns.take k) = (strs ns).take k := by simp [strs, List.map_take]
  rw [e2, List.getElem?_take] at hj2
  split at hj2
  · exact hj2
  · exact absurd hj2 (by simp)
set_option maxHeartbeats 2000000 in
theorem names_x (A : Option Addr) (n c B : Nat) (ns : List ByteArray) (w : World) (h : Sees w B 1 A n (strs ns)) (hc : n ≤ c) (hm : c ≤ 9223372036854775807) :
    Calls Tryz.prog 45 #[.slice A n c] w fun e w' => e = .returned (.bool (namesF ns)) ∧ w = w' := by
  have H := Lib.hid h
  have HL := Lib.hid h.str_len
  have HW := Lib.hid (fun s => word_any s w)
  have HC := Lib.hid (fun k (hk : k ≤ n) x => contains_str A k c B (ns.take k) x w (sees_take1 h hk) (by omega))
  have HF : Hid (namesF ns = (decide (ns.length ≤ 6) && namesOk ns ns.length)) := Lib.hid rfl
  clear h
  generalize namesF ns = q at *
  go_enter Tryz.func45, Tryz.ntmps45
  by_cases h6 : n ≤ 6
  · have t0 : (n : Int) ≤ 6 := by omega
    go_wp2_with fail
    go_loop [10] (fun i => ∃ k : Nat, k ≤ n ∧ i = .int .i64 k ∧ namesOk ns k = true) (fun i => n - (intOf i).toNat)
    case atStart => exact ⟨0, Nat.zero_le _, rfl, rfl⟩
    case round =>
      obtain ⟨k, hk, rfl, ht⟩ := hrel
      have HT := Lib.hid ht; clear ht
      by_cases hlt : k < n
      · obtain ⟨ad, hkl, rfl, hcell⟩ := H.out.str hlt
        have HG := Lib.hid (show ns.getD k ⟨#[]⟩ = ns[k] by simp [hkl])
        have HWD := Lib.hid (HW.out ns[k])
        have HCD := Lib.hid (HC.out k hk ns[k])
        cases hw : wordF ns[k] with
        | false =>
          have HE := Lib.hid (show q = false by rw [HF.out, namesOk_false (k := k) (by unfold nameAt; rw [HG.out, hw]; rfl) _ (by rw [HL.out]; exact hlt), Bool.and_false])
          rw [hw] at HWD
          clear hw
          go_wp2_with fail
          (with_reducible refine HWD.out.mono ?_); rintro e w' ⟨rfl, rfl⟩
          go_wp2_with fail
          go_ret
          exact ⟨by rw [HE.out]; rfl, rfl⟩
        | true =>
          rw [hw] at HWD
          go_wp2_with fail
          (with_reducible refine HWD.out.mono ?_); rintro e w' ⟨rfl, rfl⟩
          cases hh : hasS (ns.take k) ns[k] with
          | true =>
            have HE := Lib.hid (show q = false by rw [HF.out, namesOk_false (k := k) (by unfold nameAt; rw [HG.out, hw, hh]; rfl) _ (by rw [HL.out]; exact hlt), Bool.and_false])
            rw [hh] at HCD
            clear hw hh
            go_wp2_with fail
            (with_reducible refine HCD.out.mono ?_); rintro e w' ⟨rfl, rfl⟩
            go_wp2_with fail
            go_ret
            exact ⟨by rw [HE.out]; rfl, rfl⟩
          | false =>
            have HN := Lib.hid (show namesOk ns (k + 1) = true by unfold namesOk nameAt; rw [HT.out, HG.out, hw, hh]; rfl)
            rw [hh] at HCD
            clear hw hh
            go_wp2_with fail
            (with_reducible refine HCD.out.mono ?_); rintro e w' ⟨rfl, rfl⟩
            go_wp2_with fail
            go_round
            case rel => exact ⟨k + 1, by omega, by go_num, HN.out⟩
            case measure => simp [intOf]; omega
      · obtain rfl : k = n := by omega
        have HE := Lib.hid (show q = true by rw [HF.out, HL.out, HT.out, decide_eq_true h6]; rfl)
        go_wp2_with fail
        go_ret
        exact ⟨by rw [HE.out]; rfl, rfl⟩
  · have t0 : ¬ (n : Int) ≤ 6 := by omega
    have HE := Lib.hid (show q = false by rw [HF.out, HL.out, decide_eq_false h6]; rfl)
    go_wp2_with fail
    go_ret
    exact ⟨by rw [HE.out]; rfl, rfl⟩
end Go.Proofs.YtcaapbbbekggiaaGreatDoor
