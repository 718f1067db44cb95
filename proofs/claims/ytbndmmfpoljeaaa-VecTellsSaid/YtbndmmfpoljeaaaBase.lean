/- Texts, merged in one. -/
import Derived.Below
import Derived.Laws.OwnMore
import Derived.Deep.AppendLies
import Derived.Deep.Draws
import Derived.Calls
import Derived.Laws.AppendOwnNone
import Derived.OwnWalk
import Derived.WalkKit
import Derived.Deep.RegionLaw
import Derived.RowKit
import Derived.IntWalk
import Derived.ProofKit
import Derived.Test.YtbndmmfpoljeaaaRows
import Derived.Lib.Hide
import Derived.Deep.LoopGhost
import Derived.BigQuiet
import Derived.Laws.Cover1
import Derived.Deep.QuietTactic
import Derived.ShutString
import Derived.Deep.Slices
import Derived.ChangeArms
import Derived.Shelf.Strings.Builder1
import Derived.Lib.FrozenHead2
import Derived.Lib.OthersKept
import Derived.RegionTactic
import Derived.Test.YtbndmmfpoljeaaaShelf
import Derived.Lib.PathFns
import Derived.Lib.IndexLaws
import Derived.Laws.IdiomStrings
import Derived.Laws.BytesArg
import Derived.Deep.CutBlock
import Derived.Laws.CopyOwn
import Derived.Lib.Overlaps
import Derived.Lib.AppendZerosOnto
import Derived.Lib.SmallJoins
import Derived.Deep.RegionHeld3
import Derived.Deep.DeepCutAuto
import Derived.WalkSpells
namespace Go.Proofs.Ytbndmmfpoljeaaa
open Go.RowKit
set_option linter.unusedVariables false
theorem add_block (a : Addr) (n : Nat) : (a.add n).block = a.block := by unfold Addr.add; split <;> rfl
theorem add_add (a : Addr) (i j : Nat) : (a.add i).add j = a.add (i + j) := by
  unfold Addr.add
  by_cases hi : i = 0 <;> by_cases hj : j = 0 <;> simp [hi, hj, Nat.add_assoc]
theorem add_zero' (a : Addr) : a.add 0 = a := by unfold Addr.add; simp

/-- A field's address, as the walk spells it. -/
theorem add_spelt (a : Addr) (i j : Nat) (hj : 0 < j) : (⟨(a.add i).block, (a.add i).off + j, none⟩ : Addr) = a.add (i + j) := by
  unfold Addr.add
  by_cases hi : i = 0
  · subst hi; rw [if_pos rfl, if_neg (by omega)]; simp
  · rw [if_neg hi, if_neg (by omega)]; simp [Nat.add_assoc]
/-- The n elements behind A, of 'size' cells each, read as the cells xs; they lie below block B. -/
structure Sees (w : World) (B size : Nat) (A : Option Addr) (n : Nat) (xs : List Value) : Prop where
  len : xs.length = n * size
  at_ : 0 < n → ∃ ad, A = some ad ∧ ad.block < B ∧ ∀ j u, xs[j]? = some u → w.cell? (ad.add j) = some u

section
variable {w w' : World} {B B' size n : Nat} {A : Option Addr} {xs : List Value}
theorem Sees.nil : Sees w B size A 0 [] := ⟨by simp, fun h => absurd h (by omega)⟩
theorem Sees.one {k : Nat} (h : Sees w B 1 A n xs) (hk : k < n) : ∃ ad u, A = some ad ∧ xs[k]? = some u ∧ w.cell? (ad.add k) = some u := by
  obtain ⟨ad, e, hb, hc⟩ := h.at_ (by omega)
  have hl : k < xs.length := by have := h.len; omega
  exact ⟨ad, xs[k], e, List.getElem?_eq_getElem hl, hc k _ (List.getElem?_eq_getElem hl)⟩
theorem Sees.keep (h : Sees w B size A n xs) (hk : ∀ p : Addr, p.block < B → w'.cell? p = w.cell? p) : Sees w' B size A n xs :=
  ⟨h.len, fun hn => by
    obtain ⟨ad, e, hb, hc⟩ := h.at_ hn
    exact ⟨ad, e, hb, fun j u hu => (hk _ (by rw [add_block]; exact hb)).trans (hc j u hu)⟩⟩
theorem Sees.more (h : Sees w B size A n xs) (hB : B ≤ B') : Sees w B' size A n xs :=
  ⟨h.len, fun hn => by
    obtain ⟨ad, e, hb, hc⟩ := h.at_ hn
    exact ⟨ad, e, by omega, hc⟩⟩
theorem Sees.below (h : Sees w B size A n xs) (hb : Below B w w') : Sees w' B size A n xs := h.keep fun _ hp => hb.cell hp
theorem Sees.drewN (h : Sees w B size A n xs) (k : Nat) : Sees (w.drewN k) B size A n xs := ⟨h.len, h.at_⟩
theorem Sees.alloc (h : Sees w B size A n xs) (hB : B ≤ w.heap.size) (o : Obj) : Sees (w.alloc o) B size A n xs := h.keep fun p hp => World.cell?_alloc_lt w o p (by omega)
theorem Sees.setCell (h : Sees w B size A n xs) {p : Addr} (hB : B ≤ p.block) (u : Value) : Sees (w.setCell p u) B size A n xs :=
  h.keep fun q hq => World.cell?_setCell_other w p q u (fun e => by subst e; omega)
theorem Sees.grown (h : Sees w B size A n xs) {row : Option Nat} (hg : w.grownBy w' row) (hB : B ≤ w.heap.size) (hr : ∀ g, row = some g → B ≤ g) : Sees w' B size A n xs :=
  h.keep fun p hp => World.cell?_of_block (hg.block p.block (by omega) (fun e => by have := hr _ e.symm; omega))
theorem Sees.take (h : Sees w B size A n xs) {k : Nat} (hk : k ≤ n) : Sees w B size A k (xs.take (k * size)) := by
  refine ⟨by rw [List.length_take, h.len]; exact Nat.min_eq_left (Nat.mul_le_mul_right _ hk), fun h0 => ?_⟩
  obtain ⟨ad, e, hb, hc⟩ := h.at_ (by omega)
  refine ⟨ad, e, hb, fun j u hu => hc j u ?_⟩
  rw [List.getElem?_take] at hu
  split at hu
  · exact hu
  · cases hu
/-- A cut from k on, its address as the model spells it. -/
theorem Sees.drop (h : Sees w B size A n xs) {k cap : Nat} (hk : k ≤ n) (hc : n ≤ cap) :
    Sees w B size (if cap = k then A else A.map (·.add (k * size))) (n - k) (xs.drop (k * size)) := by
  refine ⟨by rw [List.length_drop, h.len, Nat.sub_mul], fun hn => ?_⟩
  obtain ⟨ad, rfl, hb, hcell⟩ := h.at_ (by omega)
  rw [if_neg (by omega)]
  refine ⟨ad.add (k * size), rfl, by rw [add_block]; exact hb, fun j u hu => ?_⟩
  rw [add_add]
  exact hcell _ u (by rw [← hu, List.getElem?_drop])
theorem Sees.of_own {base : Nat} {e : TypeId} {c : Nat} (h : w.ownsRow base e size (.slice A n c) n xs) : Sees w w.heap.size size A n xs := by
  refine ⟨h.1, fun hn => ?_⟩
  obtain ⟨g, cap, hv, _, hlt⟩ := h.form hn
  have hA : A = some ⟨g, 0, none⟩ := by injection hv
  subst hA
  exact ⟨_, rfl, hlt, h.cells (g := g) rfl⟩
end

/-- Block g is just the cells cs, of element type t; none is frozen. -/
def Blk (w : World) (g : Nat) (t : TypeId) (cs : List Value) : Prop := w.heap[g]? = some (.cells cs.toArray t (0, 0))
section
variable {w w' : World} {g : Nat} {t : TypeId} {cs : List Value}
theorem Blk.eq (h : Blk w g t cs) : w.heap[g]? = some (.cells cs.toArray t (0, 0)) := h
theorem Blk.mk (h : w.heap[g]? = some (.cells cs.toArray t (0, 0))) : Blk w g t cs := h
theorem Blk.lt (h : Blk w g t cs) : g < w.heap.size := by
  unfold Blk at h
  exact (Array.getElem?_eq_some_iff.1 h).1
theorem Blk.cell (h : Blk w g t cs) (i : Nat) : w.cell? ⟨g, i, none⟩ = cs[i]? := by
  have := cell_of_row w g i cs.toArray t (0, 0) h
  simpa using this
theorem Blk.frozen (h : Blk w g t cs) (i : Nat) : w.frozen? ⟨g, i, none⟩ = false := by
  unfold Blk at h
  simp [World.frozen?, h]
theorem Blk.drewN (h : Blk w g t cs) (n : Nat) : Blk (w.drewN n) g t cs := h
theorem Blk.alloc (h : Blk w g t cs) (o : Obj) : Blk (w.alloc o) g t cs := (Below.heap_alloc w o g h.lt).trans h
theorem Blk.set (h : Blk w g t cs) (i : Nat) (u : Value) : Blk (w.setCell ⟨g, i, none⟩ u) g t (cs.set i u) := by
  unfold Blk at h ⊢
  simp [World.setCell, Array.getElem?_modify, h]
theorem Blk.far (h : Blk w g t cs) {p : Addr} (hp : g ≠ p.block) (u : Value) : Blk (w.setCell p u) g t cs := (Below.heap_setCell w p u g hp).trans h
theorem Blk.below {B : Nat} (h : Blk w g t cs) (hb : Below B w w') (hg : g < B) : Blk w' g t cs := (hb.block g hg).trans h
theorem Blk.grown {row : Option Nat} (h : Blk w g t cs) (hb : w.grownBy w' row) (hg : some g ≠ row) : Blk w' g t cs := (hb.block g h.lt hg).trans h
theorem Blk.sees (h : Blk w g t cs) {size n : Nat} {xs : List Value} (hl : xs.length = n * size) (hx : xs <+: cs) : Sees w w.heap.size size (some ⟨g, 0, none⟩) n xs := by
  refine ⟨hl, fun hn => ⟨_, rfl, h.lt, fun j u hu => ?_⟩⟩
  have e : (⟨g, 0, none⟩ : Addr).add j = ⟨g, j, none⟩ := by unfold Addr.add; split <;> simp_all
  obtain ⟨ys, rfl⟩ := hx
  rw [e, h.cell j, List.getElem?_append_left (List.getElem?_eq_some_iff.1 hu).1, hu]
/-- A row of the call's own that is full is its block. -/
theorem Blk.of_own {base : Nat} {size n : Nat} {xs : List Value} (h : w.ownsRow base t size (.slice (some ⟨g, 0, none⟩) n n) n xs) : Blk w g t xs := by
  rcases h.2 with ⟨h1, _⟩ | ⟨g', cap, cur, hv, _, hb, _, _, hs, ht⟩
  · cases h1
  · injection hv with h1 h2 h3
    injection h1 with h1; injection h1 with h1; subst h1; subst h3
    have : cur.toList = xs := by rw [← ht, List.take_of_length_le (by simp [hs])]
    subst this
    unfold Blk; simpa using hb
theorem Blk.owns (h : Blk w g t cs) {base size n cap : Nat} (hb : base ≤ g) (hn : n ≤ cap) (hc : cap ≤ maxLen) (hl : cs.length = cap * size) : w.ownsRow base t size (.slice (some ⟨g, 0, none⟩) n cap) n (cs.take (n * size)) :=
  ⟨by rw [List.length_take, hl]; exact Nat.min_eq_left (Nat.mul_le_mul_right _ hn), .inr ⟨g, cap, cs.toArray, rfl, hb, h, hn, hc, by simpa using hl, rfl⟩⟩
end

/-- Ints of 64 bits as cells. -/
def ints (l : List Int) : List Value := l.map (Value.int .i64)
theorem ints_length (l : List Int) : (ints l).length = l.length := by simp [ints]
theorem ints_get (l : List Int) (k : Nat) (h : k < l.length) : (ints l)[k]? = some (.int .i64 l[k]) := by simp [ints, h]
theorem ints_take (l : List Int) (k : Nat) : (ints l).take k = ints (l.take k) := by simp [ints, List.map_take]
theorem ints_drop (l : List Int) (k : Nat) : (ints l).drop k = ints (l.drop k) := by simp [ints, List.map_drop]
theorem ints_append (l m : List Int) : ints (l ++ m) = ints l ++ ints m := by simp [ints]
/-- An int of a slice of ints: its cell, by its place. -/
theorem Sees.int {w : World} {B : Nat} {A : Option Addr} {n : Nat} {l : List Int} (h : Sees w B 1 A n (ints l)) {k : Nat} (hk : k < n) :
    ∃ ad, ∃ hl : k < l.length, A = some ad ∧ w.cell? (ad.add k) = some (.int .i64 l[k]) := by
  have hl : k < l.length := by have := h.len; rw [ints_length] at this; omega
  obtain ⟨ad, u, e, hx, hc⟩ := h.one hk
  rw [ints_get l k hl] at hx
  injection hx with hx; subst hx
  exact ⟨ad, hl, e, hc⟩
theorem Sees.int_len {w : World} {B : Nat} {A : Option Addr} {n : Nat} {l : List Int} (h : Sees w B 1 A n (ints l)) : l.length = n := by
  have := h.len; rw [ints_length] at this; omega
/-- Bools as cells. -/
def bools (l : List Bool) : List Value := l.map Value.bool
theorem bools_length (l : List Bool) : (bools l).length = l.length := by simp [bools]
theorem bools_get (l : List Bool) (k : Nat) (h : k < l.length) : (bools l)[k]? = some (.bool l[k]) := by simp [bools, h]
theorem bools_take (l : List Bool) (k : Nat) : (bools l).take k = bools (l.take k) := by simp [bools, List.map_take]
theorem bools_one (l : List Bool) : ∀ u ∈ bools l, u.oneCell' = true := by
  intro u hu; simp only [bools, List.mem_map] at hu; obtain ⟨b, _, rfl⟩ := hu; rfl
theorem Sees.bool {w : World} {B : Nat} {A : Option Addr} {n : Nat} {l : List Bool} (h : Sees w B 1 A n (bools l)) {k : Nat} (hk : k < n) :
    ∃ ad, ∃ hl : k < l.length, A = some ad ∧ w.cell? (ad.add k) = some (.bool l[k]) := by
  have hl : k < l.length := by have := h.len; rw [bools_length] at this; omega
  obtain ⟨ad, u, e, hx, hc⟩ := h.one hk
  rw [bools_get l k hl] at hx
  injection hx with hx; subst hx
  exact ⟨ad, hl, e, hc⟩
theorem Sees.bool_len {w : World} {B : Nat} {A : Option Addr} {n : Nat} {l : List Bool} (h : Sees w B 1 A n (bools l)) : l.length = n := by
  have := h.len; rw [bools_length] at this; omega
theorem ints_one (l : List Int) : ∀ u ∈ ints l, u.oneCell' = true := by
  intro u hu; simp only [ints, List.mem_map] at hu; obtain ⟨b, _, rfl⟩ := hu; rfl
theorem own_mono {w : World} {base base' : Nat} {e : TypeId} {size n : Nat} {v : Value} {xs : List Value} (h : w.ownsRow base e size v n xs) (hb : base' ≤ base) : w.ownsRow base' e size v n xs := by
  refine ⟨h.1, ?_⟩
  rcases h.2 with h2 | ⟨g, cap, cur, hv, hg, rest⟩
  · exact .inl h2
  · exact .inr ⟨g, cap, cur, hv, Nat.le_trans hb hg, rest⟩
theorem own_below {w w' : World} {B base : Nat} {e : TypeId} {size n : Nat} {v : Value} {xs : List Value} (h : w.ownsRow base e size v n xs) (hb : Below B w w') (hB : w.heap.size ≤ B) : w'.ownsRow base e size v n xs := by
  refine ⟨h.1, ?_⟩
  rcases h.2 with h2 | ⟨g, cap, cur, hv, hg, hh, rest⟩
  · exact .inl h2
  · refine .inr ⟨g, cap, cur, hv, hg, ?_, rest⟩
    have : g < w.heap.size := (Array.getElem?_eq_some_iff.1 hh).1
    rw [hb.block g (by omega)]; exact hh
theorem own_far {w : World} {base : Nat} {e : TypeId} {size n : Nat} {v : Value} {xs : List Value} (h : w.ownsRow base e size v n xs) {p : Addr} (hp : p.block < base) (u : Value) : (w.setCell p u).ownsRow base e size v n xs :=
  ownsRow_setCell_below h hp u
/-- The value of an own row is a slice. -/
theorem own_slice {w : World} {base : Nat} {e : TypeId} {size n : Nat} {v : Value} {xs : List Value} (h : w.ownsRow base e size v n xs) : ∃ A c, v = .slice A n c ∧ n ≤ c ∧ c ≤ 9223372036854775807 := by
  rcases h.2 with ⟨rfl, rfl⟩ | ⟨g, cap, cur, rfl, _, _, hc, hm, _⟩
  · exact ⟨none, 0, rfl, Nat.le_refl _, by omega⟩
  · exact ⟨_, _, rfl, hc, by unfold maxLen at hm; omega⟩
/-- An argument that is a slice of ints, as the row's step hands it over. -/
theorem sees_of_row {w : World} {a : Option Addr} {n cap : Nat} {zs : List Int}
    (h : (a = none ∧ n = 0 ∧ cap = 0 ∧ zs = []) ∨ ∃ x, a = some x ∧ n ≤ cap ∧ cap ≤ maxLen ∧ zs.length = cap ∧ (∀ i, i < zs.length → w.cell? (x.add i) = some (.int .i64 (zs.getD i 0))) ∧ ∀ z ∈ zs, (Lit.int .i64 z).wf = true) :
    Sees w w.heap.size 1 a n (ints (zs.take n)) ∧ n ≤ cap ∧ cap ≤ 9223372036854775807 ∧ (zs.take n).length = n ∧ ∀ z ∈ zs, (Lit.int .i64 z).wf = true := by
  rcases h with ⟨rfl, rfl, rfl, rfl⟩ | ⟨x, rfl, h1, h2, h3, h4, h5⟩
  · exact ⟨by simpa [ints] using Sees.nil, Nat.le_refl _, by omega, rfl, fun z hz => by cases hz⟩
  · have hl : (zs.take n).length = n := by rw [List.length_take]; omega
    refine ⟨⟨by rw [ints_length, hl]; omega, fun hn => ⟨x, rfl, ?_, fun j u hu => ?_⟩⟩, h1, by unfold maxLen at h2; exact h2, hl, h5⟩
    · have := World.block_lt_of_cell? w (x.add 0) (h4 0 (by omega))
      rwa [add_block] at this
    · have hj : j < n := by
        have := (List.getElem?_eq_some_iff.1 hu).1
        rw [ints_length, hl] at this; exact this
      rw [ints_get _ j (by omega)] at hu
      injection hu with hu
      rw [h4 j (by omega), ← hu, List.getElem_take, List.getD_eq_getElem?_getD, List.getElem?_eq_getElem (by omega)]; rfl
/-- A contract that leaves the world alone, as a quiet walk asks it: whatever was drawn ahead of it. -/
theorem calls_quiet {P : Program} {f : FuncId} {args : Array Value} {w : World} {n : Nat} {v : Value}
    (h : Calls P f args (w.drewN n) fun e w' => e = .returned v ∧ w.drewN n = w') : Calls P f args (w.drewN n) fun e w'' => e = .returned v ∧ ∃ m, w'' = w.drewN m :=
  h.mono fun _ _ hh => ⟨hh.1, n, hh.2.symm⟩
/-- The same where draws have been joined. -/
theorem calls_quiet2 {P : Program} {f : FuncId} {args : Array Value} {w : World} {a n : Nat} {v : Value}
    (h : Calls P f args (w.drewN (a + n)) fun e w' => e = .returned v ∧ w.drewN (a + n) = w') : Calls P f args (w.drewN (a + n)) fun e w'' => e = .returned v ∧ ∃ m, w'' = w.drewN (a + m) :=
  h.mono fun _ _ hh => ⟨hh.1, n, hh.2.symm⟩
end Go.Proofs.Ytbndmmfpoljeaaa

namespace Go.Proofs.Ytbndmmfpoljeaaa
open Go.RowKit
set_option linter.unusedVariables false
theorem nothing_appended {P : Program} (w : World) (base : Nat) (t ty e : TypeId) (i : TypeInfo) (size : Nat) (ht : P.underlying t = some (.slice e)) (hi : P.info? e = some i)
    (v : Value) (n : Nat) (xs : List Value) (hown : w.ownsRow base e size v n xs) (c : Nat) : (Builtin.append_ #[t, t] ty #[v, .slice none 0 c]).run P w = .ok v w := by
  rcases hown.2 with ⟨rfl, rfl⟩ | ⟨g, cap, cur, rfl, _, _, hle, _⟩ <;>
    simp [Builtin.append_, run_underlying ht, sizeOf, typeInfo, hi, Builtin.lenOf, Builtin.firstCells, storeCells]
  omega
theorem append_run {P : Program} (w : World) (base : Nat) (t ty e : TypeId) (i : TypeInfo) (z : Value) (size bytes : Nat) (ht : P.underlying t = some (.slice e)) (hi : P.info? e = some i) (hz : i.zero = some z)
    (hsize : i.size = size) (hby : i.bytes = bytes) (hzs : z.cells.size = size) (hsz : 0 < size)
    (v : Value) (n : Nat) (xs : List Value) (hown : w.ownsRow base e size v n xs)
    (B : Nat) (A : Option Addr) (m c : Nat) (news : List Value) (hs : Sees w B size A m news) (h1 : ∀ u ∈ news, u.oneCell' = true)
    (h63 : n + m ≤ maxLen) (hbytes : (n + m) * bytes ≤ 140737488355328) (hbase : base ≤ w.heap.size) :
    ∃ v' w', (Builtin.append_ #[t, t] ty #[v, .slice A m c]).run P w = .ok v' w' ∧ w'.ownsRow base e size v' (n + m) (xs ++ news) ∧ w.grownBy w' v.ownBlock := by
  cases A with
  | none =>
    have hm : m = 0 := by
      rcases Nat.eq_zero_or_pos m with h | h
      · exact h
      · obtain ⟨ad, h, _⟩ := hs.at_ h; cases h
    subst hm
    have hn : news = [] := List.eq_nil_of_length_eq_zero (by simpa using hs.len)
    subst hn
    exact ⟨v, w, nothing_appended w base t ty e i size ht hi v n xs hown c, by simpa using hown, World.grownBy.refl w _⟩
  | some ad =>
    obtain ⟨v', w', hr, h2, h3, _⟩ := run_append_own (P := P) w base t ty e i z size bytes ht hi hz hsize hby hzs hsz v n xs hown ad m c news hs.len (by
      intro j u hu
      have hm : 0 < m := by
        have h := (List.getElem?_eq_some_iff.1 hu).1
        rw [hs.len] at h
        rcases Nat.eq_zero_or_pos m with h0 | h0
        · subst h0; simp at h
        · exact h0
      obtain ⟨ad', h, _, hc⟩ := hs.at_ hm
      injection h with h; subst h
      exact hc j u hu) h1 h63 hbytes hbase
    exact ⟨v', w', hr, h2, h3⟩
theorem wpList_append_sees {P : Program} {w : World} {ops : Array Oper} {rest : List Oper} {o : Oper} {a : Act} {Q : Exit → Act → World → Prop} (hgd : o.guard = none) (s x : Operand) (t : TypeId)
    (ho : o.op = .call { callee := .builtin .append, args := #[s, x], argTypes := #[t, t] })
    (base : Nat) (e : TypeId) (i : TypeInfo) (z : Value) (size bytes : Nat) (ht : P.underlying t = some (.slice e)) (hi : P.info? e = some i) (hz : i.zero = some z)
    (hsize : i.size = size) (hby : i.bytes = bytes) (hzs : z.cells.size = size) (hsz : 0 < size)
    (v : Value) (n : Nat) (xs : List Value) (hv : a.eval s = v) (hown : w.ownsRow base e size v n xs)
    (B : Nat) (A : Option Addr) (m c : Nat) (news : List Value) (hx : a.eval x = .slice A m c) (hs : Sees w B size A m news) (h1 : ∀ u ∈ news, u.oneCell' = true)
    (h63 : n + m ≤ maxLen) (hbytes : (n + m) * bytes ≤ 140737488355328) (hbase : base ≤ w.heap.size)
    (h : ∀ v' w', w'.ownsRow base e size v' (n + m) (xs ++ news) → w.grownBy w' v.ownBlock → wpList P ops Q rest (a.put o.dst v') w') : wpList P ops Q (o :: rest) a w := by
  refine wpList_plain hgd fun K hK => ?_
  obtain ⟨v', w', hr, h2, h3⟩ := append_run (P := P) w base t o.type e i z size bytes ht hi hz hsize hby hzs hsz v n xs hown B A m c news hs h1 h63 hbytes hbase
  unfold Oper.wp execOp
  simp only [ho, resolve, invoke, builtin, Sem.run_bind, Sem.run_pure, Result.andThen_ok, List.map_toArray, List.map_cons, List.map_nil, hv, hx, hr]
  exact hK _ _ (h v' w' h2 h3)
/-- A call answers a slice in new memory, n elements that read as xs. -/
def OwnAns (t : TypeId) (size n : Nat) (xs : List Value) (w : World) (e : Ending) (w' : World) : Prop :=
  ∃ A c, e = .returned (.slice A n c) ∧ w'.ownsRow w.heap.size t size (.slice A n c) n xs ∧ Below w.heap.size w w' ∧ n ≤ c ∧ c ≤ 9223372036854775807
theorem ownAns {t : TypeId} {size n c : Nat} {xs : List Value} {w w' : World} {e : Ending} {A : Option Addr} (hown : w'.ownsRow w.heap.size t size (.slice A n c) n xs) (hb : Below w.heap.size w w')
    (he : e = .returned (.slice A n c)) (h1 : n ≤ c) (h2 : c ≤ 9223372036854775807) : OwnAns t size n xs w e w' := ⟨A, c, he, hown, hb, h1, h2⟩
end Go.Proofs.Ytbndmmfpoljeaaa

namespace Go.Proofs.Ytbndmmfpoljeaaa
open Go.RowKit
set_option linter.unusedVariables false
theorem ret_int {k : IntKind} {a b : Int} (h : a = b) : Ending.returned (.int k a) = .returned (.int k b) := by rw [h]
theorem ret_int1 {k : IntKind} {a b : Int} {v : Value} (h : a = b) : Ending.returned (.tuple #[.int k a, v]) = .returned (.tuple #[.int k b, v]) := by rw [h]
theorem ret_bool {a b : Bool} (h : a = b) : Ending.returned (.bool a) = .returned (.bool b) := by rw [h]
/-- n fits an int of 64 bits. -/
def I64 (a : Int) : Prop := -9223372036854775808 ≤ a ∧ a ≤ 9223372036854775807
instance (a : Int) : Decidable (I64 a) := by unfold I64; exact inferInstance
/-- The int that is told of a result that would be n. -/
def nV (n : Int) : Int := if I64 n then n else 0
/-- The error beside it. -/
def nE (n : Int) : Int := if I64 n then 0 else 3
def nB (n : Int) : Bool := decide (I64 n)
theorem nV_in {n : Int} (h : I64 n) : nV n = n := by simp [nV, h]
theorem nV_out {n : Int} (h : ¬ I64 n) : nV n = 0 := by simp [nV, h]
theorem nE_in {n : Int} (h : I64 n) : nE n = 0 := by simp [nE, h]
theorem nE_out {n : Int} (h : ¬ I64 n) : nE n = 3 := by simp [nE, h]
theorem nB_in {n : Int} (h : I64 n) : nB n = true := by simp [nB, h]
theorem nB_out {n : Int} (h : ¬ I64 n) : nB n = false := by simp [nB, h]
theorem wf_of {a : Int} (h : (Lit.int .i64 a).wf = true) : I64 a := by
  simpa [Lit.wf, IntKind.min, IntKind.max, IntKind.signed, IntKind.bits, I64] using h
theorem wrap64_of {n : Int} (h : I64 n) : wrap64 n = n := by unfold I64 at h; unfold wrap64; omega
theorem I64_wrap (n : Int) : I64 (wrap64 n) := by unfold I64 wrap64; omega
/-- A wrap that turns a number moves it by whole rounds. -/
theorem wrap64_rounds (n : Int) : ∃ k : Int, wrap64 n = n - k * 18446744073709551616 ∧ (¬ I64 n → k ≠ 0) := by
  refine ⟨(n + 9223372036854775808) / 18446744073709551616, ?_, ?_⟩
  · unfold wrap64; omega
  · intro h; unfold I64 at h; omega
theorem sum_ge {a b : Int} (wa : I64 a) (wb : I64 b) (h : 9223372036854775807 < a + b) : ¬ a < wrap64 (a + b) ∧ 0 < b := by
  unfold wrap64; unfold I64 at *; omega
theorem sum_le {a b : Int} (wa : I64 a) (wb : I64 b) (h : a + b < -9223372036854775808) : a < wrap64 (a + b) ∧ ¬ 0 < b := by
  unfold wrap64; unfold I64 at *; omega
theorem sub_ge {a b : Int} (wa : I64 a) (wb : I64 b) (h : 9223372036854775807 < a - b) : wrap64 (a - b) < a ∧ ¬ 0 < b := by
  unfold wrap64; unfold I64 at *; omega
theorem sub_le {a b : Int} (wa : I64 a) (wb : I64 b) (h : a - b < -9223372036854775808) : ¬ wrap64 (a - b) < a ∧ 0 < b := by
  unfold wrap64; unfold I64 at *; omega
theorem out_cases {n : Int} (h : ¬ I64 n) : 9223372036854775807 < n ∨ n < -9223372036854775808 := by unfold I64 at h; omega
/-- A quotient cut towards nought is no further from nought than what is parted. -/
theorem tdiv_in {a b : Int} (wa : I64 a) (h : ¬ (a = -9223372036854775808 ∧ b = -1)) : I64 (a.tdiv b) := by
  have h1 : (a.tdiv b).natAbs ≤ a.natAbs := by rw [Int.natAbs_tdiv]; exact Nat.div_le_self _ _
  unfold I64 at *
  by_cases hq : a.tdiv b = 9223372036854775808
  · exfalso; apply h
    have ha : a = -9223372036854775808 := by omega
    refine ⟨ha, ?_⟩
    have h2 := Int.natAbs_tdiv a b
    rw [hq, ha] at h2
    have h3 : (9223372036854775808 : Int).natAbs = 9223372036854775808 := rfl
    have h4 : (-9223372036854775808 : Int).natAbs = 9223372036854775808 := rfl
    rw [h3, h4] at h2
    have h5 : b.natAbs = 1 := by
      rcases Nat.lt_or_ge 1 b.natAbs with h6 | h6
      · have := Nat.div_lt_self (n := 9223372036854775808) (k := b.natAbs) (by omega) h6; exact absurd h2 (Nat.ne_of_gt this)
      · rcases Nat.eq_zero_or_pos b.natAbs with h7 | h7
        · rw [h7] at h2; simp at h2
        · omega
    rcases Int.natAbs_eq b with h6 | h6
    · rw [h5] at h6; rw [ha, h6] at hq; simp at hq
    · rw [h5] at h6; exact h6
  · omega
/-- Divided back, a product that has wrapped tells it. -/
theorem mul_wraps {a b : Int} (wa : I64 a) (wb : I64 b) (hb : b ≠ 0) (h : ¬ I64 (a * b)) : wrap64 ((wrap64 (a * b)).tdiv b) ≠ a ∨ b = -1 ∧ a = -9223372036854775808 := by
  by_cases hm : b = -1 ∧ a = -9223372036854775808
  · exact .inr hm
  refine .inl fun he => ?_
  obtain ⟨k, hk, hk0⟩ := wrap64_rounds (a * b)
  have hk0 := hk0 h
  by_cases hp : wrap64 (a * b) = -9223372036854775808 ∧ b = -1
  · obtain ⟨hp, rfl⟩ := hp
    rw [hp] at he
    have : (-9223372036854775808 : Int).tdiv (-1) = 9223372036854775808 := by decide
    rw [this] at he
    have : wrap64 9223372036854775808 = -9223372036854775808 := by unfold wrap64; omega
    omega
  have hi := tdiv_in (I64_wrap (a * b)) (b := b) hp
  rw [wrap64_of hi] at he
  have h1 := Int.mul_tdiv_add_tmod (wrap64 (a * b)) b
  rw [he] at h1
  have h2 := Int.natAbs_tmod (wrap64 (a * b)) b
  have h3 : (wrap64 (a * b)).natAbs % b.natAbs < b.natAbs := Nat.mod_lt _ (by omega)
  have h4 : a * b = b * a := Int.mul_comm _ _
  have h5 : b.natAbs ≤ 9223372036854775808 := by unfold I64 at wb; omega
  generalize (wrap64 (a * b)).tmod b = r at *
  rw [hk, h4] at h1
  omega
theorem mul_stays {a b : Int} (wa : I64 a) (hb : b ≠ 0) (h : I64 (a * b)) : wrap64 ((wrap64 (a * b)).tdiv b) = a ∧ ¬ (b = -1 ∧ a = -9223372036854775808) := by
  rw [wrap64_of h, Int.mul_tdiv_cancel _ hb, wrap64_of wa]
  refine ⟨rfl, ?_⟩
  rintro ⟨rfl, rfl⟩
  revert h; decide
theorem mul_rem {a b : Int} (h : I64 (a * b)) : (wrap64 (a * b)).tmod b = 0 := by
  rw [wrap64_of h, Int.mul_tmod_left]
/-- What ref.Mul asks: divided back, it is the same, and nothing is left, just if it fits. -/
theorem mul_wraps' {a b : Int} (wa : I64 a) (wb : I64 b) (hb : b ≠ 0) (h1 : ¬ (b = -1 ∧ a = -9223372036854775808)) (h : wrap64 ((wrap64 (a * b)).tdiv b) = a) : I64 (a * b) := by
  by_cases hi : I64 (a * b)
  · exact hi
  · rcases mul_wraps wa wb hb hi with h2 | h2
    · exact absurd h h2
    · exact absurd h2 h1
end Go.Proofs.Ytbndmmfpoljeaaa

namespace Go.Proofs.Ytbndmmfpoljeaaa
open Go.RowKit
set_option linter.unusedVariables false
/-- Labels as cells: names and values. -/
def lbls (l : List (ByteArray × ByteArray)) : List Value := l.flatMap fun x => [.string x.1, .string x.2]
theorem lbls_length (l : List (ByteArray × ByteArray)) : (lbls l).length = l.length * 2 := by
  induction l with
  | nil => rfl
  | cons x l ih => simp only [lbls, List.flatMap_cons, List.length_append, List.length_cons, List.length_nil] at ih ⊢; omega
theorem lbls_append (l m : List (ByteArray × ByteArray)) : lbls (l ++ m) = lbls l ++ lbls m := by simp [lbls]
theorem lbls_one (l : List (ByteArray × ByteArray)) : ∀ u ∈ lbls l, u.oneCell' = true := by
  intro u hu
  simp only [lbls, List.mem_flatMap] at hu
  obtain ⟨x, _, hu⟩ := hu
  simp at hu
  rcases hu with rfl | rfl <;> rfl
theorem lbls_get (l : List (ByteArray × ByteArray)) (p : Nat) (h : p < l.length) : (lbls l)[p * 2]? = some (.string l[p].1) ∧ (lbls l)[p * 2 + 1]? = some (.string l[p].2) := by
  have e : lbls l = lbls (l.take p) ++ (lbls [l[p]] ++ lbls (l.drop (p + 1))) := by
    rw [← lbls_append, ← lbls_append, List.singleton_append, ← List.drop_eq_getElem_cons h, List.take_append_drop]
  have hl : (lbls (l.take p)).length = p * 2 := by rw [lbls_length, List.length_take]; omega
  rw [e]
  refine ⟨?_, ?_⟩
  · rw [List.getElem?_append_right (by omega), hl, Nat.sub_self]; rfl
  · rw [List.getElem?_append_right (by omega), hl, show p * 2 + 1 - p * 2 = 1 by omega]; rfl
theorem lbls_take (l : List (ByteArray × ByteArray)) (k : Nat) : (lbls l).take (k * 2) = lbls (l.take k) := by
  by_cases h : k ≤ l.length
  · conv => lhs; rw [← List.take_append_drop k l, lbls_append]
    rw [List.take_append_of_le_length (by rw [lbls_length, List.length_take]; omega), List.take_of_length_le (by rw [lbls_length, List.length_take]; omega)]
  · rw [List.take_of_length_le (by rw [lbls_length]; omega), List.take_of_length_le (by omega)]
theorem lbls_drop (l : List (ByteArray × ByteArray)) (k : Nat) : (lbls l).drop (k * 2) = lbls (l.drop k) := by
  by_cases h : k ≤ l.length
  · have hl : (lbls (l.take k)).length = k * 2 := by rw [lbls_length, List.length_take]; omega
    conv => lhs; rw [← List.take_append_drop k l, lbls_append]
    rw [← hl, List.drop_left]
  · rw [List.drop_of_length_le (by rw [lbls_length]; omega), List.drop_of_length_le (by omega)]; rfl
theorem Sees.lbl {w : World} {B : Nat} {A : Option Addr} {n : Nat} {l : List (ByteArray × ByteArray)} (h : Sees w B 2 A n (lbls l)) {k : Nat} (hk : k < n) :
    ∃ ad, ∃ hl : k < l.length, A = some ad ∧ w.cell? (ad.add (k * 2)) = some (.string l[k].1) ∧ w.cell? ⟨(ad.add (k * 2)).block, (ad.add (k * 2)).off + 1, none⟩ = some (.string l[k].2) := by
  have hl : k < l.length := by have := h.len; rw [lbls_length] at this; omega
  obtain ⟨ad, e, _, hc⟩ := h.at_ (by omega)
  obtain ⟨h0, h1⟩ := lbls_get l k hl
  exact ⟨ad, hl, e, hc _ _ h0, by rw [add_spelt _ _ _ (by omega)]; exact hc _ _ h1⟩
theorem Sees.lbl_len {w : World} {B : Nat} {A : Option Addr} {n : Nat} {l : List (ByteArray × ByteArray)} (h : Sees w B 2 A n (lbls l)) : l.length = n := by
  have := h.len; rw [lbls_length] at this; omega
end Go.Proofs.Ytbndmmfpoljeaaa

namespace Go.Proofs.Ytbndmmfpoljeaaa
open Go.ChangeShapes Go.WideShapes Go.ChangeAt Go.RowKit
set_option linter.unusedVariables false
set_option maxRecDepth 100000
def smallN (c : Nat) : Bool := decide (97 ≤ c) && decide (c ≤ 122)
def digitN (c : Nat) : Bool := decide (48 ≤ c) && decide (c ≤ 57)
def withinN (c : Nat) : Bool := smallN c || digitN c || decide (c = 95)
def escN (c : Nat) : Bool := decide (c = 34) || decide (c = 92)
theorem smallN_yes {c : Nat} (h1 : 97 ≤ c) (h2 : c ≤ 122) : smallN c = true := by simp [smallN, h1, h2]
theorem smallN_low {c : Nat} (h1 : ¬ 97 ≤ c) : smallN c = false := by simp [smallN, h1]
theorem smallN_high {c : Nat} (h1 : ¬ c ≤ 122) : smallN c = false := by simp [smallN, h1]
theorem digitN_yes {c : Nat} (h1 : 48 ≤ c) (h2 : c ≤ 57) : digitN c = true := by simp [digitN, h1, h2]
theorem digitN_low {c : Nat} (h1 : ¬ 48 ≤ c) : digitN c = false := by simp [digitN, h1]
theorem digitN_high {c : Nat} (h1 : ¬ c ≤ 57) : digitN c = false := by simp [digitN, h1]
theorem ret_yes {e : Ending} {b : Bool} (h : e = .returned (.bool true)) (hb : b = true) : e = .returned (.bool b) := by rw [hb]; exact h
theorem ret_no {e : Ending} {b : Bool} (h : e = .returned (.bool false)) (hb : b = false) : e = .returned (.bool b) := by rw [hb]; exact h
theorem small_any (c : Nat) (w : World) : Calls Try.prog 91 #[.int .u8 c] w fun e w' => e = .returned (.bool (smallN c)) ∧ w = w' := by
  by_cases h1 : 97 ≤ c
  · by_cases h2 : c ≤ 122
    · have H := Lib.hid (smallN_yes h1 h2)
      have i1 : (97 : Int) ≤ c := by omega
      have i2 : (c : Int) ≤ 122 := by omega
      go_enter Try.func91, Try.ntmps91
      go_wp2_with fail
      go_ret
      exact ⟨ret_yes rfl H.out, rfl⟩
    · have H := Lib.hid (smallN_high h2)
      have i1 : (97 : Int) ≤ c := by omega
      have i2 : ¬ (c : Int) ≤ 122 := by omega
      go_enter Try.func91, Try.ntmps91
      go_wp2_with fail
      go_ret
      exact ⟨ret_no rfl H.out, rfl⟩
  · have H := Lib.hid (smallN_low h1)
    have i1 : ¬ (97 : Int) ≤ c := by omega
    go_enter Try.func91, Try.ntmps91
    go_wp2_with fail
    go_ret
    exact ⟨ret_no rfl H.out, rfl⟩
theorem digit_any (c : Nat) (w : World) : Calls Try.prog 97 #[.int .u8 c] w fun e w' => e = .returned (.bool (digitN c)) ∧ w = w' := by
  by_cases h1 : 48 ≤ c
  · by_cases h2 : c ≤ 57
    · have H := Lib.hid (digitN_yes h1 h2)
      have i1 : (48 : Int) ≤ c := by omega
      have i2 : (c : Int) ≤ 57 := by omega
      go_enter Try.func97, Try.ntmps97
      go_wp2_with fail
      go_ret
      exact ⟨ret_yes rfl H.out, rfl⟩
    · have H := Lib.hid (digitN_high h2)
      have i1 : (48 : Int) ≤ c := by omega
      have i2 : ¬ (c : Int) ≤ 57 := by omega
      go_enter Try.func97, Try.ntmps97
      go_wp2_with fail
      go_ret
      exact ⟨ret_no rfl H.out, rfl⟩
  · have H := Lib.hid (digitN_low h1)
    have i1 : ¬ (48 : Int) ≤ c := by omega
    go_enter Try.func97, Try.ntmps97
    go_wp2_with fail
    go_ret
    exact ⟨ret_no rfl H.out, rfl⟩
theorem textWithin_any (c : Nat) (w : World) : Calls Try.prog 92 #[.int .u8 c] w fun e w' => e = .returned (.bool (withinN c)) ∧ w = w' := by
  have HS := Lib.hid (small_any c w)
  have HD := Lib.hid (digit_any c w)
  have HW : Hid (withinN c = (smallN c || digitN c || decide (c = 95))) := Lib.hid rfl
  generalize withinN c = r at *
  generalize smallN c = a at *
  generalize digitN c = b at *
  cases a with
  | true =>
    have HR : Hid (r = true) := Lib.hid (by rw [HW.out]; simp)
    clear HW HD
    go_enter Try.func92, Try.ntmps92
    go_wp2_with fail
    refine HS.out.mono ?_; rintro e w' ⟨rfl, rfl⟩
    go_wp2_with fail
    go_ret
    exact ⟨ret_yes rfl HR.out, rfl⟩
  | false =>
    cases b with
    | true =>
      have HR : Hid (r = true) := Lib.hid (by rw [HW.out]; simp)
      clear HW
      go_enter Try.func92, Try.ntmps92
      go_wp2_with fail
      refine HS.out.mono ?_; rintro e w' ⟨rfl, rfl⟩
      go_wp2_with fail
      refine HD.out.mono ?_; rintro e w' ⟨rfl, rfl⟩
      go_wp2_with fail
      go_ret
      exact ⟨ret_yes rfl HR.out, rfl⟩
    | false =>
      obtain ⟨q, hq⟩ : ∃ q, ((c : Int) == 95) = q := ⟨_, rfl⟩
      have HR : Hid (r = q) := Lib.hid (by
        rw [HW.out, ← hq, Bool.eq_iff_iff]
        simp only [Bool.or_self, Bool.false_or, decide_eq_true_eq, beq_iff_eq]
        omega)
      clear HW
      go_enter Try.func92, Try.ntmps92
      go_wp2_with fail
      refine HS.out.mono ?_; rintro e w' ⟨rfl, rfl⟩
      go_wp2_with fail
      refine HD.out.mono ?_; rintro e w' ⟨rfl, rfl⟩
      go_wp2_with fail
      go_ret
      exact ⟨by rw [HR.out]; rfl, rfl⟩
theorem escaped_any (c : Nat) (w : World) : Calls Try.prog 95 #[.int .u8 c] w fun e w' => e = .returned (.bool (escN c)) ∧ w = w' := by
  by_cases h1 : c = 34
  · subst h1
    go_enter Try.func95, Try.ntmps95
    go_wp2_with fail
    go_ret
    exact ⟨rfl, rfl⟩
  · by_cases h2 : c = 92
    · subst h2
      go_enter Try.func95, Try.ntmps95
      go_wp2_with fail
      go_ret
      exact ⟨rfl, rfl⟩
    · have H := Lib.hid (show escN c = false by simp [escN, h1, h2])
      have i1 : ((c : Int) == 34) = false := by rw [beq_eq_false_iff_ne]; omega
      have i2 : ((c : Int) == 92) = false := by rw [beq_eq_false_iff_ne]; omega
      clear h1 h2
      go_enter Try.func95, Try.ntmps95
      go_wp2_with fail
      go_ret
      exact ⟨ret_no rfl H.out, rfl⟩
end Go.Proofs.Ytbndmmfpoljeaaa

namespace Go.Proofs.Ytbndmmfpoljeaaa
open Go.ChangeShapes Go.WideShapes Go.ChangeAt Go.RowKit
set_option linter.unusedVariables false
set_option maxRecDepth 100000
/-- The k'th byte of s. -/
def byteAt (s : ByteArray) (k : Nat) : Nat := if h : k < s.size then (s[k]).toNat else 0
theorem byteAt_get {s : ByteArray} {k : Nat} (h : k < s.size) : byteAt s k = (s[k]).toNat := dif_pos h
/-- Each of the first k bytes may stand in a word. -/
def allIn (s : ByteArray) : Nat → Bool
  | 0 => true
  | k + 1 => allIn s k && withinN (byteAt s k)
theorem allIn_false {s : ByteArray} {k : Nat} (h : withinN (byteAt s k) = false) : ∀ n, k < n → allIn s n = false
  | 0, hn => by omega
  | n + 1, hn => by
    unfold allIn
    by_cases e : k = n
    · subst e; rw [h, Bool.and_false]
    · rw [allIn_false h n (by omega), Bool.false_and]
/-- May s be a name. -/
def wordF (s : ByteArray) : Bool := decide (1 ≤ s.size) && decide (s.size ≤ 24) && smallN (byteAt s 0) && allIn s s.size
theorem wordF_short {s : ByteArray} (h : ¬ 1 ≤ s.size) : wordF s = false := by simp [wordF, h]
theorem wordF_long {s : ByteArray} (h : ¬ s.size ≤ 24) : wordF s = false := by simp [wordF, h]
theorem wordF_first {s : ByteArray} (h : smallN (byteAt s 0) = false) : wordF s = false := by simp [wordF, h]
theorem wordF_bad {s : ByteArray} {k : Nat} (hk : k < s.size) (h : withinN (byteAt s k) = false) : wordF s = false := by simp [wordF, allIn_false h s.size hk]
theorem wordF_yes {s : ByteArray} (h1 : 1 ≤ s.size) (h2 : s.size ≤ 24) (h3 : smallN (byteAt s 0) = true) (h4 : allIn s s.size = true) : wordF s = true := by simp [wordF, h1, h2, h3, h4]
set_option maxHeartbeats 1000000 in
theorem word_any (s : ByteArray) (w : World) : Calls Try.prog 83 #[.string s] w fun e w' => e = .returned (.bool (wordF s)) ∧ w = w' := by
  have i0 : (0 : Int) ≤ s.size := by omega
  by_cases h1 : 1 ≤ s.size
  · have j1 : ¬ (s.size : Int) < 1 := by omega
    have h0 : 0 < s.size := by omega
    by_cases h2 : s.size ≤ 24
    · have j2 : ¬ (24 : Int) < s.size := by omega
      have hb0 := byteAt_get (s := s) (k := 0) (by omega)
      have HC := Lib.hid (small_any (byteAt s 0) w)
      rw [hb0] at HC
      obtain ⟨b, hb⟩ : ∃ b, smallN (s[0]).toNat = b := ⟨_, rfl⟩
      rw [hb] at HC
      have HF := Lib.hid (hb0 ▸ hb : smallN (byteAt s 0) = b)
      have H1 := Lib.hid h1; have H2 := Lib.hid h2
      clear hb hb0 h1 h2
      cases b with
      | false =>
        have HR := Lib.hid (wordF_first HF.out)
        go_enter Try.func83, Try.ntmps83
        go_wp2_with fail
        refine HC.out.mono ?_; rintro e w' ⟨rfl, rfl⟩
        go_wp2_with fail
        go_ret
        exact ⟨ret_no rfl HR.out, rfl⟩
      | true =>
        obtain ⟨n, hn⟩ : ∃ n, s.size = n := ⟨_, rfl⟩
        go_enter Try.func83, Try.ntmps83
        go_wp2_with fail
        refine HC.out.mono ?_; rintro e w' ⟨rfl, rfl⟩
        go_wp2_with fail
        go_loopg [20] n (fun g x20 wr => ∃ k : Nat, k + g = n ∧ x20 = .int .i64 k ∧ wr = w ∧ allIn s k = true)
        case atStart => exact ⟨0, by omega, rfl, rfl, rfl⟩
        case round =>
          obtain ⟨k, hkg, rfl, rfl, hall⟩ := hrel
          have HA := Lib.hid hall; clear hall
          cases gk with
          | zero =>
            have hkn : ¬ (k : Int) < s.size := by omega
            have HR := Lib.hid (wordF_yes H1.out H2.out HF.out (by rw [hn, show n = k by omega]; exact HA.out))
            go_wp2_with fail
            go_ret
            exact ⟨ret_yes rfl HR.out, rfl⟩
          | succ g =>
            have hkn : k < s.size := by omega
            have hki : (k : Int) < s.size := by omega
            have hk0 : (0 : Int) ≤ k := by omega
            have hbk := byteAt_get hkn
            have HC2 := Lib.hid (textWithin_any (byteAt s k) wr)
            rw [hbk] at HC2
            obtain ⟨b, hb⟩ : ∃ b, withinN (s[k]).toNat = b := ⟨_, rfl⟩
            rw [hb] at HC2
            have HB := Lib.hid (hbk ▸ hb : withinN (byteAt s k) = b)
            clear hb hbk
            cases b with
            | false =>
              have HR := Lib.hid (wordF_bad hkn HB.out)
              go_wp2_with fail
              refine HC2.out.mono ?_; rintro e w' ⟨rfl, rfl⟩
              go_wp2_with fail
              go_ret
              exact ⟨ret_no rfl HR.out, rfl⟩
            | true =>
              have HN : Hid (allIn s (k + 1) = true) := Lib.hid (by unfold allIn; rw [HA.out, HB.out]; rfl)
              go_wp2_with fail
              refine HC2.out.mono ?_; rintro e w' ⟨rfl, rfl⟩
              go_wp2_with fail
              go_roundg g
              case measure => omega
              case rel => exact ⟨k + 1, by omega, by first | rfl | go_num, rfl, HN.out⟩
    · have j2 : (24 : Int) < s.size := by omega
      have HR := Lib.hid (wordF_long h2)
      clear h2
      go_enter Try.func83, Try.ntmps83
      go_wp2_with fail
      go_ret
      exact ⟨ret_no rfl HR.out, rfl⟩
  · have j1 : (s.size : Int) < 1 := by omega
    have HR := Lib.hid (wordF_short h1)
    clear h1
    go_enter Try.func83, Try.ntmps83
    go_wp2_with fail
    go_ret
    exact ⟨ret_no rfl HR.out, rfl⟩
theorem withinN_small {c : Nat} (h : smallN c = true) : withinN c = true := by simp [withinN, h]
theorem withinN_digit {c : Nat} (h1 : 48 ≤ c) (h2 : c ≤ 57) : withinN c = true := by simp [withinN, digitN_yes h1 h2]
theorem withinN_no {c : Nat} (h1 : smallN c = false) (h2 : digitN c = false) (h3 : c ≠ 95) : withinN c = false := by simp [withinN, h1, h2, h3]
set_option maxHeartbeats 1000000 in
theorem refWord_any (s : ByteArray) (w : World) (hs : s.size ≤ 9223372036854775807) : Calls Try.prog 86 #[.string s] w fun e w' => e = .returned (.bool (wordF s)) ∧ w = w' := by
  have i0 : (0 : Int) ≤ s.size := by omega
  obtain ⟨n, hn⟩ : ∃ n, s.size = n := ⟨_, rfl⟩
  go_enter Try.func86, Try.ntmps86
  go_wp2_with fail
  go_loopg [3] n (fun g x3 wr => ∃ k : Nat, k + g = n ∧ x3 = .int .i64 k ∧ wr = w ∧ allIn s k = true ∧ (0 < k → smallN (byteAt s 0) = true))
  case atStart => exact ⟨0, by omega, rfl, rfl, rfl, fun h => absurd h (by omega)⟩
  case round =>
    obtain ⟨k, hkg, rfl, rfl, hall, hfst⟩ := hrel
    have HA := Lib.hid hall; have HF := Lib.hid hfst
    clear hall hfst
    cases gk with
    | zero =>
      have hkn : ¬ (k : Int) < s.size := by omega
      by_cases h1 : 1 ≤ s.size
      · have j1 : (1 : Int) ≤ s.size := by omega
        by_cases h2 : s.size ≤ 24
        · have j2 : (s.size : Int) ≤ 24 := by omega
          have HR := Lib.hid (wordF_yes h1 h2 (HF.out (by omega)) (by rw [hn, show n = k by omega]; exact HA.out))
          clear h1 h2
          go_wp2_with fail
          go_ret
          exact ⟨ret_yes (show Ending.returned (.bool (decide ((n : Int) ≤ 24))) = .returned (.bool true) by rw [decide_eq_true (show (n : Int) ≤ 24 by omega)]) HR.out, rfl⟩
        · have j2 : ¬ (s.size : Int) ≤ 24 := by omega
          have HR := Lib.hid (wordF_long h2)
          clear h1 h2
          go_wp2_with fail
          go_ret
          exact ⟨ret_no (show Ending.returned (.bool (decide ((n : Int) ≤ 24))) = .returned (.bool false) by rw [decide_eq_false (show ¬ (n : Int) ≤ 24 by omega)]) HR.out, rfl⟩
      · have j1 : ¬ (1 : Int) ≤ s.size := by omega
        have HR := Lib.hid (wordF_short h1)
        clear h1
        go_wp2_with fail
        go_ret
        exact ⟨ret_no rfl HR.out, rfl⟩
    | succ g =>
      have hkn : k < s.size := by omega
      have hki : (k : Int) < s.size := by omega
      have hk0 : (0 : Int) ≤ k := by omega
      have hbk := byteAt_get hkn
      have HBK := Lib.hid hbk
      obtain ⟨c, hc⟩ : ∃ c, (s[k]).toNat = c := ⟨_, rfl⟩
      have HBC := Lib.hid (hbk.trans hc)
      have HNEXT : Hid (withinN c = true → allIn s (k + 1) = true) := Lib.hid fun h => by unfold allIn; rw [HA.out, HBC.out, h]; rfl
      have HBAD : Hid (withinN c = false → wordF s = false) := Lib.hid fun h => wordF_bad hkn (by rw [HBC.out]; exact h)
      have HFB : Hid (k = 0 → smallN c = false → wordF s = false) := Lib.hid fun e h => by subst e; exact wordF_first (by rw [HBC.out]; exact h)
      have HFN : Hid ((k = 0 → smallN c = true) → 0 < k + 1 → smallN (byteAt s 0) = true) := Lib.hid fun h _ => by
        rcases Nat.eq_zero_or_pos k with e | e
        · have := h e; subst e; rw [HBC.out]; exact this
        · exact HF.out e
      clear hbk HBK HBC HA HF
      by_cases h1 : 97 ≤ c
      · have i1 : (97 : Int) ≤ ((s[k]).toNat : Int) := by rw [hc]; omega
        by_cases h2 : c ≤ 122
        · have i2 : ((s[k]).toNat : Int) ≤ 122 := by rw [hc]; omega
          have HS := Lib.hid (smallN_yes h1 h2)
          clear h1 h2 hc
          have HR1 := Lib.hid (HNEXT.out (withinN_small HS.out))
          have HR2 := Lib.hid (HFN.out (fun _ => HS.out))
          clear HNEXT HBAD HFB HFN
          go_wp2_with fail
          go_roundg g
          case measure => omega
          case rel => exact ⟨k + 1, by omega, by first | rfl | go_num, rfl, HR1.out, HR2.out⟩
        · have i2 : ¬ ((s[k]).toNat : Int) ≤ 122 := by rw [hc]; omega
          have HS := Lib.hid (smallN_high h2)
          have HR0 := Lib.hid (HBAD.out (withinN_no HS.out (digitN_high (by omega)) (by omega)))
          have i3 : ¬ ((s[k]).toNat : Int) < 48 := by rw [hc]; omega
          have i4 : (57 : Int) < ((s[k]).toNat : Int) := by rw [hc]; omega
          have e1 : (((s[k]).toNat : Int) == 95) = false := by rw [hc, beq_eq_false_iff_ne]; omega
          have e2 : (((s[k]).toNat : Int) != 95) = true := by rw [hc, bne_iff_ne]; omega
          clear h1 h2 hc
          rcases Nat.eq_zero_or_pos k with hz | hz
          · have z1 : ((k : Int) == 0) = true := by simp [hz]
            clear hz
            have HR := Lib.hid (HR0.out)
            clear HNEXT HBAD HFB HFN
            go_wp2_with fail
            go_ret
            exact ⟨ret_no rfl HR.out, rfl⟩
          · have z1 : ((k : Int) == 0) = false := by rw [beq_eq_false_iff_ne]; omega
            clear hz
            have HR := Lib.hid (HR0.out)
            clear HNEXT HBAD HFB HFN
            go_wp2_with fail
            go_ret
            exact ⟨ret_no rfl HR.out, rfl⟩
      · have i1 : ¬ (97 : Int) ≤ ((s[k]).toNat : Int) := by rw [hc]; omega
        have HS := Lib.hid (smallN_low h1)
        rcases Nat.eq_zero_or_pos k with hz | hz
        · have HR0 := Lib.hid (HFB.out hz HS.out)
          have z1 : ((k : Int) == 0) = true := by simp [hz]
          clear hz h1 hc
          have HR := Lib.hid (HR0.out)
          clear HNEXT HBAD HFB HFN
          go_wp2_with fail
          go_ret
          exact ⟨ret_no rfl HR.out, rfl⟩
        · have z1 : ((k : Int) == 0) = false := by rw [beq_eq_false_iff_ne]; omega
          have HK : Hid (k = 0 → smallN c = true) := Lib.hid fun e => absurd e (by omega)
          by_cases h3 : c = 95
          · have HW := Lib.hid (show withinN c = true by rw [h3]; rfl)
            have e1 : (((s[k]).toNat : Int) == 95) = true := by rw [hc, beq_iff_eq]; omega
            have e2 : (((s[k]).toNat : Int) != 95) = false := by rw [hc, bne_eq_false_iff_eq]; omega
            clear hz h1 h3 hc
            have HR1 := Lib.hid (HNEXT.out HW.out)
            have HR2 := Lib.hid (HFN.out HK.out)
            clear HNEXT HBAD HFB HFN
            go_wp2_with fail
            go_roundg g
            case measure => omega
            case rel => exact ⟨k + 1, by omega, by first | rfl | go_num, rfl, HR1.out, HR2.out⟩
          · have e1 : (((s[k]).toNat : Int) == 95) = false := by rw [hc, beq_eq_false_iff_ne]; omega
            have e2 : (((s[k]).toNat : Int) != 95) = true := by rw [hc, bne_iff_ne]; omega
            by_cases h4 : 48 ≤ c
            · have i3 : ¬ ((s[k]).toNat : Int) < 48 := by rw [hc]; omega
              by_cases h5 : c ≤ 57
              · have i4 : ¬ (57 : Int) < ((s[k]).toNat : Int) := by rw [hc]; omega
                have HW := Lib.hid (withinN_digit h4 h5)
                clear hz h1 h3 h4 h5 hc
                have HR1 := Lib.hid (HNEXT.out HW.out)
                have HR2 := Lib.hid (HFN.out HK.out)
                clear HNEXT HBAD HFB HFN
                go_wp2_with fail
                go_roundg g
                case measure => omega
                case rel => exact ⟨k + 1, by omega, by first | rfl | go_num, rfl, HR1.out, HR2.out⟩
              · have i4 : (57 : Int) < ((s[k]).toNat : Int) := by rw [hc]; omega
                have HR0 := Lib.hid (HBAD.out (withinN_no HS.out (digitN_high h5) h3))
                clear hz h1 h3 h4 h5 hc
                have HR := Lib.hid (HR0.out)
                clear HNEXT HBAD HFB HFN
                go_wp2_with fail
                go_ret
                exact ⟨ret_no rfl HR.out, rfl⟩
            · have i3 : ((s[k]).toNat : Int) < 48 := by rw [hc]; omega
              have HR0 := Lib.hid (HBAD.out (withinN_no HS.out (digitN_low h4) h3))
              clear hz h1 h3 h4 hc
              have HR := Lib.hid (HR0.out)
              clear HNEXT HBAD HFB HFN
              go_wp2_with fail
              go_ret
              exact ⟨ret_no rfl HR.out, rfl⟩
end Go.Proofs.Ytbndmmfpoljeaaa

namespace Go.Proofs.Ytbndmmfpoljeaaa
open Go.ChangeShapes Go.WideShapes Go.ChangeAt Go.RowKit
set_option linter.unusedVariables false
set_option maxRecDepth 100000
theorem below_drewN3 {B : Nat} {a w : World} (h : Below B a w) (n : Nat) : Below B a (w.drewN n) := ⟨h.os, h.tape, h.output, h.size, h.block⟩
theorem u8_tri (a b : UInt8) : a < b ∨ a = b ∨ b < a := by
  rcases Nat.lt_trichotomy a.toNat b.toNat with h | h | h
  · exact .inl (UInt8.lt_iff_toNat_lt.2 h)
  · exact .inr (.inl (UInt8.toNat_inj.1 h))
  · exact .inr (.inr (UInt8.lt_iff_toNat_lt.2 h))
theorem u8_not {a b : UInt8} (h : a < b) : ¬ b < a := fun h2 => by
  have := UInt8.lt_iff_toNat_lt.1 h; have := UInt8.lt_iff_toNat_lt.1 h2; omega
theorem u8_ne {a b : UInt8} (h : a < b) : a ≠ b := fun e => by
  subst e; exact u8_not h h
theorem less_flip : ∀ x y : List UInt8, (Op.bytesLess x y || x == y) = !(Op.bytesLess y x)
  | [], [] => by simp [Op.bytesLess]
  | [], b :: y => by simp [Op.bytesLess]
  | a :: x, [] => by simp [Op.bytesLess]
  | a :: x, b :: y => by
    have ih := less_flip x y
    rcases u8_tri a b with h | h | h
    · have h2 := u8_not h; have h3 := u8_ne h
      simp [Op.bytesLess, h, h2, Ne.symm h3]
    · subst h
      have h2 : ¬ a < a := fun h => u8_not h h
      simp only [Op.bytesLess, h2, decide_false, Bool.false_or, beq_self_eq_true, Bool.true_and, List.cons_beq_cons]
      exact ih
    · have h2 := u8_not h; have h3 := u8_ne h
      simp [Op.bytesLess, h, h2, Ne.symm h3]
/-- May x be a label. -/
def lblOk (x : ByteArray × ByteArray) : Bool := wordF x.1 && decide (1 ≤ x.2.size) && decide (x.2.size ≤ 24)
def lblAt (l : List (ByteArray × ByteArray)) (k : Nat) : ByteArray × ByteArray := l.getD k (ByteArray.empty, ByteArray.empty)
theorem lblAt_get {l : List (ByteArray × ByteArray)} {k : Nat} (h : k < l.length) : lblAt l k = l[k] := by simp [lblAt, List.getD_eq_getElem?_getD, h]
/-- Does the k'th label's name come behind the one's ahead of it. -/
def riseAt (l : List (ByteArray × ByteArray)) : Nat → Bool
  | 0 => true
  | k + 1 => Op.bytesLess (lblAt l k).1.toList (lblAt l (k + 1)).1.toList
def rightK (l : List (ByteArray × ByteArray)) : Nat → Bool
  | 0 => true
  | k + 1 => rightK l k && (lblOk (lblAt l k) && riseAt l k)
theorem rightK_false {l : List (ByteArray × ByteArray)} {k : Nat} (h : (lblOk (lblAt l k) && riseAt l k) = false) : ∀ n, k < n → rightK l n = false
  | 0, hn => by omega
  | n + 1, hn => by
    unfold rightK
    by_cases e : k = n
    · subst e; rw [h, Bool.and_false]
    · rw [rightK_false h n (by omega), Bool.false_and]
/-- Is l a set. -/
def rightS (l : List (ByteArray × ByteArray)) : Bool := decide (l.length ≤ 6) && rightK l l.length
theorem rightS_long {l : List (ByteArray × ByteArray)} (h : ¬ l.length ≤ 6) : rightS l = false := by simp [rightS, h]
theorem rightS_row {l : List (ByteArray × ByteArray)} {k : Nat} (hk : k < l.length) (h : lblOk l[k] = false) : rightS l = false := by
  have : rightK l l.length = false := rightK_false (k := k) (by rw [lblAt_get hk, h, Bool.false_and]) _ hk
  simp [rightS, this]
theorem rightS_rise {l : List (ByteArray × ByteArray)} {k : Nat} (hk : k < l.length) (h : riseAt l k = false) : rightS l = false := by
  have : rightK l l.length = false := rightK_false (k := k) (by rw [h, Bool.and_false]) _ hk
  simp [rightS, this]
theorem rightS_yes {l : List (ByteArray × ByteArray)} (h : l.length ≤ 6) (h2 : rightK l l.length = true) : rightS l = true := by simp [rightS, h, h2]
theorem riseAt_get {l : List (ByteArray × ByteArray)} {q k : Nat} (hq : q + 1 = k) (hk : k < l.length) : riseAt l k = Op.bytesLess (l[q]'(by omega)).1.toList l[k].1.toList := by
  subst hq
  show Op.bytesLess _ _ = _
  rw [lblAt_get (by omega), lblAt_get hk]
set_option maxHeartbeats 2000000 in
theorem rightSet_any (A : Option Addr) (n c : Nat) (l : List (ByteArray × ByteArray)) (B : Nat) (w : World) (h : Sees w B 2 A n (lbls l)) (hB : B ≤ w.heap.size) (hn : n ≤ 9223372036854775807) :
    Calls Try.prog 66 #[.slice A n c] w fun e w' => e = .returned (.bool (rightS l)) ∧ Below w.heap.size w w' := by
  have H := Lib.hid h; clear h
  have HL := Lib.hid H.out.lbl_len
  by_cases h6 : n ≤ 6
  · have j6 : ¬ (6 : Int) < n := by omega
    have H6 := Lib.hid h6
    go_enter Try.func66, Try.ntmps66
    go_wp2_with fail
    go_loopg [10] n (fun g x10 wr => ∃ k : Nat, k + g = n ∧ x10 = .int .i64 k ∧ rightK l k = true ∧ Below w.heap.size w wr)
    case atStart => exact ⟨0, by omega, rfl, rfl, Below.refl _ _⟩
    case round =>
      obtain ⟨k, hkg, rfl, hrk, hbel⟩ := hrel
      have HRK := Lib.hid hrk; have HB := Lib.hid hbel
      have hsz := hbel.size
      clear hrk hbel
      cases gk with
      | zero =>
        obtain rfl : k = n := by omega
        have HR := Lib.hid (rightS_yes (l := l) (by rw [HL.out]; exact H6.out) (by rw [HL.out]; exact HRK.out))
        go_wp2_with fail
        go_ret
        exact ⟨ret_yes rfl HR.out, HB.out⟩
      | succ g =>
        have hlt : k < n := by omega
        obtain ⟨ad, hkl, rfl, c0, c1⟩ := (H.out.below (HB.out.mono hB)).lbl hlt
        have hal := World.block_lt_of_cell? wr _ c0
        have HROW : Hid (lblOk l[k] = false → rightS l = false) := Lib.hid (rightS_row hkl)
        have HRISE : Hid (riseAt l k = false → rightS l = false) := Lib.hid (rightS_rise hkl)
        have HNXT : Hid (lblOk l[k] = true → riseAt l k = true → rightK l (k + 1) = true) := Lib.hid fun h1 h2 => by unfold rightK; rw [HRK.out, lblAt_get hkl, h1, h2]; rfl
        have HQ : Hid (∀ q, q + 1 = k → ∃ a2 : ByteArray, wr.cell? (ad.add (q * 2)) = some (.string a2) ∧ (Op.bytesLess l[k].1.toList a2.toList || l[k].1.toList == a2.toList) = !riseAt l k) := Lib.hid fun q hq => by
          obtain ⟨ad2, hql, had, d0, d1⟩ := (H.out.below (HB.out.mono hB)).lbl (show q < n by omega)
          injection had with had; subst had
          exact ⟨_, d0, by rw [less_flip, riseAt_get hq hkl]⟩
        have HBA := Lib.hid (fun o : Obj => HB.out.alloc hsz o)
        clear HRK
        generalize l[k] = p at *
        obtain ⟨a, b⟩ := p
        simp only at c0 c1
        have HW := Lib.hid (fun W => word_any a W)
        have HOK : Hid (lblOk (a, b) = (wordF a && decide (1 ≤ b.size) && decide (b.size ≤ 24))) := Lib.hid rfl
        generalize wordF a = wa at *
        cases wa with
        | false =>
          have HR := Lib.hid (HROW.out (by rw [HOK.out]; rfl))
          clear HROW HRISE HNXT HQ HOK
          go_wp2_with fail
          refine (HW.out _).mono ?_; rintro e w' ⟨rfl, rfl⟩
          go_wp2_with fail
          go_ret
          exact ⟨ret_no rfl HR.out, HBA.out _⟩
        | true =>
          by_cases hb1 : 1 ≤ b.size
          · have y1 : ¬ (b.size : Int) < 1 := by omega
            by_cases hb2 : b.size ≤ 24
            · have y2 : ¬ (24 : Int) < b.size := by omega
              have HOK2 : Hid (lblOk (a, b) = true) := Lib.hid (by rw [HOK.out]; simp [hb1, hb2])
              clear HOK HROW hb1 hb2
              rcases Nat.eq_zero_or_pos k with hk0 | hk0
              · have z1 : ¬ (0 : Int) < k := by omega
                have z5 : ¬ 0 < k := by omega
                have z6 : decide (0 < k) = false := decide_eq_false z5
                have HN := Lib.hid (HNXT.out HOK2.out (by subst hk0; rfl))
                clear HRISE HNXT HQ hk0
                go_wp2_with fail
                refine (HW.out _).mono ?_; rintro e w' ⟨rfl, rfl⟩
                go_wp2_with fail
                go_quiet (fail)
                go_wp2_with fail
                go_roundg g
                case measure => omega
                case rel => exact ⟨k + 1, by omega, by first | rfl | go_num, HN.out, by first | exact HBA.out _ | exact (HBA.out _).drew | exact below_drewN3 (HBA.out _) _⟩
              · obtain ⟨q, hq⟩ : ∃ q, q + 1 = k := ⟨k - 1, by omega⟩
                obtain ⟨a2, d0, hrq⟩ := HQ.out q hq
                have hal2 := World.block_lt_of_cell? wr _ d0
                have z1 : (0 : Int) < k := by omega
                have z5 : 0 < k := by omega
                have z6 : decide (0 < k) = true := decide_eq_true z5
                have z2 : (k : Int) - 1 = q := by omega
                have z3 : (0 : Int) ≤ q := by omega
                have z4 : (q : Int) < n := by omega
                have z7 : IntKind.i64.wrap (q : Int) = q := by rw [IntKind.wrap_i64]; omega
                have z8 : q < n := by omega
                simp only at hrq
                obtain ⟨r, hr⟩ : ∃ r, riseAt l k = r := ⟨_, rfl⟩
                rw [hr] at hrq
                have HRA := Lib.hid hr
                clear hr hq HQ hk0
                cases r with
                | true =>
                  have HN := Lib.hid (HNXT.out HOK2.out HRA.out)
                  clear HNXT HRISE
                  simp only [Bool.not_true] at hrq
                  go_wp2_with fail
                  refine (HW.out _).mono ?_; rintro e w' ⟨rfl, rfl⟩
                  go_wp2_with fail
                  go_quiet (fail)
                  go_wp2_with fail
                  go_roundg g
                  case measure => omega
                  case rel => exact ⟨k + 1, by omega, by first | rfl | go_num, HN.out, by first | exact HBA.out _ | exact (HBA.out _).drew | exact below_drewN3 (HBA.out _) _⟩
                | false =>
                  have HR := Lib.hid (HRISE.out HRA.out)
                  clear HNXT HRISE
                  simp only [Bool.not_false] at hrq
                  go_wp2_with fail
                  refine (HW.out _).mono ?_; rintro e w' ⟨rfl, rfl⟩
                  go_wp2_with fail
                  go_quiet (fail)
                  go_wp2_with fail
                  go_ret
                  exact ⟨ret_no rfl HR.out, by first | exact HBA.out _ | exact (HBA.out _).drew | exact below_drewN3 (HBA.out _) _⟩
            · have y2 : (24 : Int) < b.size := by omega
              have HR := Lib.hid (HROW.out (by rw [HOK.out]; simp [hb2]))
              clear HROW HRISE HNXT HQ HOK hb1 hb2
              go_wp2_with fail
              refine (HW.out _).mono ?_; rintro e w' ⟨rfl, rfl⟩
              go_wp2_with fail
              go_ret
              exact ⟨ret_no rfl HR.out, HBA.out _⟩
          · have y1 : (b.size : Int) < 1 := by omega
            have HR := Lib.hid (HROW.out (by rw [HOK.out]; simp [hb1]))
            clear HROW HRISE HNXT HQ HOK hb1
            go_wp2_with fail
            refine (HW.out _).mono ?_; rintro e w' ⟨rfl, rfl⟩
            go_wp2_with fail
            go_ret
            exact ⟨ret_no rfl HR.out, HBA.out _⟩
  · have j6 : (6 : Int) < n := by omega
    have HR := Lib.hid (rightS_long (l := l) (by rw [HL.out]; exact h6))
    go_enter Try.func66, Try.ntmps66
    go_wp2_with fail
    go_ret
    exact ⟨ret_no rfl HR.out, Below.refl _ _⟩
end Go.Proofs.Ytbndmmfpoljeaaa

namespace Go.Proofs.Ytbndmmfpoljeaaa
open Go.RowKit
theorem ba_ext {a b : ByteArray} (h : a.toList = b.toList) : a = b := by
  rw [ByteArray.toList_eq, ByteArray.toList_eq] at h
  cases a; cases b
  exact congrArg ByteArray.mk (Array.toList_inj.1 h)
theorem ba_list (l : List UInt8) : ByteArray.toList ⟨l.toArray⟩ = l := by rw [ByteArray.toList_eq]
end Go.Proofs.Ytbndmmfpoljeaaa

namespace Go.Proofs.Ytbndmmfpoljeaaa
open Go.ChangeShapes Go.WideShapes Go.ChangeAt Go.RowKit
set_option linter.unusedVariables false
set_option maxRecDepth 100000
@[go_sem] theorem eq_lbl (a b c d : ByteArray) (w : World) : (Op.equalIn 10000 53 (.agg #[.string a, .string b]) (.agg #[.string c, .string d])).run Try.prog w = .ok (a.toList == c.toList && b.toList == d.toList) w := by
  have u3 := Try.underlying9
  have a3 := Try.isAgg9
  have z3 := Try.sizeOf9
  have hS : Try.prog.underlying 53 = some (.struct (Try.prog.fieldsOf 53)) := by kernel_rfl
  have hp : Try.prog.stoodInHeld 53 = false := by kernel_rfl
  rw [show (10000 : Nat) = 9999 + 1 from rfl, run_equalIn_agg w 9999 53 _ _ hS hp]
  simp only [Program.fieldsOf, Try.underlying53]
  go_simp
  by_cases h1 : a.toList = c.toList <;> by_cases h2 : b.toList = d.toList <;> simp [h1, h2]
theorem take_eq_snoc_l {zs ys : List (ByteArray × ByteArray)} {k : Nat} (h1 : k < zs.length) (h2 : k < ys.length) (h : zs.take k = ys.take k) (he : zs[k] = ys[k]) : zs.take (k + 1) = ys.take (k + 1) := by
  rw [List.take_succ_eq_append_getElem h1, List.take_succ_eq_append_getElem h2, h, he]
theorem same_lbl (A A2 : Option Addr) (n c n2 c2 B B2 : Nat) (zs ys : List (ByteArray × ByteArray)) (w : World) (h : Sees w B 2 A n (lbls zs)) (h2 : Sees w B2 2 A2 n2 (lbls ys)) (hn : n ≤ 9223372036854775807) (hn2 : n2 ≤ 9223372036854775807) :
    Calls Try.prog 26 #[.slice A n c, .slice A2 n2 c2] w fun e w' => e = .returned (.bool (decide (zs = ys))) ∧ ∃ m, w' = w.drewN m := by
  have H := Lib.hid h; clear h
  have H2 := Lib.hid h2; clear h2
  have HL := Lib.hid H.out.lbl_len
  have HL2 := Lib.hid H2.out.lbl_len
  by_cases hnn : n = n2
  · subst hnn
    go_enter Try.func26, Try.ntmps26
    go_wp2
    go_loopw [5] (fun i wr => ∃ k m : Nat, k ≤ n ∧ i = .int .i64 k ∧ wr = w.drewN m ∧ zs.take k = ys.take k) (fun i _ => n - (intOf i).toNat)
    case atStart => exact ⟨0, 0, Nat.zero_le _, rfl, rfl, rfl⟩
    case round =>
      obtain ⟨k, m, hk, rfl, rfl, ht⟩ := hrel
      have HT := Lib.hid ht; clear ht
      by_cases hlt : k < n
      · obtain ⟨ad, hkl, rfl, hc, hd⟩ := H.out.lbl hlt
        obtain ⟨ad2, hkl2, rfl, hc2, hd2⟩ := H2.out.lbl hlt
        have hq := Lib.hid (take_eq_snoc_l hkl hkl2 HT.out)
        have hne : Hid (zs[k] ≠ ys[k] → zs ≠ ys) := fun h e => h (by subst e; rfl)
        generalize zs[k] = x at *
        generalize ys[k] = y at *
        obtain ⟨x1, x2⟩ := x
        obtain ⟨y1, y2⟩ := y
        simp only at hc hd hc2 hd2
        by_cases hxy : x1 = y1 ∧ x2 = y2
        · obtain ⟨rfl, rfl⟩ := hxy
          have he1 : (x1.toList == x1.toList) = true := by simp
          have he2 : (x2.toList == x2.toList) = true := by simp
          go_wp2
          go_quiet (fail)
          go_wp2
          go_roundw
          case rel => exact ⟨k + 1, _, by omega, by go_num, rfl, hq.out (by simp)⟩
          case measure => simp [intOf]; omega
        · have hz := Lib.hid (hne.out (fun h => hxy (by injection h with h1 h2; exact ⟨h1, h2⟩)))
          by_cases h1 : x1 = y1
          · subst h1
            have he1 : (x1.toList == x1.toList) = true := by simp
            have he2 : (x2.toList == y2.toList) = false := by rw [beq_eq_false_iff_ne]; exact fun h => hxy ⟨rfl, ba_ext h⟩
            clear hxy
            go_wp2
            go_quiet (fail)
            go_wp2
            go_ret
            exact ⟨ret_bool (decide_eq_false hz.out).symm, _, World.drewN_drewN _ _ _⟩
          · have he1 : (x1.toList == y1.toList) = false := by rw [beq_eq_false_iff_ne]; exact fun h => h1 (ba_ext h)
            clear hxy h1
            go_wp2
            go_quiet (fail)
            go_wp2
            go_ret
            exact ⟨ret_bool (decide_eq_false hz.out).symm, _, World.drewN_drewN _ _ _⟩
      · obtain rfl : k = n := by omega
        have he : zs = ys := by
          have := HT.out; rwa [List.take_of_length_le (by rw [HL.out]; omega), List.take_of_length_le (by rw [HL2.out]; omega)] at this
        have HE := Lib.hid (decide_eq_true he); clear he
        go_wp2
        go_ret
        exact ⟨ret_bool HE.out.symm, m, rfl⟩
  · have hz : zs ≠ ys := fun e => hnn (by rw [← HL.out, ← HL2.out, e])
    have hb : ((n : Int) == n2) = false := beq_eq_false_iff_ne.2 (by omega)
    have HE := Lib.hid (decide_eq_false hz); clear hz
    go_enter Try.func26, Try.ntmps26
    go_wp2
    go_ret
    exact ⟨ret_bool HE.out.symm, 0, rfl⟩

end Go.Proofs.Ytbndmmfpoljeaaa

namespace Go.Proofs.Ytbndmmfpoljeaaa
open Go.RowKit Go.ChangeShapes Go.WideShapes Go.ChangeAt
set_option linter.unusedVariables false
/-- Texts as cells. -/
def strs (l : List ByteArray) : List Value := l.map Value.string
theorem strs_length (l : List ByteArray) : (strs l).length = l.length := by simp [strs]
theorem strs_get (l : List ByteArray) (k : Nat) (h : k < l.length) : (strs l)[k]? = some (.string l[k]) := by simp [strs, h]
theorem Sees.str {w : World} {B : Nat} {A : Option Addr} {n : Nat} {l : List ByteArray} (h : Sees w B 1 A n (strs l)) {k : Nat} (hk : k < n) :
    ∃ ad, ∃ hl : k < l.length, A = some ad ∧ w.cell? (ad.add k) = some (.string l[k]) := by
  have hl : k < l.length := by have := h.len; rw [strs_length] at this; omega
  obtain ⟨ad, u, e, hx, hc⟩ := h.one hk
  rw [strs_get l k hl] at hx
  injection hx with hx; subst hx
  exact ⟨ad, hl, e, hc⟩
theorem Sees.str_len {w : World} {B : Nat} {A : Option Addr} {n : Nat} {l : List ByteArray} (h : Sees w B 1 A n (strs l)) : l.length = n := by
  have := h.len; rw [strs_length] at this; omega
theorem sees_of_cells {w : World} {a : Addr} {len m : Nat} {V : Nat → Value} (hlm : len ≤ m) (h : ∀ i, i < m → w.cell? (a.add i) = some (V i)) :
    Sees w w.heap.size 1 (some a) len ((List.range len).map V) := by
  refine ⟨by simp, fun hn => ⟨a, rfl, ?_, fun j u hu => ?_⟩⟩
  · have := World.block_lt_of_cell? w (a.add 0) (h 0 (by omega))
    rwa [add_block] at this
  · have hj : j < len := by have := (List.getElem?_eq_some_iff.1 hu).1; simpa using this
    rw [List.getElem?_map, List.getElem?_range hj] at hu
    simp at hu; subst hu
    exact h j (by omega)
section
variable {P : Program} {w : World} {base : Nat} {spare : Nat → Bool} {held : Bool} {H : Type} {enc : TypeId × Value → H}
theorem arg_bools {t e : TypeId} {fuel : Nat} {a0 : Option Addr} {len cap : Nat} {x : DataW H × List MemPlace} (ht : P.underlying t = some (.slice e)) (he : P.underlying e = some .bool) (hc : P.cellsOf e = 1)
    (h : DataW.trod enc P w base spare held fuel t (Value.slice a0 len cap).cells.toList = some x) :
    ∃ zs : List Bool, Sees w w.heap.size 1 a0 len (bools zs) ∧ len ≤ cap ∧ cap ≤ 9223372036854775807 := by
  rcases Deep.open_slice1 ht hc h with ⟨hcs, _⟩ | ⟨a, l, c, m, n, V, D, Pl, hcs, _, hl, hm, hmm, _, hx⟩
  · simp [Value.cells] at hcs
    obtain ⟨rfl, rfl, rfl⟩ := hcs
    exact ⟨[], by simpa [bools] using Sees.nil, Nat.le_refl _, by omega⟩
  · simp [Value.cells] at hcs
    obtain ⟨rfl, rfl, rfl⟩ := hcs
    have hlm : len ≤ m := by rw [hmm]; split <;> omega
    refine ⟨(List.range len).map fun i => match V i with | .bool b => b | _ => false, ?_, hl, by unfold maxLen at hm; exact hm⟩
    have := sees_of_cells hlm fun i hi => (hx i hi).1
    have e : bools ((List.range len).map fun i => match V i with | .bool b => b | _ => false) = (List.range len).map V := by
      unfold bools
      rw [List.map_map]
      refine List.map_congr_left fun i hi => ?_
      have hi' : i < m := by have := List.mem_range.1 hi; omega
      obtain ⟨b, hb, _⟩ := DataW.trod_bool he (hx i hi').2
      simp at hb
      simp [hb]
    rw [e]; exact this
theorem arg_strs {t e : TypeId} {fuel : Nat} {a0 : Option Addr} {len cap : Nat} {x : DataW H × List MemPlace} (ht : P.underlying t = some (.slice e)) (he : P.underlying e = some .string) (hc : P.cellsOf e = 1)
    (h : DataW.trod enc P w base spare held fuel t (Value.slice a0 len cap).cells.toList = some x) :
    ∃ zs : List ByteArray, Sees w w.heap.size 1 a0 len (strs zs) ∧ len ≤ cap ∧ cap ≤ 9223372036854775807 ∧ ∀ s ∈ zs, s.size ≤ maxLen := by
  rcases Deep.open_slice1 ht hc h with ⟨hcs, _⟩ | ⟨a, l, c, m, n, V, D, Pl, hcs, _, hl, hm, hmm, _, hx⟩
  · simp [Value.cells] at hcs
    obtain ⟨rfl, rfl, rfl⟩ := hcs
    exact ⟨[], by simpa [strs] using Sees.nil, Nat.le_refl _, by omega, by simp⟩
  · simp [Value.cells] at hcs
    obtain ⟨rfl, rfl, rfl⟩ := hcs
    have hlm : len ≤ m := by rw [hmm]; split <;> omega
    have each : ∀ i, i < m → ∃ s : ByteArray, V i = .string s ∧ s.size ≤ maxLen := by
      intro i hi
      obtain ⟨s, hs, _, hz⟩ := DataW.trod_string he (hx i hi).2
      simp at hs
      exact ⟨s, hs, hz⟩
    refine ⟨(List.range len).map fun i => match V i with | .string b => b | _ => ByteArray.empty, ?_, hl, by unfold maxLen at hm; exact hm, ?_⟩
    · have := sees_of_cells hlm fun i hi => (hx i hi).1
      have e : strs ((List.range len).map fun i => match V i with | .string b => b | _ => ByteArray.empty) = (List.range len).map V := by
        unfold strs
        rw [List.map_map]
        refine List.map_congr_left fun i hi => ?_
        obtain ⟨s, hs, _⟩ := each i (by have := List.mem_range.1 hi; omega)
        simp [hs]
      rw [e]; exact this
    · intro s hs
      simp only [List.mem_map, List.mem_range] at hs
      obtain ⟨i, hi, rfl⟩ := hs
      obtain ⟨s, hs, hz⟩ := each i (by omega)
      simp [hs, hz]
theorem arg_ints {t e : TypeId} {fuel : Nat} {a0 : Option Addr} {len cap : Nat} {x : DataW H × List MemPlace} (ht : P.underlying t = some (.slice e)) (he : P.underlying e = some (.int .i64)) (hc : P.cellsOf e = 1)
    (h : DataW.trod enc P w base spare held fuel t (Value.slice a0 len cap).cells.toList = some x) :
    ∃ zs : List Int, Sees w w.heap.size 1 a0 len (ints zs) ∧ len ≤ cap ∧ cap ≤ 9223372036854775807 ∧ ∀ z ∈ zs, (Lit.int .i64 z).wf = true := by
  rcases open_ints ht he hc h with ⟨hcs, _⟩ | ⟨x, l, c, zs, hcs, _, hl, hm, hz, _, hcell, hwz⟩
  · simp [Value.cells] at hcs
    obtain ⟨rfl, rfl, rfl⟩ := hcs
    exact ⟨[], by simpa [ints] using Sees.nil, Nat.le_refl _, by omega, by simp⟩
  · simp [Value.cells] at hcs
    obtain ⟨rfl, rfl, rfl⟩ := hcs
    have hlz : len ≤ zs.length := by rw [hz]; split <;> omega
    refine ⟨zs.take len, ?_, hl, by unfold maxLen at hm; exact hm, fun z hzz => hwz z (List.mem_of_mem_take hzz)⟩
    have := sees_of_cells (V := fun i => .int .i64 (zs.getD i 0)) hlz fun i hi => hcell i hi
    have e : ints (zs.take len) = (List.range len).map fun i => Value.int .i64 (zs.getD i 0) := by
      refine List.ext_getElem? fun i => ?_
      by_cases hi : i < len
      · rw [ints_get _ i (by rw [List.length_take]; omega), List.getElem?_map, List.getElem?_range hi]
        simp [List.getD_eq_getElem?_getD, List.getElem?_eq_getElem (show i < zs.length by omega)]
      · rw [List.getElem?_eq_none (by rw [ints_length, List.length_take]; omega), List.getElem?_eq_none (by simp; omega)]
    rw [e]; exact this
end
end Go.Proofs.Ytbndmmfpoljeaaa

namespace Go.Proofs.Ytbndmmfpoljeaaa
open Go.ChangeShapes Go.WideShapes Go.ChangeAt Go.RowKit Go.Shelf
set_option linter.unusedVariables false
set_option maxRecDepth 1000000
/-- A builder in block b, its bytes l; all it owns lies from B on. -/
def Bld (w : World) (B b : Nat) (l : List Value) : Prop := Lib.IsBuilderF 94 5 B b l w
/-- One that has been written to. -/
def BldAt (w : World) (B b : Nat) (l : List Value) : Prop := Lib.BuilderAtF 94 5 B b (.pointer (some ⟨b, 0, none⟩)) l w
theorem BldAt.is {w : World} {B b : Nat} {l : List Value} (h : BldAt w B b l) : Bld w B b l := .inr h
/-- What a call on a builder leaves of all else. -/
def BldKept (B b : Nat) (w w' : World) : Prop := Below B w w' ∧ Lib.OthersKept 5 (some b) w w'
theorem bld_size : (Try.prog.info? 94).map (·.size) = some 2 := by kernel_rfl
theorem bld_lies : liesAt Try.prog Try.prog.depth 94 (2 / Try.prog.cellsOf 94) 0 94 1 = true := by kernel_rfl
theorem Try.infoU8x : (Try.prog.info? 5).map (fun i => (i.zero, i.size, i.bytes)) = some (some (.int .u8 0), 1, 1) := by kernel_rfl
theorem bCheck_used (b : Nat) (w : World) (h0 : w.cell? ⟨b, 0, none⟩ = some (.pointer (some ⟨b, 0, none⟩))) :
    Calls Try.prog 84 #[.pointer (some ⟨b, 0, none⟩)] w fun e w' => e = .returned (.tuple #[]) ∧ w' = w := by
  obtain ⟨j, hj, hjs⟩ := Option.map_eq_some_iff.1 bld_size
  go_enter Try.func84, Try.ntmps84
  go_wp2
  rw [Lib.run_neq_ptr_same w _ Try.underlying92 hj]
  go_wp2
  go_end0
  exact ⟨rfl, rfl⟩
theorem bCheck_fresh (b : Nat) (w : World) (h0 : w.cell? ⟨b, 0, none⟩ = some (.pointer none)) (hsh : w.shape? b = some (94, 2)) (hfz : w.frozen? ⟨b, 0, none⟩ = false) :
    Calls Try.prog 84 #[.pointer (some ⟨b, 0, none⟩)] w fun e w' => e = .returned (.tuple #[]) ∧ w' = w.setCell ⟨b, 0, none⟩ (.pointer (some ⟨b, 0, none⟩)) := by
  obtain ⟨j, hj, hjs⟩ := Option.map_eq_some_iff.1 bld_size
  go_enter Try.func84, Try.ntmps84
  go_wp2
  rw [Lib.run_to_unsafe w ⟨b, 0, none⟩ Try.underlying92 Try.underlying114 hj (by rw [hjs]; decide) hsh (Nat.zero_lt_succ 1)]
  simp only [Result.andThen]
  rw [Oper.upon_value]
  go_wp2
  rw [run_callFunc_extern Try.func93 (by kernel_rfl) (by kernel_rfl) (by kernel_rfl) (e := Extern.AbiNoEscape.same) (by kernel_rfl)]
  rw [Lib.run_noEscape]
  simp only [Result.andThen]
  rw [Oper.upon_value]
  go_wp2
  rw [Lib.run_from_unsafe w ⟨b, 0, none⟩ Try.underlying114 Try.underlying92 hj hsh bld_lies]
  simp only [Result.andThen]
  rw [Oper.upon_value]
  go_wp2
  go_end0
  exact ⟨rfl, rfl⟩
theorem bCheck (B b : Nat) (l : List Value) (w : World) (h : Bld w B b l) :
    Calls Try.prog 84 #[.pointer (some ⟨b, 0, none⟩)] w fun e w' => e = .returned (.tuple #[]) ∧ BldAt w' B b l ∧ BldKept B b w w' := by
  rcases h with h | h
  · refine (bCheck_fresh b w h.cell0 h.shape h.frozen0).mono ?_
    rintro e w' ⟨rfl, rfl⟩
    exact ⟨rfl, h.used _, (Below.refl B w).setCell (p := ⟨b, 0, none⟩) h.1 _, (Lib.OthersKept.refl _ _ w).setCell ⟨b, 0, none⟩ rfl _⟩
  · refine (bCheck_used b w h.cell0).mono ?_
    rintro e w' ⟨rfl, rfl⟩
    exact ⟨rfl, h, Below.refl B _, Lib.OthersKept.refl _ _ _⟩
set_option maxHeartbeats 2000000 in
theorem bByte (B b : Nat) (l : List Value) (c : Int) (w : World) (h : Bld w B b l) (hlen : l.length + 1 ≤ 140737488355328) (hBw : B ≤ w.heap.size) :
    Calls Try.prog 67 #[.pointer (some ⟨b, 0, none⟩), .int .u8 c] w fun e w' => e = .returned .nilIface ∧ BldAt w' B b (l ++ [.int .u8 c]) ∧ BldKept B b w w' := by
  obtain ⟨i0, hi, hz0, hz1, hz2⟩ := info_parts Try.infoU8x
  go_enter Try.func67, Try.ntmps67
  go_wp2_with fail
  refine (bCheck B b l _ h).mono ?_
  rintro e w1 ⟨rfl, h1, hb1, hk1⟩
  obtain ⟨hB, v, hbk, hown, hne⟩ := h1
  have c0 : w1.cell? ⟨b, 0, none⟩ = some (.pointer (some ⟨b, 0, none⟩)) := by rw [Lib.cell_of_heap hbk]; rfl
  have c1 : w1.cell? ⟨b, 1, none⟩ = some v := by rw [Lib.cell_of_heap hbk]; rfl
  go_wp2_with (at_builtin; refine wpList_append_ownF _ rfl _ _ 76 rfl B 5 i0 (.int .u8 0) 1 1 Try.underlying76 hi hz0 hz1 hz2 rfl (by decide) _ _ _ rfl (hown.alloc _) ⟨w1.heap.size, 0, none⟩ 1 1 [.int .u8 c] rfl rfl ?c1 ?c2 ?c3 ?c4 ?c5 ?_)
  case c1 =>
    intro j u hj
    match j, hj with
    | 0, hj => simp at hj; subst hj; simp [Addr.add]
  case c2 => intro u hu; simp at hu; subst hu; rfl
  case c3 => unfold maxLen; omega
  case c4 => omega
  case c5 => have := hb1.size; simp; omega
  intro v' w2 hown' hgrow _
  have hlt : b < w1.heap.size := by
    rcases Nat.lt_or_ge b w1.heap.size with h' | h'
    · exact h'
    · simp [Array.getElem?_eq_none h'] at hbk
  have hb2 : w2.heap[b]? = some (.cells #[.pointer (some ⟨b, 0, none⟩), v] 94 (0, 0)) := by
    rw [hgrow.block b (by simp; omega) (fun e => hne e.symm), Lib.alloc_old w1 _ b hlt]
    exact hbk
  have d0 : w2.cell? ⟨b, 0, none⟩ = some (.pointer (some ⟨b, 0, none⟩)) := by rw [Lib.cell_of_heap hb2]; rfl
  have d1 : w2.cell? ⟨b, 1, none⟩ = some v := by rw [Lib.cell_of_heap hb2]; rfl
  have f1 : w2.frozen? ⟨b, 1, none⟩ = false := Lib.frozen_of_heap hb2 1
  obtain ⟨g, cap, rfl⟩ : ∃ g cap, v' = .slice (some ⟨g, 0, none⟩) (l.length + 1) cap := by
    rcases hown'.2 with ⟨_, h0⟩ | ⟨g, cap, cur, fz, hv, _⟩
    · omega
    · exact ⟨g, cap, hv⟩
  go_wp2
  go_ret
  refine ⟨rfl, ?_, ?_, ((hk1.alloc _).grown hgrow (Lib.ownsRowF_kind (hown.alloc _))).setCell ⟨b, 1, none⟩ rfl _⟩
  · exact Lib.BuilderAtF.put (T := 94) (e := 5) hB hb2 (bs' := l ++ [.int .u8 c]) (by simpa using hown') (by decide)
  · exact ((hb1.alloc (by have := hb1.size; omega) _).grown hgrow (by have := hb1.size; simp; omega) (fun k hk => (hown.lt k hk).1)).setCell (p := ⟨b, 1, none⟩) hB _
set_option maxHeartbeats 2000000 in
theorem bString (B b : Nat) (l : List Value) (s : ByteArray) (w : World) (h : Bld w B b l) (hlen : l.length + s.size ≤ 140737488355328) (hBw : B ≤ w.heap.size) :
    Calls Try.prog 68 #[.pointer (some ⟨b, 0, none⟩), .string s] w fun e w' => e = .returned (.tuple #[.int .i64 s.size, .nilIface]) ∧ BldAt w' B b (l ++ Lib.strCells s) ∧ BldKept B b w w' := by
  obtain ⟨i0, hi, hz0, hz1, hz2⟩ := info_parts Try.infoU8x
  go_enter Try.func68, Try.ntmps68
  go_wp2_with fail
  refine (bCheck B b l _ h).mono ?_
  rintro e w1 ⟨rfl, h1, hb1, hk1⟩
  obtain ⟨hB, v, hbk, hown, hne⟩ := h1
  have c0 : w1.cell? ⟨b, 0, none⟩ = some (.pointer (some ⟨b, 0, none⟩)) := by rw [Lib.cell_of_heap hbk]; rfl
  have c1 : w1.cell? ⟨b, 1, none⟩ = some v := by rw [Lib.cell_of_heap hbk]; rfl
  go_wp2_with (at_builtin; refine Lib.wpList_append_own_stringF _ rfl _ _ 76 9 rfl B 5 i0 Try.underlying76 Try.underlying9 hi hz0 hz1 hz2 _ _ _ rfl hown s rfl ?c3 ?c4 ?c5 ?_)
  case c3 => unfold maxLen; omega
  case c4 => omega
  case c5 => have := hb1.size; omega
  intro v' w2 hown' hgrow _
  have hlt : b < w1.heap.size := by
    rcases Nat.lt_or_ge b w1.heap.size with h' | h'
    · exact h'
    · simp [Array.getElem?_eq_none h'] at hbk
  have hb2 : w2.heap[b]? = some (.cells #[.pointer (some ⟨b, 0, none⟩), v] 94 (0, 0)) := by
    rw [hgrow.block b hlt (fun e => hne e.symm)]
    exact hbk
  have d0 : w2.cell? ⟨b, 0, none⟩ = some (.pointer (some ⟨b, 0, none⟩)) := by rw [Lib.cell_of_heap hb2]; rfl
  have d1 : w2.cell? ⟨b, 1, none⟩ = some v := by rw [Lib.cell_of_heap hb2]; rfl
  have f1 : w2.frozen? ⟨b, 1, none⟩ = false := Lib.frozen_of_heap hb2 1
  obtain ⟨ao, n', cap, rfl⟩ : ∃ ao n' cap, v' = .slice ao n' cap := by
    rcases hown'.2 with ⟨hv, _⟩ | ⟨g, cap, cur, fz, hv, _⟩
    · exact ⟨_, _, _, hv⟩
    · exact ⟨_, _, _, hv⟩
  go_wp2
  go_ret2
  refine ⟨rfl, ?_, ?_, (hk1.grown hgrow (Lib.ownsRowF_kind hown)).setCell ⟨b, 1, none⟩ rfl _⟩
  · exact Lib.BuilderAtF.put (T := 94) (e := 5) hB hb2 (bs' := l ++ Lib.strCells s) (by simpa [Lib.strCells_length] using hown') (by decide)
  · exact (hb1.grown hgrow (by have := hb1.size; omega) (fun k hk => (hown.lt k hk).1)).setCell (p := ⟨b, 1, none⟩) hB _
set_option maxHeartbeats 2000000 in
theorem bgrow_fresh (B b n : Nat) (w : World) (hB : B ≤ b) (hbk : w.heap[b]? = some (.cells #[.pointer (some ⟨b, 0, none⟩), .slice none 0 0] 94 (0, 0))) (hBw : B ≤ w.heap.size) (hn : n ≤ 281474976710656) :
    Calls Try.prog 98 #[.pointer (some ⟨b, 0, none⟩), .int .i64 n] w fun e w' => e = .returned (.tuple #[]) ∧ (Lib.BuilderAt 94 5 B b (.pointer (some ⟨b, 0, none⟩)) [] w' ∧ Below B w w') := by
  obtain ⟨cs, hrun, hle, hmax⟩ := Lib.run_makeNoZero (P := Try.prog) w.drew #[3] 76 5 Try.underlying76 n hn
  have hw : IntKind.i64.wrap (IntKind.i64.wrap 0 + (n : Int)) = n := by
    rw [IntKind.wrap_i64, IntKind.wrap_i64]
    omega
  have hcall : (callFunc 100 #[.int .i64 (n : Int)]).run Try.prog w.drew = .ok (.value (.slice (some ⟨w.heap.size, 0, none⟩) n cs.size)) (w.drew.drew.drew.alloc (.cells cs 5)) := by
    rw [run_callFunc_extern Try.func100 (by kernel_rfl) (by kernel_rfl) (by kernel_rfl) (e := Extern.BytealgMakeNoZero.makeNoZero #[3] #[76]) (by kernel_rfl), hrun]
    rfl
  have hcall2 : (callFunc 100 #[.int .i64 (IntKind.i64.wrap (IntKind.i64.wrap 0 + (n : Int)))]).run Try.prog w.drew = .ok (.value (.slice (some ⟨w.heap.size, 0, none⟩) n cs.size)) (w.drew.drew.drew.alloc (.cells cs 5)) := by
    rw [hw]; exact hcall
  have c1 : w.drew.cell? ⟨b, 1, none⟩ = some (.slice none 0 0) := by
    have : w.drew.heap[b]? = _ := hbk
    rw [Lib.cell_of_heap this]; rfl
  have c2 : (w.alloc (.cells cs 5)).cell? ⟨b, 1, none⟩ = some (.slice none 0 0) := by
    have hlt : b < w.heap.size := by
      rcases Nat.lt_or_ge b w.heap.size with h' | h'
      · exact h'
      · simp [Array.getElem?_eq_none h'] at hbk
    have : (w.alloc (.cells cs 5)).heap[b]? = _ := (Lib.alloc_old w _ b hlt).trans hbk
    rw [Lib.cell_of_heap this]; rfl
  have f2 : (w.alloc (.cells cs 5)).frozen? ⟨b, 1, none⟩ = false := by
    have hlt : b < w.heap.size := by
      rcases Nat.lt_or_ge b w.heap.size with h' | h'
      · exact h'
      · simp [Array.getElem?_eq_none h'] at hbk
    exact Lib.frozen_of_heap ((Lib.alloc_old w _ b hlt).trans hbk) 1
  have hcopy : ∀ W : World, (Builtin.copy_ #[76, 76] 3 #[.slice (some ⟨w.heap.size, 0, none⟩) 0 cs.size, .slice none 0 0]).run Try.prog W = .ok (goInt 0) W :=
    fun W => run_copy_none W 76 76 3 5 _ _ 0 cs.size 0 0 Try.underlying76 (by kernel_rfl) rfl
  have hfin := Lib.grown_fresh (T := 94) (e := 5) (cs := cs) hB hbk hBw (hmax (by unfold maxLen; omega)) (by decide)
  clear hw
  go_enter Try.func98, Try.ntmps98
  go_wp2
  go_region
  all_goals (go_wp2; go_end0; exact ⟨rfl, hfin⟩)
set_option maxHeartbeats 2000000 in
theorem bGrow (B b n : Nat) (w : World) (hB : B ≤ b) (hbk : w.heap[b]? = some (.cells #[.pointer none, .slice none 0 0] 94 (0, 0))) (hBw : B ≤ w.heap.size) (hn : n ≤ 281474976710656) :
    Calls Try.prog 94 #[.pointer (some ⟨b, 0, none⟩), .int .i64 n] w fun e w' => e = .returned (.tuple #[]) ∧ BldAt w' B b [] ∧ Below B w w' := by
  have hbk1 : (w.setCell ⟨b, 0, none⟩ (.pointer (some ⟨b, 0, none⟩))).heap[b]? = some (.cells #[.pointer (some ⟨b, 0, none⟩), .slice none 0 0] 94 (0, 0)) := by
    simp [World.setCell, Array.getElem?_modify, hbk]
  have c1 : (w.setCell ⟨b, 0, none⟩ (.pointer (some ⟨b, 0, none⟩))).cell? ⟨b, 1, none⟩ = some (.slice none 0 0) := by rw [Lib.cell_of_heap hbk1]; rfl
  have hb1 : Below B w (w.setCell ⟨b, 0, none⟩ (.pointer (some ⟨b, 0, none⟩))) := (Below.refl B w).setCell (p := ⟨b, 0, none⟩) hB _
  have hU : Lib.BuilderAt 94 5 B b (.pointer (some ⟨b, 0, none⟩)) [] (w.setCell ⟨b, 0, none⟩ (.pointer (some ⟨b, 0, none⟩))) := ⟨hB, .slice none 0 0, hbk1, World.ownsRow_nil _ _ _ _, by simp [Value.ownBlock]⟩
  have c1' : (w.setCell ⟨b, 0, none⟩ (.pointer (some ⟨b, 0, none⟩))).drew.cell? ⟨b, 1, none⟩ = some (.slice none 0 0) := c1
  have H0 := Lib.hid (show w.cell? ⟨b, 0, none⟩ = some (.pointer none) by rw [Lib.cell_of_heap hbk]; rfl)
  have H1 := Lib.hid (show w.shape? b = some (94, 2) by simp [World.shape?, hbk])
  have H2 := Lib.hid (Lib.frozen_of_heap hbk 0)
  have H3 := Lib.hid hbk1
  clear hbk hbk1
  go_enter Try.func94, Try.ntmps94
  go_wp2_with fail
  refine (bCheck_fresh b w H0.out H1.out H2.out).mono ?_; rintro e w' ⟨rfl, rfl⟩
  go_wp2_with fail
  go_region
  all_goals go_wp2_with fail
  all_goals first
    | (go_end0; exact ⟨rfl, Lib.BuilderAtF.of hU.drew, hb1.drew⟩)
    | (refine (bgrow_fresh B b n (w.setCell ⟨b, 0, none⟩ (.pointer (some ⟨b, 0, none⟩))).drew hB H3.out (by simpa [World.setCell, World.drew, -World.drew_eq] using hBw) hn).mono ?_; rintro e w' ⟨rfl, h1, h2⟩; go_wp2_with fail; go_end0; exact ⟨rfl, Lib.BuilderAtF.of h1, hb1.drew.trans h2⟩)
end Go.Proofs.Ytbndmmfpoljeaaa

namespace Go.Proofs.Ytbndmmfpoljeaaa
open Go.ChangeShapes Go.WideShapes Go.ChangeAt Go.RowKit
set_option linter.unusedVariables false
set_option maxRecDepth 100000
/-- A byte that has a backslash ahead of it. -/
def escB (c : UInt8) : Bool := escN c.toNat
def escL (l : List UInt8) : List UInt8 := l.flatMap fun c => if escB c then [92, c] else [c]
/-- A text in quotes. -/
def quoteL (l : List UInt8) : List UInt8 := 34 :: (escL l ++ [34])
theorem escL_append (a b : List UInt8) : escL (a ++ b) = escL a ++ escL b := by simp [escL]
theorem escL_one (c : UInt8) : escL [c] = if escB c then [92, c] else [c] := by simp [escL]
theorem escL_length_le (l : List UInt8) : (escL l).length ≤ 2 * l.length := by
  induction l with
  | nil => simp [escL]
  | cons c l ih =>
    have e : escL (c :: l) = escL [c] ++ escL l := by rw [← escL_append]; rfl
    rw [e, escL_one, List.length_append, List.length_cons]
    split <;> simp <;> omega
theorem quoteL_length_le (l : List UInt8) : (quoteL l).length ≤ 2 * l.length + 2 := by
  have := escL_length_le l; simp [quoteL]; omega
theorem take_snoc_b (s : ByteArray) (k : Nat) (h : k < s.size) : s.data.toList.take (k + 1) = s.data.toList.take k ++ [s[k]] := by
  rw [List.take_succ_eq_append_getElem (by simpa using h)]; rfl
theorem bByteU (B b : Nat) (l : List UInt8) (c : UInt8) (v : Int) (hv : v = c.toNat) (w : World) (h : Bld w B b (Lib.byteCells l)) (hlen : l.length + 1 ≤ 140737488355328) (hBw : B ≤ w.heap.size) :
    Calls Try.prog 67 #[.pointer (some ⟨b, 0, none⟩), .int .u8 v] w fun e w' => e = .returned .nilIface ∧ BldAt w' B b (Lib.byteCells (l ++ [c])) ∧ BldKept B b w w' := by
  subst hv
  have e : Lib.byteCells (l ++ [c]) = Lib.byteCells l ++ [.int .u8 c.toNat] := by rw [Lib.byteCells_append]; rfl
  rw [e]
  exact bByte B b _ _ w h (by rw [Lib.byteCells_length]; exact hlen) hBw
theorem bStringU (B b : Nat) (l : List UInt8) (s : ByteArray) (w : World) (h : Bld w B b (Lib.byteCells l)) (hlen : l.length + s.size ≤ 140737488355328) (hBw : B ≤ w.heap.size) :
    Calls Try.prog 68 #[.pointer (some ⟨b, 0, none⟩), .string s] w fun e w' => e = .returned (.tuple #[.int .i64 s.size, .nilIface]) ∧ BldAt w' B b (Lib.byteCells (l ++ s.data.toList)) ∧ BldKept B b w w' := by
  have e : Lib.byteCells (l ++ s.data.toList) = Lib.byteCells l ++ Lib.strCells s := by rw [Lib.byteCells_append, Lib.strCells_eq]
  rw [e]
  exact bString B b _ s w h (by rw [Lib.byteCells_length]; exact hlen) hBw
theorem bTold (B b : Nat) (l : List UInt8) (w : World) (h : BldAt w B b (Lib.byteCells l)) (hBw : B ≤ w.heap.size) :
    Calls Try.prog 70 #[.pointer (some ⟨b, 0, none⟩)] w fun e w' => e = .returned (.string ⟨l.toArray⟩) ∧ Below B w w' :=
  (Try.Builder_String_any_k B b l w h.is hBw).mono fun _ _ h => ⟨h.1, h.2.2.1⟩
theorem bld_new (w : World) : Bld (w.alloc (.cells #[.pointer none, .slice none 0 0] 94)) w.heap.size w.heap.size (Lib.byteCells []) := Lib.IsBuilderF.of (Lib.fresh_isBuilder _ _ w)
theorem BldAt.below {w w' : World} {B b : Nat} {l : List Value} (h : BldAt w B b l) (hb : Below w.heap.size w w') : BldAt w' B b l := by
  obtain ⟨hB, v, hbk, hown, hne⟩ := h
  have hlt : b < w.heap.size := by
    rcases Nat.lt_or_ge b w.heap.size with h' | h'
    · exact h'
    · simp [Array.getElem?_eq_none h'] at hbk
  refine ⟨hB, v, (hb.block b hlt).trans hbk, ⟨hown.1, ?_⟩, hne⟩
  rcases hown.2 with h | ⟨g, cap, cur, fz, hv, hg, hh, rest⟩
  · exact .inl h
  · refine .inr ⟨g, cap, cur, fz, hv, hg, ?_, rest⟩
    have : g < w.heap.size := (Array.getElem?_eq_some_iff.1 hh).1
    exact (hb.block g this).trans hh
set_option maxHeartbeats 2000000 in
theorem quote_any (s : ByteArray) (w : World) (hs : s.size ≤ 35184372088832) :
    Calls Try.prog 85 #[.string s] w fun e w' => e = .returned (.string ⟨(quoteL s.data.toList).toArray⟩) ∧ Below w.heap.size w w' := by
  have HSZ := Lib.hid (show (s.size : Int) + 2 = ((s.size + 2 : Nat) : Int) by omega)
  go_enter Try.func85, Try.ntmps85
  go_wp2_with fail
  rw [HSZ.out]
  clear HSZ
  refine (bGrow w.heap.size w.heap.size (s.size + 2) _ (Nat.le_refl _) (heap_alloc_new w _) (by simp) (by omega)).mono ?_
  rintro e w1 ⟨rfl, hbl, hb1⟩
  have hs1 := hb1.size
  have HBL := Lib.hid hbl
  have HB := Lib.hid (((Below.refl w.heap.size w).alloc (Nat.le_refl _) _).trans hb1)
  clear hbl hb1
  have hs0 : w.heap.size + 1 ≤ w1.heap.size := by have h := hs1; simp at h; omega
  clear hs1
  go_wp2_with fail
  refine (bByteU w.heap.size w.heap.size [] 34 34 rfl _ HBL.out.is (by simp) (by omega)).mono ?_
  rintro e w2 ⟨rfl, hbl, hk⟩
  have hs2 := hk.1.size
  have HBL2 := Lib.hid hbl
  have HB2 := Lib.hid (HB.out.trans hk.1)
  clear hbl hk HBL HB
  go_wp2_with fail
  go_loopg [12] s.size (fun g x12 wr => ∃ k : Nat, k + g = s.size ∧ x12 = .int .i64 k ∧ BldAt wr w.heap.size w.heap.size (Lib.byteCells (34 :: escL (s.data.toList.take k))) ∧ Below w.heap.size w wr)
  case atStart => exact ⟨0, by omega, rfl, HBL2.out, HB2.out⟩
  case round =>
    obtain ⟨k, hkg, rfl, hbl, hbel⟩ := hrel
    have HBL := Lib.hid hbl; have HB := Lib.hid hbel
    have hws := hbel.size
    have hel := escL_length_le (s.data.toList.take k)
    have hll : (s.data.toList.take k).length ≤ k := List.length_take_le _ _
    clear hbl hbel HBL2 HB2
    cases gk with
    | zero =>
      obtain rfl : k = s.size := by omega
      have HQ := Lib.hid (show 34 :: escL (s.data.toList.take s.size) ++ [34] = quoteL s.data.toList by rw [List.take_of_length_le (by simp)]; rfl)
      go_wp2_with fail
      refine (bByteU w.heap.size w.heap.size _ 34 34 rfl _ HBL.out.is (by rw [List.length_cons]; omega) hws).mono ?_
      rintro e w2 ⟨rfl, hbl, hk⟩
      rw [HQ.out] at hbl
      have hs2 := hk.1.size
      have HBL3 := Lib.hid hbl; have HB3 := Lib.hid (HB.out.trans hk.1)
      clear hbl hk HBL HB HQ
      go_wp2_with fail
      refine (bTold w.heap.size w.heap.size _ _ HBL3.out (by omega)).mono ?_
      rintro e w3 ⟨rfl, hb3⟩
      have HB4 := Lib.hid (HB3.out.trans hb3)
      clear hb3
      go_wp2_with fail
      go_ret
      exact ⟨rfl, HB4.out⟩
    | succ g =>
      have hlt : k < s.size := by omega
      have HT := Lib.hid (take_snoc_b s k hlt)
      have HE := Lib.hid (escaped_any (s[k].toNat) wr)
      have HN : Hid (34 :: escL (s.data.toList.take (k + 1)) = (34 :: escL (s.data.toList.take k)) ++ (if escB s[k] then [92, s[k]] else [s[k]])) := Lib.hid (by rw [HT.out, escL_append, escL_one]; rfl)
      have HD : Hid (escB s[k] = escN s[k].toNat) := Lib.hid rfl
      clear HT
      obtain ⟨new, hnew⟩ : ∃ new, 34 :: escL (s.data.toList.take (k + 1)) = new := ⟨_, rfl⟩
      rw [hnew] at HN
      have HNEW := Lib.hid hnew
      clear hnew
      obtain ⟨old, hold⟩ : ∃ old, 34 :: escL (s.data.toList.take k) = old := ⟨_, rfl⟩
      have hol : old.length ≤ 2 * k + 1 := by rw [← hold, List.length_cons]; omega
      rw [hold] at HBL HN
      clear hold hel hll
      cases hesc : escN s[k].toNat
      · rw [hesc] at HE HD
        rw [HD.out] at HN
        clear hesc HD
        go_wp2_with fail
        refine HE.out.mono ?_; rintro e w' ⟨rfl, rfl⟩
        go_wp2_with fail
        refine (bByteU w.heap.size w.heap.size _ s[k] _ rfl _ HBL.out.is (by omega) hws).mono ?_
        rintro e w2 ⟨rfl, hbl, hk⟩
        have HBL3 : Hid (BldAt w2 w.heap.size w.heap.size (Lib.byteCells new)) := Lib.hid (by rw [HN.out]; exact hbl)
        have HB3 := Lib.hid (HB.out.trans hk.1)
        clear hbl hk HBL HB HN HE
        go_wp2_with fail
        go_roundg g
        case measure => omega
        case rel => exact ⟨k + 1, by omega, by go_num, by rw [HNEW.out]; exact HBL3.out, HB3.out⟩
      · rw [hesc] at HE HD
        rw [HD.out] at HN
        clear hesc HD
        go_wp2_with fail
        refine HE.out.mono ?_; rintro e w' ⟨rfl, rfl⟩
        go_wp2_with fail
        refine (bByteU w.heap.size w.heap.size _ 92 92 rfl _ HBL.out.is (by omega) hws).mono ?_
        rintro e w2 ⟨rfl, hbl, hk⟩
        have hs2 := hk.1.size
        have HBL3 := Lib.hid hbl
        have HB3 := Lib.hid (HB.out.trans hk.1)
        clear hbl hk HBL HB HE
        go_wp2_with fail
        refine (bByteU w.heap.size w.heap.size _ s[k] _ rfl _ HBL3.out.is (by rw [List.length_append]; simp; omega) (by omega)).mono ?_
        rintro e w3 ⟨rfl, hbl, hk⟩
        have HBL4 : Hid (BldAt w3 w.heap.size w.heap.size (Lib.byteCells new)) := Lib.hid (by rw [HN.out]; simpa using hbl)
        have HB4 := Lib.hid (HB3.out.trans hk.1)
        clear hbl hk HBL3 HB3 HN
        go_wp2_with fail
        go_roundg g
        case measure => omega
        case rel => exact ⟨k + 1, by omega, by go_num, by rw [HNEW.out]; exact HBL4.out, HB4.out⟩
theorem lquote_any (s : ByteArray) (w : World) (hs : s.size ≤ 35184372088832) :
    Calls Try.prog 69 #[.string s] w fun e w' => e = .returned (.string ⟨(quoteL s.data.toList).toArray⟩) ∧ Below w.heap.size w w' := by
  go_enter Try.func69, Try.ntmps69
  go_wp2_with fail
  refine (quote_any s w hs).mono ?_
  rintro e w1 ⟨rfl, hb⟩
  have HB := Lib.hid hb; clear hb
  go_wp2_with fail
  go_ret
  exact ⟨rfl, HB.out⟩
end Go.Proofs.Ytbndmmfpoljeaaa

namespace Go.Proofs.Ytbndmmfpoljeaaa
open Go.ChangeShapes Go.WideShapes Go.ChangeAt Go.RowKit
set_option linter.unusedVariables false
set_option maxRecDepth 100000
/-- One label's text. -/
def lblL (x : ByteArray × ByteArray) : List UInt8 := x.1.data.toList ++ 61 :: quoteL x.2.data.toList
/-- Labels' texts, commas between. -/
def joinL : List (ByteArray × ByteArray) → List UInt8
  | [] => []
  | x :: l => lblL x ++ (if l.isEmpty then [] else 44 :: joinL l)
theorem joinL_snoc (l : List (ByteArray × ByteArray)) (x : ByteArray × ByteArray) : joinL (l ++ [x]) = joinL l ++ (if l.isEmpty then lblL x else 44 :: lblL x) := by
  induction l with
  | nil => simp [joinL]
  | cons y l ih =>
    rw [List.cons_append, joinL, joinL, ih]
    cases l <;> simp [joinL]
theorem lblL_length_le (x : ByteArray × ByteArray) (h1 : x.1.size ≤ 24) (h2 : x.2.size ≤ 24) : (lblL x).length ≤ 75 := by
  have := quoteL_length_le x.2.data.toList
  have e1 : x.1.data.toList.length = x.1.size := by simp
  have e2 : x.2.data.toList.length = x.2.size := by simp
  rw [lblL, List.length_append, List.length_cons]; omega
theorem joinL_length_le (l : List (ByteArray × ByteArray)) (h : ∀ x ∈ l, x.1.size ≤ 24 ∧ x.2.size ≤ 24) : (joinL l).length ≤ 76 * l.length := by
  induction l with
  | nil => simp [joinL]
  | cons x l ih =>
    have h1 := lblL_length_le x (h x List.mem_cons_self).1 (h x List.mem_cons_self).2
    have h2 := ih fun y hy => h y (List.mem_cons_of_mem _ hy)
    rw [joinL, List.length_append, List.length_cons]
    split
    · simp; omega
    · rw [List.length_cons]; omega
/-- A right set's text; none, if it isn't right. -/
def printL (l : List (ByteArray × ByteArray)) : List UInt8 := if rightS l then 123 :: (joinL l ++ [125]) else []
theorem wordF_size {s : ByteArray} (h : wordF s = true) : 1 ≤ s.size ∧ s.size ≤ 24 := by simp [wordF] at h; omega
theorem lblOk_size {x : ByteArray × ByteArray} (h : lblOk x = true) : x.1.size ≤ 24 ∧ x.2.size ≤ 24 ∧ 1 ≤ x.1.size ∧ 1 ≤ x.2.size := by
  simp [lblOk] at h
  have := wordF_size h.1.1
  omega
theorem rightK_at {l : List (ByteArray × ByteArray)} : ∀ {n : Nat}, rightK l n = true → ∀ k, k < n → lblOk (lblAt l k) = true ∧ riseAt l k = true
  | 0, _, k, hk => absurd hk (by omega)
  | n + 1, h, k, hk => by
    simp only [rightK, Bool.and_eq_true] at h
    rcases Nat.lt_or_ge k n with h' | h'
    · exact rightK_at (n := n) (by first | exact h.1 | exact h.1.1) k h'
    · obtain rfl : k = n := by omega
      exact ⟨by first | exact h.2.1 | exact h.1.2, by first | exact h.2.2 | exact h.2⟩
theorem rightS_len {l : List (ByteArray × ByteArray)} (h : rightS l = true) : l.length ≤ 6 := by simp [rightS] at h; exact h.1
theorem rightS_at {l : List (ByteArray × ByteArray)} (h : rightS l = true) {k : Nat} (hk : k < l.length) : lblOk l[k] = true ∧ riseAt l k = true := by
  have h2 : rightK l l.length = true := by simp [rightS] at h; exact h.2
  have := rightK_at h2 k hk
  rwa [lblAt_get hk] at this
theorem rightS_sizes {l : List (ByteArray × ByteArray)} (h : rightS l = true) : ∀ x ∈ l, x.1.size ≤ 24 ∧ x.2.size ≤ 24 := by
  intro x hx
  obtain ⟨k, hk, rfl⟩ := List.getElem_of_mem hx
  have := lblOk_size (rightS_at h hk).1
  exact ⟨this.1, this.2.1⟩
theorem BldKept.blk {B b : Nat} {w w' : World} (h : BldKept B b w w') {x : Nat} {t : TypeId} {cs : List Value} (hx : Blk w x t cs) (hb : x ≠ b) (ht : t ≠ 5) : Blk w' x t cs :=
  h.2 x _ hx (fun e => hb (by injection e)) (by intro c fz e; injection e with _ e _; exact ht e)
theorem take_empty {l : List (ByteArray × ByteArray)} {k : Nat} (h : k < l.length) : (l.take k).isEmpty = decide (k = 0) := by
  cases k with
  | zero => simp
  | succ k => cases l with
    | nil => simp at h
    | cons x l => simp
/-- Within Print's round: the builder, the box of the label, all that was there. -/
structure PrintAt (w0 : World) (bb xb : Nat) (a b : ByteArray) (l : List UInt8) (w : World) : Prop where
  bld : BldAt w bb bb (Lib.byteCells l)
  box : Blk w xb 53 [.string a, .string b]
  bel : Below w0.heap.size w0 w
  big : bb + 1 ≤ w.heap.size
  ne : xb ≠ bb
theorem PrintAt.kept {w0 w w' : World} {bb xb : Nat} {a b : ByteArray} {l l' : List UInt8} (h : PrintAt w0 bb xb a b l w) (h0 : w0.heap.size ≤ bb) (hb : BldAt w' bb bb (Lib.byteCells l')) (hk : BldKept bb bb w w') : PrintAt w0 bb xb a b l' w' :=
  ⟨hb, hk.blk h.box h.ne (by decide), h.bel.trans (hk.1.mono h0), Nat.le_trans h.big hk.1.size, h.ne⟩
theorem PrintAt.below {w0 w w' : World} {bb xb : Nat} {a b : ByteArray} {l : List UInt8} (h : PrintAt w0 bb xb a b l w) (hb : Below w.heap.size w w') : PrintAt w0 bb xb a b l w' :=
  ⟨h.bld.below hb, h.box.below hb h.box.lt, h.bel.trans (hb.mono h.bel.size), Nat.le_trans h.big hb.size, h.ne⟩
theorem PrintAt.cells {w0 w : World} {bb xb : Nat} {a b : ByteArray} {l : List UInt8} (h : PrintAt w0 bb xb a b l w) : w.cell? ⟨xb, 0, none⟩ = some (.string a) ∧ w.cell? ⟨xb, 1, none⟩ = some (.string b) := by
  have e0 := h.box.cell 0
  have e1 := h.box.cell 1
  simp only [List.getElem?_cons_zero, List.getElem?_cons_succ] at e0 e1
  exact ⟨e0, e1⟩
theorem BldAt.alloc {w : World} {B b : Nat} {l : List Value} (h : BldAt w B b l) (o : Obj) : BldAt (w.alloc o) B b l := Lib.BuilderAtF.alloc h o
set_option maxHeartbeats 4000000 in
theorem print_any (A : Option Addr) (n c : Nat) (l : List (ByteArray × ByteArray)) (B : Nat) (w : World) (h : Sees w B 2 A n (lbls l)) (hB : B ≤ w.heap.size) (hn : n ≤ 9223372036854775807) :
    Calls Try.prog 35 #[.slice A n c] w fun e w' => e = .returned (.string ⟨(printL l).toArray⟩) ∧ Below w.heap.size w w' := by
  have H := Lib.hid h
  have HL := Lib.hid h.lbl_len
  have HR := Lib.hid (rightSet_any A n c l B w h hB hn)
  clear h
  have HP : Hid (printL l = if rightS l then 123 :: (joinL l ++ [125]) else []) := Lib.hid rfl
  have HSZ := Lib.hid (@rightS_sizes l)
  have HLE := Lib.hid (@rightS_len l)
  obtain ⟨pr, hpr⟩ : ∃ pr, printL l = pr := ⟨_, rfl⟩
  rw [hpr] at HP ⊢
  obtain ⟨r, hr⟩ : ∃ r, rightS l = r := ⟨_, rfl⟩
  rw [hr] at HP HR HSZ HLE
  clear hpr hr
  cases r with
  | false =>
    have HQ : Hid (pr = []) := Lib.hid (by rw [HP.out]; rfl)
    clear HP
    go_enter Try.func35, Try.ntmps35
    go_wp2_with fail
    refine HR.out.mono ?_; rintro e w1 ⟨rfl, hb⟩
    have HB := Lib.hid hb; clear hb
    go_wp2_with fail
    go_ret
    exact ⟨by rw [HQ.out]; rfl, HB.out⟩
  | true =>
    have HQ : Hid (pr = 123 :: joinL l ++ [125]) := Lib.hid (by rw [HP.out]; rfl)
    have hs := HSZ.out rfl
    have hl6 := HLE.out rfl
    have HS := Lib.hid hs
    have hn6 : n ≤ 6 := by have := HL.out; omega
    clear HP HSZ HLE hs
    go_enter Try.func35, Try.ntmps35
    go_wp2_with fail
    refine HR.out.mono ?_; rintro e w1 ⟨rfl, hb⟩
    have hs1 := hb.size
    have HN := Lib.hid (bld_new w1)
    have HB := Lib.hid (hb.alloc hs1 (.cells #[.pointer none, .slice none 0 0] 94))
    clear hb HR
    go_wp2_with fail
    refine (bByteU w1.heap.size w1.heap.size [] 123 123 rfl _ HN.out (by simp) (by simp)).mono ?_
    rintro e w2 ⟨rfl, hbl, hk⟩
    have hs2 : w1.heap.size + 1 ≤ w2.heap.size := by have h := hk.1.size; simp at h; omega
    have HBL := Lib.hid hbl
    have HB2 := Lib.hid (HB.out.trans (hk.1.mono hs1))
    clear hbl hk HN HB
    obtain ⟨bb, hbb⟩ : ∃ bb, w1.heap.size = bb := ⟨_, rfl⟩
    rw [hbb] at HBL hs2 hs1
    rw [show (⟨w1.heap.size, 0, none⟩ : Addr) = ⟨bb, 0, none⟩ by rw [hbb]]
    clear hbb
    go_wp2_with fail
    go_loopg [12] n (fun g x12 wr => ∃ k : Nat, k + g = n ∧ x12 = .int .i64 k ∧ BldAt wr bb bb (Lib.byteCells (123 :: joinL (l.take k))) ∧ Below w.heap.size w wr ∧ bb + 1 ≤ wr.heap.size)
    case atStart => exact ⟨0, by omega, rfl, HBL.out, HB2.out, hs2⟩
    case round =>
      obtain ⟨k, hkg, rfl, hbl, hbel, hbig⟩ := hrel
      have HBL := Lib.hid hbl; have HB := Lib.hid hbel
      have hws := hbel.size
      have hjl : (123 :: joinL (l.take k)).length ≤ 1 + 76 * k := by
        have h1 := joinL_length_le (l.take k) (fun x hx => HS.out x (List.mem_of_mem_take hx))
        have h2 : (l.take k).length ≤ k := List.length_take_le _ _
        have h3 : 76 * (l.take k).length ≤ 76 * k := Nat.mul_le_mul_left _ h2
        rw [List.length_cons]; omega
      clear hbl hbel HB2
      cases gk with
      | zero =>
        obtain rfl : k = n := by omega
        have HQ2 := Lib.hid (show 123 :: joinL (l.take k) ++ [125] = pr by rw [HQ.out, List.take_of_length_le (by rw [HL.out]; exact Nat.le_refl _)])
        go_wp2_with fail
        refine (bByteU bb bb _ 125 125 rfl _ HBL.out.is (by omega) (by omega)).mono ?_
        rintro e w3 ⟨rfl, hbl, hk⟩
        rw [HQ2.out] at hbl
        have hs3 := hk.1.size
        have HBL3 := Lib.hid hbl; have HB3 := Lib.hid (HB.out.trans (hk.1.mono hs1))
        clear hbl hk HBL HB HQ2
        go_wp2_with fail
        refine (bTold bb bb _ _ HBL3.out (by omega)).mono ?_
        rintro e w4 ⟨rfl, hb4⟩
        have HB4 := Lib.hid (HB3.out.trans (hb4.mono hs1))
        clear hb4
        go_wp2_with fail
        go_ret
        exact ⟨rfl, HB4.out⟩
      | succ g =>
        have hlt : k < n := by omega
        obtain ⟨ad, hkl, rfl, c0, c1⟩ := (H.out.below (HB.out.mono hB)).lbl hlt
        have hal := World.block_lt_of_cell? wr _ c0
        have hz := HS.out l[k] (List.getElem_mem _)
        have HNXT := Lib.hid (show joinL (l.take (k + 1)) = joinL (l.take k) ++ (if (l.take k).isEmpty then lblL l[k] else 44 :: lblL l[k]) by rw [List.take_succ_eq_append_getElem hkl, joinL_snoc])
        have HEM := Lib.hid (take_empty hkl)
        generalize l[k] = p at *
        obtain ⟨a, b⟩ := p
        simp only at c0 c1 hz
        obtain ⟨hz1, hz2⟩ := hz
        obtain ⟨xb, hxb⟩ : ∃ xb, wr.heap.size = xb := ⟨_, rfl⟩
        have HPA : Hid (PrintAt w bb xb a b (123 :: joinL (l.take k)) (wr.alloc (.cells #[.string a, .string b] 53))) := Lib.hid ⟨HBL.out.alloc _, by rw [← hxb]; exact Blk.mk (heap_alloc_new wr _), HB.out.alloc hws _, by simp; omega, by omega⟩
        have HQU := Lib.hid (fun W => lquote_any b W (by omega))
        have hql : (quoteL b.data.toList).length ≤ 50 := by
          have h1 := quoteL_length_le b.data.toList
          have h2 : b.data.toList.length = b.size := by simp
          omega
        clear HBL HB
        obtain ⟨old, hold⟩ : ∃ old, 123 :: joinL (l.take k) = old := ⟨_, rfl⟩
        rw [hold] at HPA hjl
        have HOLD := Lib.hid hold
        clear hold
        rcases Nat.eq_zero_or_pos k with hk0 | hk0
        · have z1 : ¬ (0 : Int) < k := by omega
          have HN2 : Hid (123 :: joinL (l.take (k + 1)) = old ++ a.data.toList ++ [61] ++ quoteL b.data.toList) := Lib.hid (by
            rw [HNXT.out, HEM.out, decide_eq_true hk0, if_pos rfl, ← HOLD.out]; simp [lblL])
          clear HNXT HEM HOLD hk0
          go_wp2_with fail
          have hs4 := HPA.out.big
          refine (bStringU bb bb _ a _ HPA.out.bld.is (by first | omega | (simp; omega)) (by omega)).mono ?_
          rintro e w4 ⟨rfl, hbl, hk⟩
          have HPA4 := Lib.hid (HPA.out.kept hs1 hbl hk)
          obtain ⟨e0, e1⟩ := HPA4.out.cells
          have hs4 := HPA4.out.big
          clear hbl hk HPA
          go_wp2_with fail
          refine (bByteU bb bb _ 61 61 rfl _ HPA4.out.bld.is (by first | omega | (simp; omega)) (by omega)).mono ?_
          rintro e w5 ⟨rfl, hbl, hk⟩
          have HPA5 := Lib.hid (HPA4.out.kept hs1 hbl hk)
          clear e0 e1
          obtain ⟨e0, e1⟩ := HPA5.out.cells
          have hs5 := HPA5.out.big
          clear hbl hk HPA4
          go_wp2_with fail
          refine (HQU.out _).mono ?_
          rintro e w6 ⟨rfl, hb6⟩
          have HPA6 := Lib.hid (HPA5.out.below hb6)
          have hqs : (⟨(quoteL b.data.toList).toArray⟩ : ByteArray).size ≤ 50 := by show (quoteL b.data.toList).toArray.size ≤ 50; simpa using hql
          have hs6 := HPA6.out.big
          clear hb6 HPA5 e0 e1
          go_wp2_with fail
          refine (bStringU bb bb _ ⟨(quoteL b.data.toList).toArray⟩ _ HPA6.out.bld.is (by first | omega | (simp; omega)) (by omega)).mono ?_
          rintro e w7 ⟨rfl, hbl, hk⟩
          have HPA7 := Lib.hid (HPA6.out.kept hs1 hbl hk)
          clear hbl hk HPA6
          go_wp2_with fail
          go_roundg g
          case measure => omega
          case rel => exact ⟨k + 1, by omega, by go_num, by rw [HN2.out]; exact HPA7.out.bld, HPA7.out.bel, HPA7.out.big⟩
        · have z1 : (0 : Int) < k := by omega
          have HN2 : Hid (123 :: joinL (l.take (k + 1)) = old ++ [44] ++ a.data.toList ++ [61] ++ quoteL b.data.toList) := Lib.hid (by
            rw [HNXT.out, HEM.out, decide_eq_false (by omega), if_neg (by simp), ← HOLD.out]; simp [lblL])
          clear HNXT HEM HOLD hk0
          go_wp2_with fail
          have hs3 := HPA.out.big
          refine (bByteU bb bb _ 44 44 rfl _ HPA.out.bld.is (by omega) (by omega)).mono ?_
          rintro e w3 ⟨rfl, hbl, hk⟩
          have HPA3 := Lib.hid (HPA.out.kept hs1 hbl hk)
          obtain ⟨e0, e1⟩ := HPA3.out.cells
          clear hbl hk HPA
          have HPA := HPA3
          clear HPA3
          go_wp2_with fail
          have hs4 := HPA.out.big
          refine (bStringU bb bb _ a _ HPA.out.bld.is (by first | omega | (simp; omega)) (by omega)).mono ?_
          rintro e w4 ⟨rfl, hbl, hk⟩
          have HPA4 := Lib.hid (HPA.out.kept hs1 hbl hk)
          obtain ⟨e0, e1⟩ := HPA4.out.cells
          have hs4 := HPA4.out.big
          clear hbl hk HPA
          go_wp2_with fail
          refine (bByteU bb bb _ 61 61 rfl _ HPA4.out.bld.is (by first | omega | (simp; omega)) (by omega)).mono ?_
          rintro e w5 ⟨rfl, hbl, hk⟩
          have HPA5 := Lib.hid (HPA4.out.kept hs1 hbl hk)
          clear e0 e1
          obtain ⟨e0, e1⟩ := HPA5.out.cells
          have hs5 := HPA5.out.big
          clear hbl hk HPA4
          go_wp2_with fail
          refine (HQU.out _).mono ?_
          rintro e w6 ⟨rfl, hb6⟩
          have HPA6 := Lib.hid (HPA5.out.below hb6)
          have hqs : (⟨(quoteL b.data.toList).toArray⟩ : ByteArray).size ≤ 50 := by show (quoteL b.data.toList).toArray.size ≤ 50; simpa using hql
          have hs6 := HPA6.out.big
          clear hb6 HPA5 e0 e1
          go_wp2_with fail
          refine (bStringU bb bb _ ⟨(quoteL b.data.toList).toArray⟩ _ HPA6.out.bld.is (by first | omega | (simp; omega)) (by omega)).mono ?_
          rintro e w7 ⟨rfl, hbl, hk⟩
          have HPA7 := Lib.hid (HPA6.out.kept hs1 hbl hk)
          clear hbl hk HPA6
          go_wp2_with fail
          go_roundg g
          case measure => omega
          case rel => exact ⟨k + 1, by omega, by go_num, by rw [HN2.out]; exact HPA7.out.bld, HPA7.out.bel, HPA7.out.big⟩
end Go.Proofs.Ytbndmmfpoljeaaa

namespace Go.Proofs.Ytbndmmfpoljeaaa
set_option linter.unusedVariables false
/-- Cut around the first c. -/
def cutL (c : UInt8) : List UInt8 → Option (List UInt8 × List UInt8)
  | [] => none
  | x :: r => if x = c then some ([], r) else (cutL c r).map fun p => (x :: p.1, p.2)
theorem cutL_some {c : UInt8} : ∀ {s a b : List UInt8}, cutL c s = some (a, b) → s = a ++ c :: b
  | [], a, b, h => by simp [cutL] at h
  | x :: r, a, b, h => by
    unfold cutL at h
    split at h
    · rename_i e; subst e; simp at h; obtain ⟨rfl, rfl⟩ := h; rfl
    · cases hr : cutL c r with
      | none => rw [hr] at h; simp at h
      | some p =>
        rw [hr] at h; simp at h; obtain ⟨rfl, rfl⟩ := h
        have := cutL_some hr
        rw [this]; rfl
theorem cutL_mk {c : UInt8} : ∀ {a b : List UInt8}, (∀ x ∈ a, x ≠ c) → cutL c (a ++ c :: b) = some (a, b)
  | [], b, h => by simp [cutL]
  | x :: a, b, h => by
    rw [List.cons_append, cutL, if_neg (h x List.mem_cons_self), cutL_mk fun y hy => h y (List.mem_cons_of_mem _ hy)]; rfl
/-- What is read behind the first quote: the text, and what is left behind the second one. -/
def unq : List UInt8 → List UInt8 → Option (List UInt8 × List UInt8)
  | [], _ => none
  | c :: r, acc => if 24 < acc.length then none else if c = 34 then some (acc, r) else if c = 92 then
      (match r with
        | [] => none
        | d :: r' => if escB d then unq r' (acc ++ [d]) else none)
      else unq r (acc ++ [c])
termination_by l => l.length
decreasing_by all_goals (simp_wf; try omega)
theorem unq_some : ∀ (n : Nat) {r acc v r' : List UInt8}, r.length ≤ n → unq r acc = some (v, r') → ∃ u, v = acc ++ u ∧ r = escL u ++ 34 :: r'
  | 0, r, acc, v, r', hn, h => by
    have : r = [] := List.eq_nil_of_length_eq_zero (by omega)
    subst this; unfold unq at h; simp at h
  | n + 1, [], acc, v, r', hn, h => by unfold unq at h; simp at h
  | n + 1, c :: r, acc, v, r', hn, h => by
    rw [List.length_cons] at hn
    unfold unq at h
    split at h
    · cases h
    split at h
    · rename_i e; subst e; simp at h; obtain ⟨rfl, rfl⟩ := h; exact ⟨[], by simp, by simp [escL]⟩
    split at h
    · rename_i _ _ e; subst e
      cases r with
      | nil => simp at h
      | cons d r2 =>
        simp only at h
        split at h
        · rename_i hd
          obtain ⟨u, hu, hr⟩ := unq_some n (by rw [List.length_cons] at hn; omega) h
          refine ⟨d :: u, by rw [hu]; simp, ?_⟩
          have e2 : escL (d :: u) = escL [d] ++ escL u := by rw [← escL_append]; rfl
          rw [e2, escL_one, hd, hr]; simp
        · cases h
    · rename_i h34 h92
      obtain ⟨u, hu, hr⟩ := unq_some n (by omega) h
      refine ⟨c :: u, by rw [hu]; simp, ?_⟩
      have e2 : escL (c :: u) = escL [c] ++ escL u := by rw [← escL_append]; rfl
      have hc : escB c = false := by
        simp only [escB, escN, Bool.or_eq_false_iff, decide_eq_false_iff_not]
        exact ⟨fun e => h34 (UInt8.toNat_inj.1 e), fun e => h92 (UInt8.toNat_inj.1 e)⟩
      rw [e2, escL_one, hc, hr]; simp
theorem unq_mk : ∀ (u acc r' : List UInt8), acc.length + u.length ≤ 24 → unq (escL u ++ 34 :: r') acc = some (acc ++ u, r')
  | [], acc, r', h => by
    unfold unq
    simp only [escL, List.flatMap_nil, List.nil_append]
    rw [if_neg (by simp at h; omega)]
    simp
  | c :: u, acc, r', h => by
    rw [List.length_cons] at h
    have e2 : escL (c :: u) = escL [c] ++ escL u := by rw [← escL_append]; rfl
    have ih := unq_mk u (acc ++ [c]) r' (by rw [List.length_append, List.length_singleton]; omega)
    rw [e2, escL_one]
    cases hc : escB c with
    | true =>
      simp only [if_true, List.cons_append, List.nil_append]
      unfold unq
      rw [if_neg (by omega), if_neg (by decide), if_pos rfl]
      simp only
      rw [if_pos hc, ih]; simp
    | false =>
      simp only [Bool.false_eq_true, if_false, List.cons_append, List.nil_append]
      have hc' := hc
      simp only [escB, escN, Bool.or_eq_false_iff, decide_eq_false_iff_not] at hc'
      unfold unq
      rw [if_neg (by omega), if_neg (fun e => hc'.1 (by rw [e]; rfl)), if_neg (fun e => hc'.2 (by rw [e]; rfl)), ih]; simp
/-- A text in quotes, read. -/
def unqText : List UInt8 → Option (List UInt8 × List UInt8)
  | [] => none
  | c :: r => if c = 34 then unq r [] else none
theorem unqText_some {s v r : List UInt8} (h : unqText s = some (v, r)) : s = quoteL v ++ r := by
  cases s with
  | nil => cases h
  | cons c s =>
    simp only [unqText] at h
    split at h
    · rename_i e; subst e
      obtain ⟨u, hu, hr⟩ := unq_some s.length (Nat.le_refl _) h
      rw [List.nil_append] at hu; subst hu
      rw [hr]; simp [quoteL]
    · cases h
theorem unqText_mk {v r : List UInt8} (h : v.length ≤ 24) : unqText (quoteL v ++ r) = some (v, r) := by
  have := unq_mk v [] r (by simpa using h)
  simp only [quoteL, List.cons_append, List.append_assoc, List.nil_append, unqText, if_true] at this ⊢
  exact this
/-- One label, read. -/
def labelF (s : List UInt8) : Option ((ByteArray × ByteArray) × List UInt8) :=
  match cutL 61 s with
  | none => none
  | some (n, r) => if wordF ⟨n.toArray⟩ then
      (match unqText r with
        | none => none
        | some (v, r') => some ((⟨n.toArray⟩, ⟨v.toArray⟩), r'))
      else none
theorem labelF_some {s r : List UInt8} {x : ByteArray × ByteArray} (h : labelF s = some (x, r)) : s = lblL x ++ r := by
  unfold labelF at h
  split at h
  · cases h
  · rename_i n q hc
    split at h
    · split at h
      · cases h
      · rename_i v q' hu
        simp only [Option.some.injEq, Prod.mk.injEq] at h
        obtain ⟨rfl, rfl⟩ := h
        rw [cutL_some hc, unqText_some hu]
        simp [lblL]
    · cases h
theorem allIn_get {s : ByteArray} : ∀ {n : Nat}, allIn s n = true → ∀ k, k < n → withinN (byteAt s k) = true
  | 0, _, k, hk => by omega
  | n + 1, h, k, hk => by
    simp only [allIn, Bool.and_eq_true] at h
    rcases Nat.lt_or_ge k n with h' | h'
    · exact allIn_get (n := n) (by first | exact h.1 | exact h.2) k h'
    · obtain rfl : k = n := by omega
      first | exact h.2 | exact h.1
theorem word_no_eq {s : ByteArray} (h : wordF s = true) : ∀ x ∈ s.data.toList, x ≠ 61 := by
  intro x hx e
  subst e
  obtain ⟨k, hk, hx⟩ := List.getElem_of_mem hx
  have hall : allIn s s.size = true := by simp [wordF] at h; exact h.2
  have hks : k < s.size := by simpa using hk
  have := allIn_get hall k hks
  rw [byteAt_get hks] at this
  have e : (s[k]'hks) = 61 := by rw [← hx]; rfl
  rw [e] at this
  exact absurd this (by decide)
theorem labelF_mk {x : ByteArray × ByteArray} {r : List UInt8} (h : lblOk x = true) : labelF (lblL x ++ r) = some (x, r) := by
  have hs := lblOk_size h
  have hw : wordF x.1 = true := by simp [lblOk] at h; exact h.1.1
  unfold labelF
  have e : lblL x ++ r = x.1.data.toList ++ 61 :: (quoteL x.2.data.toList ++ r) := by simp [lblL]
  rw [e, cutL_mk (word_no_eq hw)]
  simp only [Array.toArray_toList]
  rw [if_pos hw, unqText_mk (by simp; omega)]
/-- The labels behind the brace. -/
def parseLoop : Nat → List UInt8 → List (ByteArray × ByteArray) → Option (List (ByteArray × ByteArray))
  | 0, _, _ => none
  | f + 1, rest, l => if rest = [125] then some l else
    match (if l.length = 0 then some rest else match rest with | [] => none | c :: r => if c = 44 then some r else none) with
    | none => none
    | some r => match labelF r with
      | none => none
      | some (x, r') => if l.length + 1 ≤ 6 then parseLoop f r' (l ++ [x]) else none
/-- A set, read. -/
def parseF (s : List UInt8) : Option (List (ByteArray × ByteArray)) :=
  match s with
  | [] => none
  | c :: r => if c = 123 then (match parseLoop 8 r [] with | none => none | some l => if rightS l then some l else none) else none
theorem joinL_cons (x : ByteArray × ByteArray) (l : List (ByteArray × ByteArray)) : joinL (x :: l) = lblL x ++ l.flatMap (fun y => 44 :: lblL y) := by
  induction l generalizing x with
  | nil => simp [joinL]
  | cons y l ih => rw [joinL, ih y]; simp
/-- What stands behind labels that were read. -/
def moreL (l m : List (ByteArray × ByteArray)) : List UInt8 := if l.length = 0 then joinL m else m.flatMap fun y => 44 :: lblL y
theorem moreL_nil (l : List (ByteArray × ByteArray)) : moreL l [] = [] := by unfold moreL; split <;> simp [joinL]
theorem moreL_snoc (l m : List (ByteArray × ByteArray)) (x y : ByteArray × ByteArray) : moreL (l ++ [x]) m = m.flatMap fun y => 44 :: lblL y := by unfold moreL; rw [if_neg (by simp)]
theorem parseLoop_some : ∀ (f : Nat) {rest : List UInt8} {l l' : List (ByteArray × ByteArray)}, parseLoop f rest l = some l' → ∃ m, l' = l ++ m ∧ rest = moreL l m ++ [125]
  | 0, rest, l, l', h => by cases h
  | f + 1, rest, l, l', h => by
    unfold parseLoop at h
    split at h
    · rename_i e; subst e; cases h; exact ⟨[], by simp, by rw [moreL_nil]; rfl⟩
    split at h
    · cases h
    rename_i r hr
    split at h
    · cases h
    rename_i x r' hx
    split at h
    · obtain ⟨m, hm, hrest⟩ := parseLoop_some f h
      refine ⟨x :: m, by rw [hm]; simp, ?_⟩
      have hlab := labelF_some hx
      rw [moreL_snoc l m x x] at hrest
      split at hr
      · rename_i h0
        cases hr
        rw [hlab, hrest, moreL, if_pos h0, joinL_cons]; simp
      · rename_i h0
        split at hr
        · cases hr
        · rename_i c r2
          split at hr
          · rename_i e; cases hr; subst e
            rw [hlab, hrest, moreL, if_neg h0]; simp
          · cases hr
    · cases h
theorem parseF_some {s : List UInt8} {l : List (ByteArray × ByteArray)} (h : parseF s = some l) : rightS l = true ∧ printL l = s := by
  unfold parseF at h
  split at h
  · cases h
  · split at h
    · rename_i e; subst e
      split at h
      · cases h
      · rename_i l' hl
        split at h
        · rename_i hr; cases h
          obtain ⟨m, hm, hrest⟩ := parseLoop_some 8 hl
          rw [List.nil_append] at hm; subst hm
          refine ⟨hr, ?_⟩
          rw [printL, if_pos hr, hrest]; rfl
        · cases h
    · cases h
theorem lblL_ne (x : ByteArray × ByteArray) (r : List UInt8) (h : lblOk x = true) : lblL x ++ r ≠ [125] := by
  intro e
  have := congrArg List.length e
  have hs := lblOk_size h
  have h1 : x.1.data.toList.length = x.1.size := by simp
  simp [lblL, quoteL] at this
  omega
theorem parseLoop_mk : ∀ (m l : List (ByteArray × ByteArray)) (f : Nat), (∀ x ∈ m, lblOk x = true) → l.length + m.length ≤ 6 → m.length < f → parseLoop f (moreL l m ++ [125]) l = some (l ++ m)
  | [], l, f, h, h6, hf => by
    obtain ⟨f, rfl⟩ : ∃ g, f = g + 1 := ⟨f - 1, by simp at hf; omega⟩
    rw [moreL_nil, List.nil_append, parseLoop, if_pos rfl, List.append_nil]
  | x :: m, l, f, h, h6, hf => by
    rw [List.length_cons] at h6 hf
    obtain ⟨f, rfl⟩ : ∃ g, f = g + 1 := ⟨f - 1, by omega⟩
    have hx := h x List.mem_cons_self
    have ih := parseLoop_mk m (l ++ [x]) f (fun y hy => h y (List.mem_cons_of_mem _ hy)) (by rw [List.length_append, List.length_singleton]; omega) (by omega)
    rw [moreL_snoc l m x x] at ih
    unfold parseLoop
    by_cases h0 : l.length = 0
    · have e : moreL l (x :: m) ++ [125] = lblL x ++ ((m.flatMap fun y => 44 :: lblL y) ++ [125]) := by rw [moreL, if_pos h0, joinL_cons]; simp
      rw [e, if_neg (lblL_ne x _ hx), if_pos h0]
      show (match labelF (lblL x ++ ((m.flatMap fun y => 44 :: lblL y) ++ [125])) with | none => none | some (x, r') => if l.length + 1 ≤ 6 then parseLoop f r' (l ++ [x]) else none) = _
      rw [labelF_mk hx]
      simp only
      rw [if_pos (by omega), ih]; simp
    · have e : moreL l (x :: m) ++ [125] = 44 :: (lblL x ++ ((m.flatMap fun y => 44 :: lblL y) ++ [125])) := by rw [moreL, if_neg h0]; simp
      rw [e, if_neg (by intro e2; injection e2 with e3; exact absurd e3 (by decide)), if_neg h0]
      simp only [if_true]
      rw [labelF_mk hx]
      simp only
      rw [if_pos (by omega), ih]; simp
theorem parseF_print {l : List (ByteArray × ByteArray)} (h : rightS l = true) : parseF (printL l) = some l := by
  have h6 := rightS_len h
  have := parseLoop_mk l [] 8 (fun x hx => by
    obtain ⟨k, hk, rfl⟩ := List.getElem_of_mem hx
    exact (rightS_at h hk).1) (by simpa using h6) (by omega)
  rw [printL, if_pos h, parseF]
  simp only [if_true]
  have e : joinL l ++ [125] = moreL [] l ++ [125] := rfl
  rw [e, this]
  simp [h]
end Go.Proofs.Ytbndmmfpoljeaaa

namespace Go.Proofs.Ytbndmmfpoljeaaa
open Go.ChangeShapes Go.WideShapes Go.ChangeAt Go.RowKit
set_option linter.unusedVariables false
set_option maxRecDepth 100000
theorem cutL_index (c : UInt8) : ∀ l : List UInt8, (cutL c l = none ∧ Lib.indexByte l c = -1) ∨ ∃ k : Nat, k < l.length ∧ Lib.indexByte l c = k ∧ cutL c l = some (l.take k, l.drop (k + 1))
  | [] => .inl ⟨rfl, rfl⟩
  | x :: r => by
    unfold cutL Lib.indexByte
    by_cases h : x = c
    · subst h
      exact .inr ⟨0, by simp, by simp, by simp⟩
    · have hb : (x == c) = false := by simpa using h
      rw [if_neg h, hb]
      rcases cutL_index c r with ⟨h1, h2⟩ | ⟨k, hk, h1, h2⟩
      · exact .inl ⟨by rw [h1]; rfl, by rw [h2]; rfl⟩
      · refine .inr ⟨k + 1, by simpa using hk, ?_, by rw [h2]; simp⟩
        rw [h1]
        have : ((k : Int) == -1) = false := by rw [beq_eq_false_iff_ne]; omega
        simp [this]
end Go.Proofs.Ytbndmmfpoljeaaa

namespace Go.Proofs.Ytbndmmfpoljeaaa
open Go.RowKit
set_option linter.unusedVariables false
/-- The row v' lies where v lay, or in memory that is new since w. -/
def Where (w : World) (v v' : Value) : Prop := v'.ownBlock = v.ownBlock ∨ ∀ k, v'.ownBlock = some k → w.heap.size ≤ k
theorem Where.refl (w : World) (v : Value) : Where w v v := .inl rfl
/-- A row of another block stays another one. -/
theorem Where.apart {w : World} {v v' u : Value} (h : Where w v v') (hu : ∀ k, u.ownBlock = some k → k < w.heap.size ∧ v.ownBlock ≠ some k) : ∀ k, u.ownBlock = some k → v'.ownBlock ≠ some k := by
  intro k hk h'
  obtain ⟨h1, h2⟩ := hu k hk
  rcases h with h | h
  · exact h2 (h ▸ h')
  · have := h k h'; omega
theorem append_where {P : Program} (w : World) (base : Nat) (t ty e : TypeId) (i : TypeInfo) (z : Value) (size bytes : Nat) (ht : P.underlying t = some (.slice e)) (hi : P.info? e = some i) (hz : i.zero = some z)
    (hsize : i.size = size) (hby : i.bytes = bytes) (hzs : z.cells.size = size) (hsz : 0 < size)
    (v : Value) (n : Nat) (xs : List Value) (hown : w.ownsRow base e size v n xs)
    (B : Nat) (A : Option Addr) (m c : Nat) (news : List Value) (hs : Sees w B size A m news) (h1 : ∀ u ∈ news, u.oneCell' = true)
    (h63 : n + m ≤ maxLen) (hbytes : (n + m) * bytes ≤ 140737488355328) (v' : Value) (w' : World)
    (hr : (Builtin.append_ #[t, t] ty #[v, .slice A m c]).run P w = .ok v' w') : Where w v v' := by
  subst hsize; subst hby
  have hsmall : n + m ≤ 9223372036854775807 := by simp only [maxLen] at h63; omega
  cases A with
  | none =>
    have hm : m = 0 := by
      rcases Nat.eq_zero_or_pos m with h | h
      · exact h
      · obtain ⟨ad, h, _⟩ := hs.at_ h; cases h
    subst hm
    rw [nothing_appended w base t ty e i i.size ht hi v n xs hown c] at hr
    injection hr with hr _
    exact .inl (by rw [hr])
  | some ad =>
    have hl := hs.len
    have hnews : ∀ j u, news[j]? = some u → w.cell? (ad.add j) = some u := by
      intro j u hu
      have hm : 0 < m := by
        have h := (List.getElem?_eq_some_iff.1 hu).1
        rw [hs.len] at h
        rcases Nat.eq_zero_or_pos m with h0 | h0
        · subst h0; simp at h
        · exact h0
      obtain ⟨ad', h, _, hc⟩ := hs.at_ hm
      injection h with h; subst h
      exact hc j u hu
    rcases hown.2 with ⟨rfl, rfl⟩ | ⟨g, cap, cur, rfl, hbg, hg, hnc, hcm, hcs, htake⟩
    · by_cases hm : m = 0
      · subst hm
        have hr0 : (Builtin.append_ #[t, t] ty #[.slice none 0 0, .slice (some ad) 0 c]).run P w = .ok (.slice none 0 0) w := by
          simp [Builtin.append_, run_underlying ht, sizeOf, typeInfo, hi, Builtin.lenOf, Builtin.firstCells, loadCells, loadCellsFrom]
        rw [hr0] at hr
        injection hr with hr _
        exact .inl (by rw [hr])
      · rw [run_append_nil (P := P) w t ty e i z ht hi hz ad m c news hl hnews (by omega) (by omega) (by have hb := hbytes; simp only [Nat.zero_add] at hb; omega)] at hr
        injection hr with hr _
        exact .inr fun k hk => by rw [← hr] at hk; simp [Value.ownBlock] at hk; omega
    · by_cases hroom : n + m ≤ cap
      · have hfit : n * i.size + news.length ≤ cur.size := by rw [hl, hcs, ← Nat.add_mul]; exact Nat.mul_le_mul_right _ hroom
        rw [run_append_room (P := P) w t ty e i ht hi g n cap cur hg ad m c news hl hnews h1 hroom hfit] at hr
        injection hr with hr _
        exact .inl (by rw [← hr]; rfl)
      · have holds : ∀ j u, xs[j]? = some u → w.cell? ((⟨g, 0, none⟩ : Addr).add j) = some u := hown.cells (g := g) rfl
        rw [run_append_grow (P := P) w t ty e i z ht hi hz ⟨g, 0, none⟩ n cap xs hown.1 holds ad m c news hl hnews (by omega) (by omega) (growslice_fits (by omega) hbytes)] at hr
        injection hr with hr _
        exact .inr fun k hk => by rw [← hr] at hk; simp [Value.ownBlock] at hk; omega
theorem wpList_append_at {P : Program} {w : World} {ops : Array Oper} {rest : List Oper} {o : Oper} {a : Act} {Q : Exit → Act → World → Prop} (hgd : o.guard = none) (s x : Operand) (t : TypeId)
    (ho : o.op = .call { callee := .builtin .append, args := #[s, x], argTypes := #[t, t] })
    (base : Nat) (e : TypeId) (i : TypeInfo) (z : Value) (size bytes : Nat) (ht : P.underlying t = some (.slice e)) (hi : P.info? e = some i) (hz : i.zero = some z)
    (hsize : i.size = size) (hby : i.bytes = bytes) (hzs : z.cells.size = size) (hsz : 0 < size)
    (v : Value) (n : Nat) (xs : List Value) (hv : a.eval s = v) (hown : w.ownsRow base e size v n xs)
    (B : Nat) (A : Option Addr) (m c : Nat) (news : List Value) (hx : a.eval x = .slice A m c) (hs : Sees w B size A m news) (h1 : ∀ u ∈ news, u.oneCell' = true)
    (h63 : n + m ≤ maxLen) (hbytes : (n + m) * bytes ≤ 140737488355328) (hbase : base ≤ w.heap.size)
    (h : ∀ v' w', w'.ownsRow base e size v' (n + m) (xs ++ news) → w.grownBy w' v.ownBlock → Where w v v' → wpList P ops Q rest (a.put o.dst v') w') : wpList P ops Q (o :: rest) a w := by
  refine wpList_plain hgd fun K hK => ?_
  obtain ⟨v', w', hr, h2, h3⟩ := append_run (P := P) w base t o.type e i z size bytes ht hi hz hsize hby hzs hsz v n xs hown B A m c news hs h1 h63 hbytes hbase
  have h4 := append_where (P := P) w base t o.type e i z size bytes ht hi hz hsize hby hzs hsz v n xs hown B A m c news hs h1 h63 hbytes v' w' hr
  unfold Oper.wp execOp
  simp only [ho, resolve, invoke, builtin, Sem.run_bind, Sem.run_pure, Result.andThen_ok, List.map_toArray, List.map_cons, List.map_nil, hv, hx, hr]
  exact hK _ _ (h v' w' h2 h3 h4)
end Go.Proofs.Ytbndmmfpoljeaaa

namespace Go.Proofs.Ytbndmmfpoljeaaa
open Go.RowKit
set_option linter.unusedVariables false
theorem only_alloc {a w : World} {row : Option Nat} (h : a.grownBy w row) (o : Obj) : a.grownBy (w.alloc o) row :=
  ⟨h.os, h.tape, h.output, Nat.le_trans h.size (by simp), fun i hi hne => (Below.heap_alloc w o i (Nat.lt_of_lt_of_le hi h.size)).trans (h.block i hi hne)⟩
theorem only_drewN {a w : World} {row : Option Nat} (h : a.grownBy w row) (n : Nat) : a.grownBy (w.drewN n) row := ⟨h.os, h.tape, h.output, h.size, h.block⟩
theorem only_drew {a w : World} {row : Option Nat} (h : a.grownBy w row) : a.grownBy w.drew row := ⟨h.os, h.tape, h.output, h.size, h.block⟩
theorem only_of_below {a w : World} (h : Below a.heap.size a w) (row : Option Nat) : a.grownBy w row := ⟨h.os, h.tape, h.output, h.size, fun i hi _ => h.block i hi⟩
theorem only_setCell {a w : World} {row : Option Nat} (h : a.grownBy w row) {p : Addr} (hp : row = some p.block ∨ a.heap.size ≤ p.block) (u : Value) : a.grownBy (w.setCell p u) row :=
  ⟨h.os, h.tape, h.output, by simpa [World.setCell] using h.size, fun i hi hne => (Below.heap_setCell w p u i (by
    rintro rfl
    rcases hp with hp | hp
    · exact hne hp.symm
    · omega)).trans (h.block i hi hne)⟩
/-- Two appends, one behind the other. -/
theorem grown_where {a b c : World} {v v1 : Value} (h : a.grownBy b v.ownBlock) (hw : Where a v v1) (k : b.grownBy c v1.ownBlock) : a.grownBy c v.ownBlock :=
  ⟨k.os.trans h.os, k.tape.trans h.tape, k.output.trans h.output, Nat.le_trans h.size k.size, fun i hi hn => (k.block i (Nat.lt_of_lt_of_le hi h.size) (fun e => by
    rcases hw with hw | hw
    · exact hn (e.trans hw)
    · have := hw i e.symm; omega)).trans (h.block i hi hn)⟩
theorem Where.trans {a b : World} {v v1 v2 : Value} (h : Where a v v1) (k : Where b v1 v2) (hs : a.heap.size ≤ b.heap.size) : Where a v v2 := by
  rcases k with k | k
  · rcases h with h | h
    · exact .inl (k.trans h)
    · exact .inr fun i hi => h i (k ▸ hi)
  · exact .inr fun i hi => Nat.le_trans hs (k i hi)
theorem Where.older {a b : World} {v v1 : Value} (h : Where b v v1) (hs : a.heap.size ≤ b.heap.size) : Where a v v1 := by
  rcases h with h | h
  · exact .inl h
  · exact .inr fun i hi => Nat.le_trans hs (h i hi)
/-- A call answers v with ys behind it; nothing else of what there was has turned. -/
def AppAns (base : Nat) (t : TypeId) (size n : Nat) (xs : List Value) (v : Value) (w : World) (e : Ending) (w' : World) : Prop :=
  ∃ A c, e = .returned (.slice A n c) ∧ w'.ownsRow base t size (.slice A n c) n xs ∧ w.grownBy w' v.ownBlock ∧ Where w v (.slice A n c) ∧ n ≤ c ∧ c ≤ 9223372036854775807
theorem appAns {base : Nat} {t : TypeId} {size n c : Nat} {xs : List Value} {v : Value} {w w' : World} {e : Ending} {A : Option Addr} (hown : w'.ownsRow base t size (.slice A n c) n xs) (hg : w.grownBy w' v.ownBlock) (hw : Where w v (.slice A n c))
    (he : e = .returned (.slice A n c)) : AppAns base t size n xs v w e w' := by
  obtain ⟨A', c', h1, h2, h3⟩ := own_slice hown
  injection h1 with h1 h4 h5
  subst h1; subst h5
  exact ⟨A, c, he, hown, hg, hw, h2, h3⟩
end Go.Proofs.Ytbndmmfpoljeaaa

namespace Go.Proofs.Ytbndmmfpoljeaaa
open Go.ChangeShapes Go.WideShapes Go.ChangeAt Go.RowKit
set_option linter.unusedVariables false
set_option maxRecDepth 100000
/-- string(b) of a row of the call's own. -/
theorem conv_own {base n c : Nat} {A : Option Addr} {l : List UInt8} (w : World) (h : w.ownsRow base 5 1 (.slice A n c) n (Lib.byteCells l)) (hl : l.length = n) :
    (convert 76 9 (.slice A n c)).run Try.prog w = .ok (.string ⟨l.toArray⟩) w := by
  cases A with
  | none =>
    have hn : n = 0 := by
      rcases Nat.eq_zero_or_pos n with h0 | h0
      · exact h0
      · obtain ⟨g, c', hv, _⟩ := h.form h0; cases hv
    have : l = [] := List.eq_nil_of_length_eq_zero (by omega)
    subst this
    exact run_convert_bytes_nil (w := w) 76 5 Try.underlying76 Try.underlying5 n c _ Try.underlying9
  | some a =>
    subst hl
    exact run_convert_bytes_back w 76 9 5 a c l Try.underlying76 Try.underlying5 Try.underlying9 fun j hj => by
      have hS := Sees.of_own h
      obtain ⟨ad, e, _, hc⟩ := hS.at_ (by omega)
      injection e with e; subst e
      exact hc j _ (by simp [Lib.byteCells, hj])
theorem own_drewN {w : World} {base : Nat} {t : TypeId} {s n : Nat} {v : Value} {xs : List Value} (h : w.ownsRow base t s v n xs) (q : Nat) : (w.drewN q).ownsRow base t s v n xs := h
theorem own_nil (w : World) (base : Nat) (t : TypeId) (s : Nat) : w.ownsRow base t s (.slice none 0 0) 0 [] := World.ownsRow_nil w base t s
theorem byteCells_one' (l : List UInt8) : ∀ u ∈ Lib.byteCells l, u.oneCell' = true := by
  intro u hu; simp only [Lib.byteCells, List.mem_map] at hu; obtain ⟨b, _, rfl⟩ := hu; rfl
/-- What is told of a text that may be one in quotes. -/
def UnqAns (r : Option (List UInt8 × List UInt8)) (w : World) (e : Ending) (w' : World) : Prop :=
  Below w.heap.size w w' ∧ match r with
    | none => e = .returned (.tuple #[.string ⟨#[]⟩, .string ⟨#[]⟩, .bool false])
    | some (v, t) => e = .returned (.tuple #[.string ⟨v.toArray⟩, .string ⟨t.toArray⟩, .bool true])
theorem unqAns_no {w w' : World} {e : Ending} {r : Option (List UInt8 × List UInt8)} (hr : r = none) (hb : Below w.heap.size w w') (he : e = .returned (.tuple #[.string ⟨#[]⟩, .string ⟨#[]⟩, .bool false])) : UnqAns r w e w' := by subst hr; exact ⟨hb, he⟩
theorem unqAns_yes {w w' : World} {e : Ending} {r : Option (List UInt8 × List UInt8)} {v t : List UInt8} (hr : r = some (v, t)) (hb : Below w.heap.size w w') (he : e = .returned (.tuple #[.string ⟨v.toArray⟩, .string ⟨t.toArray⟩, .bool true])) : UnqAns r w e w' := by subst hr; exact ⟨hb, he⟩
theorem drop_byte (r : List UInt8) (k : Nat) (h : k < r.length) : r.drop k = r[k] :: r.drop (k + 1) := List.drop_eq_getElem_cons h
theorem getByte (r : List UInt8) (k : Nat) (h : k < (⟨r.toArray⟩ : ByteArray).size) : (⟨r.toArray⟩ : ByteArray)[k] = r[k]'(by simpa [ByteArray.size] using h) := rfl
theorem unq_step {r acc : List UInt8} {k : Nat} (h : k < r.length) (ha : acc.length ≤ 24) (h34 : r[k] ≠ 34) (h92 : r[k] ≠ 92) : unq (r.drop k) acc = unq (r.drop (k + 1)) (acc ++ [r[k]]) := by
  rw [drop_byte r k h]
  conv => lhs; unfold unq
  rw [if_neg (by omega), if_neg h34, if_neg h92]
theorem unq_end {r acc : List UInt8} {k : Nat} (h : k < r.length) (ha : acc.length ≤ 24) (h34 : r[k] = 34) : unq (r.drop k) acc = some (acc, r.drop (k + 1)) := by
  rw [drop_byte r k h]
  conv => lhs; unfold unq
  rw [if_neg (by omega), if_pos h34]
theorem unq_long {r acc : List UInt8} {k : Nat} (ha : 24 < acc.length) : unq (r.drop k) acc = none := by
  cases r.drop k with
  | nil => unfold unq; rfl
  | cons c t => unfold unq; rw [if_pos ha]
theorem unq_over {r acc : List UInt8} {k : Nat} (h : r.length ≤ k) : unq (r.drop k) acc = none := by
  rw [List.drop_of_length_le h]; unfold unq; rfl
theorem unq_esc {r acc : List UInt8} {k : Nat} (h : k + 1 < r.length) (ha : acc.length ≤ 24) (h92 : r[k] = 92) (he : escB r[k + 1] = true) : unq (r.drop k) acc = unq (r.drop (k + 2)) (acc ++ [r[k + 1]]) := by
  rw [drop_byte r k (by omega), drop_byte r (k + 1) h]
  conv => lhs; unfold unq
  rw [if_neg (by omega), if_neg (by rw [h92]; decide), if_pos h92]
  simp only
  rw [if_pos he]
theorem unq_bad {r acc : List UInt8} {k : Nat} (h : k + 1 < r.length) (ha : acc.length ≤ 24) (h92 : r[k] = 92) (he : escB r[k + 1] = false) : unq (r.drop k) acc = none := by
  rw [drop_byte r k (by omega), drop_byte r (k + 1) h]
  unfold unq
  rw [if_neg (by omega), if_neg (by rw [h92]; decide), if_pos h92]
  simp only
  rw [he]; rfl
theorem unq_last {r acc : List UInt8} {k : Nat} (h : k + 1 = r.length) (ha : acc.length ≤ 24) (h92 : r[k]'(by omega) = 92) : unq (r.drop k) acc = none := by
  rw [drop_byte r k (by omega), List.drop_of_length_le (by omega)]
  unfold unq
  rw [if_neg (by omega), if_neg (by rw [h92]; decide), if_pos h92]
end Go.Proofs.Ytbndmmfpoljeaaa

namespace Go.Proofs.Ytbndmmfpoljeaaa
open Go.ChangeShapes Go.WideShapes Go.ChangeAt Go.RowKit
set_option linter.unusedVariables false
set_option maxRecDepth 100000
/-- What is told of a text that may begin with a label. -/
def LabAns (r : Option ((ByteArray × ByteArray) × List UInt8)) (w : World) (e : Ending) (w' : World) : Prop :=
  Below w.heap.size w w' ∧ match r with
    | none => ∃ (a b : ByteArray), ∃ t : ByteArray, e = .returned (.tuple #[.agg #[.string a, .string b], .string t, .bool false])
    | some (x, t) => e = .returned (.tuple #[.agg #[.string x.1, .string x.2], .string ⟨t.toArray⟩, .bool true])
theorem labAns_no {w w' : World} {e : Ending} {r : Option ((ByteArray × ByteArray) × List UInt8)} {a b t : ByteArray} (hr : r = none) (hb : Below w.heap.size w w') (he : e = .returned (.tuple #[.agg #[.string a, .string b], .string t, .bool false])) : LabAns r w e w' := by subst hr; exact ⟨hb, a, b, t, he⟩
theorem labAns_yes {w w' : World} {e : Ending} {r : Option ((ByteArray × ByteArray) × List UInt8)} {a b : ByteArray} {t : List UInt8} (hr : r = some ((a, b), t)) (hb : Below w.heap.size w w') (he : e = .returned (.tuple #[.agg #[.string a, .string b], .string ⟨t.toArray⟩, .bool true])) : LabAns r w e w' := by subst hr; exact ⟨hb, he⟩
end Go.Proofs.Ytbndmmfpoljeaaa

namespace Go.Proofs.Ytbndmmfpoljeaaa
open Go.ChangeShapes Go.WideShapes Go.ChangeAt Go.RowKit
set_option linter.unusedVariables false
set_option maxRecDepth 100000
theorem Try.infoLabel : (Try.prog.info? 53).map (fun i => (i.zero, i.size, i.bytes)) = some (some (.agg #[.string ⟨#[]⟩, .string ⟨#[]⟩]), 2, 32) := by kernel_rfl
theorem own_other {w : World} {base : Nat} {e : TypeId} {s n : Nat} {v : Value} {xs : List Value} (h : w.ownsRow base e s v n xs) {p : Addr} (hp : v.ownBlock ≠ some p.block) (u : Value) : (w.setCell p u).ownsRow base e s v n xs := by
  refine ⟨h.1, ?_⟩
  rcases h.2 with h2 | ⟨g, cap, cur, hv, hg, hh, rest⟩
  · exact .inl h2
  · refine .inr ⟨g, cap, cur, hv, hg, ?_, rest⟩
    exact (Below.heap_setCell w p u g (fun e => hp (by rw [hv, e]; rfl))).trans hh
theorem parseLoop_stop (f : Nat) (l : List (ByteArray × ByteArray)) : parseLoop (f + 1) [125] l = some l := by rw [parseLoop, if_pos rfl]
theorem parseLoop_first {f : Nat} {rest : List UInt8} {l : List (ByteArray × ByteArray)} (h : ¬ rest = [125]) (h0 : l.length = 0) : parseLoop (f + 1) rest l = match labelF rest with | none => none | some (x, r') => if l.length + 1 ≤ 6 then parseLoop f r' (l ++ [x]) else none := by
  conv => lhs; unfold parseLoop
  rw [if_neg h, if_pos h0]
  try rfl
theorem parseLoop_next {f : Nat} {r : List UInt8} {l : List (ByteArray × ByteArray)} (h : ¬ 44 :: r = [125]) (h0 : ¬ l.length = 0) : parseLoop (f + 1) (44 :: r) l = match labelF r with | none => none | some (x, r') => if l.length + 1 ≤ 6 then parseLoop f r' (l ++ [x]) else none := by
  conv => lhs; unfold parseLoop
  rw [if_neg h, if_neg h0]
  simp only [if_true]
  try rfl
theorem parseLoop_bad {f : Nat} {rest : List UInt8} {l : List (ByteArray × ByteArray)} (h : ¬ rest = [125]) (h0 : ¬ l.length = 0) (hc : ¬ ∃ r, rest = 44 :: r) : parseLoop (f + 1) rest l = none := by
  unfold parseLoop
  rw [if_neg h, if_neg h0]
  cases rest with
  | nil => rfl
  | cons x r => simp only; rw [if_neg (fun e => hc ⟨r, by rw [e]⟩)]
/-- What is told of a text that may be a set's. -/
def ParseAns (r : Option (List (ByteArray × ByteArray))) (w : World) (e : Ending) (w' : World) : Prop :=
  Below w.heap.size w w' ∧ match r with
    | none => e = .returned (.tuple #[.slice none 0 0, .bool false])
    | some l => ∃ A c, e = .returned (.tuple #[.slice A l.length c, .bool true]) ∧ w'.ownsRow w.heap.size 53 2 (.slice A l.length c) l.length (lbls l) ∧ l.length ≤ c ∧ c ≤ 9223372036854775807
theorem parseAns_no {w w' : World} {e : Ending} {r : Option (List (ByteArray × ByteArray))} (hr : r = none) (hb : Below w.heap.size w w') (he : e = .returned (.tuple #[.slice none 0 0, .bool false])) : ParseAns r w e w' := by subst hr; exact ⟨hb, he⟩
theorem parseAns_yes {w w' : World} {e : Ending} {r : Option (List (ByteArray × ByteArray))} {l : List (ByteArray × ByteArray)} {A : Option Addr} {c : Nat} (hr : r = some l) (hb : Below w.heap.size w w') (ho : w'.ownsRow w.heap.size 53 2 (.slice A l.length c) l.length (lbls l)) (he : e = .returned (.tuple #[.slice A l.length c, .bool true])) : ParseAns r w e w' := by
  subst hr
  obtain ⟨A', c', h1, h2, h3⟩ := own_slice ho
  injection h1 with h1 h4 h5; subst h1; subst h5
  exact ⟨hb, A, c, he, ho, h2, h3⟩
/-- What the loop leaves. -/
def ParseCut (Q : Option (List (ByteArray × ByteArray))) (w : World) (x5 x6 : Value) (wx : World) : Prop :=
  Below w.heap.size w wx ∧ match Q with
    | none => x5 = .bool false
    | some l => x5 = .bool true ∧ ∃ A c, x6 = .slice A l.length c ∧ wx.ownsRow w.heap.size 53 2 (.slice A l.length c) l.length (lbls l)
theorem parseCut_no {Q : Option (List (ByteArray × ByteArray))} {w wx : World} {x5 x6 : Value} (hQ : Q = none) (hb : Below w.heap.size w wx) (h5 : x5 = .bool false) : ParseCut Q w x5 x6 wx := by subst hQ; exact ⟨hb, h5⟩
theorem parseCut_yes {Q : Option (List (ByteArray × ByteArray))} {w wx : World} {x5 x6 : Value} {l : List (ByteArray × ByteArray)} {A : Option Addr} {c : Nat} (hQ : Q = some l) (hb : Below w.heap.size w wx) (h5 : x5 = .bool true) (h6 : x6 = .slice A l.length c) (ho : wx.ownsRow w.heap.size 53 2 (.slice A l.length c) l.length (lbls l)) : ParseCut Q w x5 x6 wx := by subst hQ; exact ⟨hb, h5, A, c, h6, ho⟩
/-- What holds at each round's head. -/
def ParseRel (Q : Option (List (ByteArray × ByteArray))) (s : ByteArray) (w : World) (g : Nat) (x4 x5 x6 : Value) (wr : World) : Prop :=
  Below w.heap.size w wr ∧ ((x5 = .bool false ∧ Q = none ∧ ∃ R, x4 = .string R) ∨
    (x5 = .bool true ∧ ∃ (rest : List UInt8) (l : List (ByteArray × ByteArray)) (A : Option Addr) (c : Nat), x4 = .string ⟨rest.toArray⟩ ∧ rest.length ≤ s.size ∧ l.length + g = 8 ∧ l.length ≤ 6 ∧ Q = parseLoop g rest l ∧ x6 = .slice A l.length c ∧ wr.ownsRow w.heap.size 53 2 (.slice A l.length c) l.length (lbls l)))
/-- The set's text behind the brace. -/
def behindL (s : List UInt8) : Option (List (ByteArray × ByteArray)) := match s with | [] => none | c :: r => if c = 123 then parseLoop 8 r [] else none
theorem parseF_behind (s : List UInt8) : parseF s = match behindL s with | none => none | some l => if rightS l then some l else none := by
  unfold parseF behindL
  cases s with
  | nil => rfl
  | cons c r =>
    simp only
    by_cases h : c = 123
    · simp only [h, if_true]; try rfl
    · simp [h]
end Go.Proofs.Ytbndmmfpoljeaaa

namespace Go.Proofs.Ytbndmmfpoljeaaa
open Go.ChangeShapes Go.WideShapes Go.ChangeAt Go.RowKit
set_option linter.unusedVariables false
set_option maxRecDepth 100000
/-- Is x one of zs. -/
def hasS (zs : List ByteArray) (x : ByteArray) : Bool := zs.any fun z => decide (z = x)
theorem hasS_iff {zs : List ByteArray} {x : ByteArray} : hasS zs x = true ↔ x ∈ zs := by
  simp [hasS]
theorem hasS_yes {zs : List ByteArray} {x : ByteArray} (h : x ∈ zs) : hasS zs x = true := hasS_iff.2 h
theorem hasS_no {zs : List ByteArray} {x : ByteArray} (h : x ∉ zs) : hasS zs x = false := by
  cases hq : hasS zs x with
  | false => rfl
  | true => exact absurd (hasS_iff.1 hq) h
theorem index_str (A : Option Addr) (n c B : Nat) (zs : List ByteArray) (x : ByteArray) (w : World) (h : Sees w B 1 A n (strs zs)) (hn : n ≤ 9223372036854775807) :
    Calls Try.prog 82 #[.slice A n c, .string x] w fun e w' => (∃ k : Int, e = .returned (.int .i64 k) ∧ (hasS zs x = decide (0 ≤ k))) ∧ w = w' := by
  have H := Lib.hid h
  have HL := Lib.hid h.str_len
  clear h
  go_enter Try.func82, Try.ntmps82
  go_wp2_with fail
  go_loop [8] (fun i => ∃ k : Nat, k ≤ n ∧ i = .int .i64 k ∧ x ∉ zs.take k) (fun i => n - (intOf i).toNat)
  case atStart => exact ⟨0, Nat.zero_le _, rfl, by simp⟩
  case round =>
    obtain ⟨k, hk, rfl, ht⟩ := hrel
    have HT := Lib.hid ht; clear ht
    by_cases hlt : k < n
    · obtain ⟨ad, hkl, rfl, hc⟩ := H.out.str hlt
      by_cases he : x = zs[k]
      · have HE := Lib.hid (show hasS zs x = decide (0 ≤ (k : Int)) by rw [hasS_yes (by rw [he]; exact List.getElem_mem _), decide_eq_true (by omega)])
        have t1 : (x.toList == (zs[k]).toList) = true := by rw [← he]; simp
        clear he
        go_wp2_with fail
        go_ret
        exact ⟨⟨k, rfl, HE.out⟩, rfl⟩
      · have t1 : (x.toList == (zs[k]).toList) = false := by rw [beq_eq_false_iff_ne]; exact fun h => he (ba_ext h)
        have HN := Lib.hid (show x ∉ zs.take (k + 1) by rw [List.take_succ_eq_append_getElem hkl]; simp only [List.mem_append, List.mem_singleton, not_or]; exact ⟨HT.out, he⟩)
        clear he
        go_wp2_with fail
        go_round
        case rel => exact ⟨k + 1, by omega, by go_num, HN.out⟩
        case measure => simp [intOf]; omega
    · obtain rfl : k = n := by omega
      have HE := Lib.hid (show hasS zs x = decide (0 ≤ (-1 : Int)) by
        have h := HT.out
        rw [List.take_of_length_le (by rw [HL.out]; exact Nat.le_refl _)] at h
        rw [hasS_no h]; rfl)
      go_wp2_with fail
      go_ret
      exact ⟨⟨-1, rfl, HE.out⟩, rfl⟩
theorem contains_str (A : Option Addr) (n c B : Nat) (zs : List ByteArray) (x : ByteArray) (w : World) (h : Sees w B 1 A n (strs zs)) (hn : n ≤ 9223372036854775807) :
    Calls Try.prog 65 #[.slice A n c, .string x] w fun e w' => e = .returned (.bool (hasS zs x)) ∧ w = w' := by
  have HI := Lib.hid (index_str A n c B zs x w h hn)
  clear h
  generalize hasS zs x = q at *
  go_enter Try.func65, Try.ntmps65
  go_wp2_with fail
  refine HI.out.mono ?_; rintro e w' ⟨⟨k, rfl, hq⟩, rfl⟩
  have HQ := Lib.hid hq
  clear hq
  go_wp2_with fail
  go_ret
  exact ⟨by rw [HQ.out]; rfl, rfl⟩
end Go.Proofs.Ytbndmmfpoljeaaa

namespace Go.Proofs.Ytbndmmfpoljeaaa
open Go.ChangeShapes Go.WideShapes Go.ChangeAt Go.RowKit
set_option linter.unusedVariables false
set_option maxRecDepth 100000
set_option maxHeartbeats 4000000 in
theorem keep_any (A0 AN : Option Addr) (n c nn cn B BN : Nat) (l : List (ByteArray × ByteArray)) (ns : List ByteArray) (w : World) (h : Sees w B 2 A0 n (lbls l)) (hB : B ≤ w.heap.size) (hn : n ≤ 100000) (hN : Sees w BN 1 AN nn (strs ns)) (hBN : BN ≤ w.heap.size) (hnn : nn ≤ 9223372036854775807) :
    Calls Try.prog 34 #[.slice A0 n c, .slice AN nn cn] w (OwnAns 53 2 (l.filter fun x => hasS ns x.1).length (lbls (l.filter fun x => hasS ns x.1)) w) := by
  obtain ⟨i0, hi0, hz0, hz1, hz2⟩ := info_parts Try.infoLabel
  have H := Lib.hid h
  have HL := Lib.hid h.lbl_len
  have HN := Lib.hid hN
  clear h hN
  obtain ⟨P, hP⟩ : ∃ P : ByteArray × ByteArray → Bool, (fun x => hasS ns x.1) = P := ⟨_, rfl⟩
  rw [hP]
  have HP := Lib.hid (fun x => congrFun hP x)
  clear hP
  go_enter Try.func34, Try.ntmps34
  go_wp2_with (at_make; refine wpList_make_own _ rfl _ _ 26 rfl w.heap.size 53 i0 (.agg #[.string ⟨#[]⟩, .string ⟨#[]⟩]) 2 Try.underlying26 hi0 hz0 hz1 _ _ _ n rfl rfl rfl (by rw [hz2]; omega) (by unfold maxLen; omega) (by simp) ?_)
  intro w2 hown2 hgr2
  have HO2 := Lib.hid hown2
  have HB2 := Lib.hid ((Below.refl w.heap.size w).grown hgr2 (by simp) (by simp))
  clear hown2 hgr2
  go_wp2_with fail
  go_loopg [13, 5] n (fun g x13 x5 wr => ∃ (k : Nat) (A : Option Addr) (m c2 : Nat), k + g = n ∧ x13 = .int .i64 k ∧ x5 = .slice A m c2 ∧ ((l.take k).filter P).length = m ∧ wr.ownsRow w.heap.size 53 2 (.slice A m c2) m (lbls ((l.take k).filter P)) ∧ Below w.heap.size w wr)
  case atStart => exact ⟨0, _, 0, n, by omega, rfl, rfl, rfl, HO2.out, HB2.out⟩
  case round =>
    obtain ⟨k, A, m, c2, hkg, rfl, rfl, hml, hown, hbel⟩ := hrel
    have HO := Lib.hid hown; have HB0 := Lib.hid hbel; have HML := Lib.hid hml
    have hws := hbel.size
    clear hown hbel hml HO2 HB2
    cases gk with
    | zero =>
      obtain rfl : k = n := by omega
      have HE := Lib.hid (show (l.take k).filter P = l.filter P by rw [List.take_of_length_le (by rw [HL.out]; exact Nat.le_refl _)])
      obtain ⟨A', c', h1, h2, h3⟩ := own_slice HO.out
      injection h1 with h1 h4 h5; subst h1; subst h5
      go_wp2_with fail
      go_ret
      exact ownAns (A := A) (c := c2) (by rw [← HE.out, HML.out]; exact HO.out) HB0.out (by rw [← HE.out, HML.out]; rfl) (by rw [← HE.out, HML.out]; exact h2) h3
    | succ g =>
      have hlt : k < n := by omega
      obtain ⟨ad, hkl, rfl, c0, c1⟩ := (H.out.below (HB0.out.mono hB)).lbl hlt
      have hal := World.block_lt_of_cell? wr _ c0
      have HTK := Lib.hid (List.take_succ_eq_append_getElem hkl)
      have HPX := Lib.hid (HP.out l[k])
      generalize l[k] = p at *
      obtain ⟨a, b⟩ := p
      simp only at c0 c1
      have HC := Lib.hid (fun W (hW : Sees W BN 1 AN nn (strs ns)) => contains_str AN nn cn BN ns a W hW hnn)
      obtain ⟨q, hq⟩ : ∃ q, hasS ns a = q := ⟨_, rfl⟩
      have HPX : Hid (P (a, b) = q) := Lib.hid (by rw [← HPX.out, ← hq])
      rw [hq] at HC
      clear hq
      cases q with
      | true =>
        go_wp2_with fail
        refine (HC.out _ (HN.out.below ((HB0.out.alloc hws (.cells #[.string a, .string b] 53)).mono hBN))).mono ?_; rintro e w' ⟨rfl, rfl⟩
        have HNX : Hid ((l.take (k + 1)).filter P = (l.take k).filter P ++ [(a, b)]) := Lib.hid (by rw [HTK.out, List.filter_append, List.filter_cons, if_pos (show P (a, b) = true from HPX.out)]; rfl)
        obtain ⟨W, hW⟩ : ∃ W, wr.alloc (.cells #[.string a, .string b] 53) = W := ⟨_, rfl⟩
        have HKW : Hid (Blk W wr.heap.size 53 [.string a, .string b]) := Lib.hid (by rw [← hW]; exact Blk.mk (heap_alloc_new wr _))
        have HOW : Hid (W.ownsRow w.heap.size 53 2 (.slice A m c2) m (lbls ((l.take k).filter P))) := Lib.hid (by rw [← hW]; exact HO.out.alloc _)
        have HBW : Hid (Below w.heap.size w W) := Lib.hid (by rw [← hW]; exact HB0.out.alloc hws _)
        have hWs := HBW.out.size
        go_upto_region 6 with fail
        try rw [hW]
        clear hW HO HB0
        have c0 := HKW.out.cell 0
        have c1 := HKW.out.cell 1
        simp only [List.getElem?_cons_zero, List.getElem?_cons_succ] at c0 c1
        have HX := Lib.hid (show Sees (W.alloc (.cells #[.string a, .string b] 53)) (W.alloc (.cells #[.string a, .string b] 53)).heap.size 2 (some ⟨W.heap.size, 0, none⟩) 1 (lbls [(a, b)]) from (Blk.mk (heap_alloc_new W _) : Blk _ W.heap.size 53 [.string a, .string b]).sees rfl (List.prefix_refl _))
        have HOA := Lib.hid (HOW.out.alloc (.cells #[.string a, .string b] 53))
        have HBA := Lib.hid (HBW.out.alloc hWs (.cells #[.string a, .string b] 53))
        have hbx : ∀ g, (Value.slice A m c2).ownBlock = some g → w.heap.size ≤ g := fun g hg => (HOW.out.lt g hg).1
        have HBX := Lib.hid hbx
        have hml : m ≤ 1000000 := by have h := HML.out; have h2 := List.length_filter_le P (l.take k); have h3 : (l.take k).length ≤ k := List.length_take_le _ _; omega
        clear HOW HBW HKW hbx
        go_wp2_with (at_builtin; refine wpList_append_at rfl (.tmp 21) (.tmp 23) 26 rfl w.heap.size 53 i0 (.agg #[.string ⟨#[]⟩, .string ⟨#[]⟩]) 2 32 Try.underlying26 hi0 hz0 hz1 hz2 rfl (by decide) _ m (lbls ((l.take k).filter P)) rfl HOA.out _ _ 1 1 (lbls [(a, b)]) rfl HX.out (lbls_one _) (by unfold maxLen; omega) (by omega) (by simp; omega) ?_)
        intro v3 w3 hown3 hgr3 hwh3
        obtain ⟨A3, c3, rfl, hc3, hc4⟩ := own_slice hown3
        rw [← lbls_append, ← HNX.out] at hown3
        have HO3 := Lib.hid hown3
        have HB3 := Lib.hid (HBA.out.grown hgr3 (by simp; omega) HBX.out)
        have HML3 : Hid (((l.take (k + 1)).filter P).length = m + 1) := Lib.hid (by rw [HNX.out, List.length_append, HML.out]; rfl)
        clear hown3 hgr3 hwh3 HOA HX HBA HBX HNX
        go_wp2_with fail
        go_roundg g
        case measure => omega
        case rel => exact ⟨k + 1, A3, m + 1, c3, by omega, by go_num, rfl, HML3.out, HO3.out, HB3.out⟩
      | false =>
        go_wp2_with fail
        refine (HC.out _ (HN.out.below ((HB0.out.alloc hws (.cells #[.string a, .string b] 53)).mono hBN))).mono ?_; rintro e w' ⟨rfl, rfl⟩
        have HNX : Hid ((l.take (k + 1)).filter P = (l.take k).filter P) := Lib.hid (by rw [HTK.out, List.filter_append, List.filter_cons, if_neg (by rw [HPX.out]; decide)]; simp)
        have HB3 := Lib.hid (HB0.out.alloc hws (.cells #[.string a, .string b] 53))
        have HO3 := Lib.hid (HO.out.alloc (.cells #[.string a, .string b] 53))
        clear HO HB0
        go_wp2_with fail
        go_roundg g
        case measure => omega
        case rel => exact ⟨k + 1, A, m, c2, by omega, by go_num, rfl, by rw [HNX.out]; exact HML.out, by rw [HNX.out]; exact HO3.out, HB3.out⟩
set_option maxHeartbeats 4000000 in
theorem drop_any (A0 AN : Option Addr) (n c nn cn B BN : Nat) (l : List (ByteArray × ByteArray)) (ns : List ByteArray) (w : World) (h : Sees w B 2 A0 n (lbls l)) (hB : B ≤ w.heap.size) (hn : n ≤ 100000) (hN : Sees w BN 1 AN nn (strs ns)) (hBN : BN ≤ w.heap.size) (hnn : nn ≤ 9223372036854775807) :
    Calls Try.prog 64 #[.slice A0 n c, .slice AN nn cn] w (OwnAns 53 2 (l.filter fun x => !hasS ns x.1).length (lbls (l.filter fun x => !hasS ns x.1)) w) := by
  obtain ⟨i0, hi0, hz0, hz1, hz2⟩ := info_parts Try.infoLabel
  have H := Lib.hid h
  have HL := Lib.hid h.lbl_len
  have HN := Lib.hid hN
  clear h hN
  obtain ⟨P, hP⟩ : ∃ P : ByteArray × ByteArray → Bool, (fun x => !hasS ns x.1) = P := ⟨_, rfl⟩
  rw [hP]
  have HP := Lib.hid (fun x => congrFun hP x)
  clear hP
  go_enter Try.func64, Try.ntmps64
  go_wp2_with (at_make; refine wpList_make_own _ rfl _ _ 26 rfl w.heap.size 53 i0 (.agg #[.string ⟨#[]⟩, .string ⟨#[]⟩]) 2 Try.underlying26 hi0 hz0 hz1 _ _ _ n rfl rfl rfl (by rw [hz2]; omega) (by unfold maxLen; omega) (by simp) ?_)
  intro w2 hown2 hgr2
  have HO2 := Lib.hid hown2
  have HB2 := Lib.hid ((Below.refl w.heap.size w).grown hgr2 (by simp) (by simp))
  clear hown2 hgr2
  go_wp2_with fail
  go_loopg [13, 5] n (fun g x13 x5 wr => ∃ (k : Nat) (A : Option Addr) (m c2 : Nat), k + g = n ∧ x13 = .int .i64 k ∧ x5 = .slice A m c2 ∧ ((l.take k).filter P).length = m ∧ wr.ownsRow w.heap.size 53 2 (.slice A m c2) m (lbls ((l.take k).filter P)) ∧ Below w.heap.size w wr)
  case atStart => exact ⟨0, _, 0, n, by omega, rfl, rfl, rfl, HO2.out, HB2.out⟩
  case round =>
    obtain ⟨k, A, m, c2, hkg, rfl, rfl, hml, hown, hbel⟩ := hrel
    have HO := Lib.hid hown; have HB0 := Lib.hid hbel; have HML := Lib.hid hml
    have hws := hbel.size
    clear hown hbel hml HO2 HB2
    cases gk with
    | zero =>
      obtain rfl : k = n := by omega
      have HE := Lib.hid (show (l.take k).filter P = l.filter P by rw [List.take_of_length_le (by rw [HL.out]; exact Nat.le_refl _)])
      obtain ⟨A', c', h1, h2, h3⟩ := own_slice HO.out
      injection h1 with h1 h4 h5; subst h1; subst h5
      go_wp2_with fail
      go_ret
      exact ownAns (A := A) (c := c2) (by rw [← HE.out, HML.out]; exact HO.out) HB0.out (by rw [← HE.out, HML.out]; rfl) (by rw [← HE.out, HML.out]; exact h2) h3
    | succ g =>
      have hlt : k < n := by omega
      obtain ⟨ad, hkl, rfl, c0, c1⟩ := (H.out.below (HB0.out.mono hB)).lbl hlt
      have hal := World.block_lt_of_cell? wr _ c0
      have HTK := Lib.hid (List.take_succ_eq_append_getElem hkl)
      have HPX := Lib.hid (HP.out l[k])
      generalize l[k] = p at *
      obtain ⟨a, b⟩ := p
      simp only at c0 c1
      have HC := Lib.hid (fun W (hW : Sees W BN 1 AN nn (strs ns)) => contains_str AN nn cn BN ns a W hW hnn)
      obtain ⟨q, hq⟩ : ∃ q, hasS ns a = q := ⟨_, rfl⟩
      have HPX : Hid (P (a, b) = !q) := Lib.hid (by rw [← HPX.out, ← hq])
      rw [hq] at HC
      clear hq
      cases q with
      | true =>
        go_wp2_with fail
        refine (HC.out _ (HN.out.below ((HB0.out.alloc hws (.cells #[.string a, .string b] 53)).mono hBN))).mono ?_; rintro e w' ⟨rfl, rfl⟩
        have HNX : Hid ((l.take (k + 1)).filter P = (l.take k).filter P) := Lib.hid (by rw [HTK.out, List.filter_append, List.filter_cons, if_neg (by rw [HPX.out]; decide)]; simp)
        have HB3 := Lib.hid (HB0.out.alloc hws (.cells #[.string a, .string b] 53))
        have HO3 := Lib.hid (HO.out.alloc (.cells #[.string a, .string b] 53))
        clear HO HB0
        go_wp2_with fail
        go_roundg g
        case measure => omega
        case rel => exact ⟨k + 1, A, m, c2, by omega, by go_num, rfl, by rw [HNX.out]; exact HML.out, by rw [HNX.out]; exact HO3.out, HB3.out⟩
      | false =>
        go_wp2_with fail
        refine (HC.out _ (HN.out.below ((HB0.out.alloc hws (.cells #[.string a, .string b] 53)).mono hBN))).mono ?_; rintro e w' ⟨rfl, rfl⟩
        have HNX : Hid ((l.take (k + 1)).filter P = (l.take k).filter P ++ [(a, b)]) := Lib.hid (by rw [HTK.out, List.filter_append, List.filter_cons, if_pos (show P (a, b) = true from HPX.out)]; rfl)
        obtain ⟨W, hW⟩ : ∃ W, wr.alloc (.cells #[.string a, .string b] 53) = W := ⟨_, rfl⟩
        have HKW : Hid (Blk W wr.heap.size 53 [.string a, .string b]) := Lib.hid (by rw [← hW]; exact Blk.mk (heap_alloc_new wr _))
        have HOW : Hid (W.ownsRow w.heap.size 53 2 (.slice A m c2) m (lbls ((l.take k).filter P))) := Lib.hid (by rw [← hW]; exact HO.out.alloc _)
        have HBW : Hid (Below w.heap.size w W) := Lib.hid (by rw [← hW]; exact HB0.out.alloc hws _)
        have hWs := HBW.out.size
        go_upto_region 6 with fail
        try rw [hW]
        clear hW HO HB0
        have c0 := HKW.out.cell 0
        have c1 := HKW.out.cell 1
        simp only [List.getElem?_cons_zero, List.getElem?_cons_succ] at c0 c1
        have HX := Lib.hid (show Sees (W.alloc (.cells #[.string a, .string b] 53)) (W.alloc (.cells #[.string a, .string b] 53)).heap.size 2 (some ⟨W.heap.size, 0, none⟩) 1 (lbls [(a, b)]) from (Blk.mk (heap_alloc_new W _) : Blk _ W.heap.size 53 [.string a, .string b]).sees rfl (List.prefix_refl _))
        have HOA := Lib.hid (HOW.out.alloc (.cells #[.string a, .string b] 53))
        have HBA := Lib.hid (HBW.out.alloc hWs (.cells #[.string a, .string b] 53))
        have hbx : ∀ g, (Value.slice A m c2).ownBlock = some g → w.heap.size ≤ g := fun g hg => (HOW.out.lt g hg).1
        have HBX := Lib.hid hbx
        have hml : m ≤ 1000000 := by have h := HML.out; have h2 := List.length_filter_le P (l.take k); have h3 : (l.take k).length ≤ k := List.length_take_le _ _; omega
        clear HOW HBW HKW hbx
        go_wp2_with (at_builtin; refine wpList_append_at rfl (.tmp 22) (.tmp 24) 26 rfl w.heap.size 53 i0 (.agg #[.string ⟨#[]⟩, .string ⟨#[]⟩]) 2 32 Try.underlying26 hi0 hz0 hz1 hz2 rfl (by decide) _ m (lbls ((l.take k).filter P)) rfl HOA.out _ _ 1 1 (lbls [(a, b)]) rfl HX.out (lbls_one _) (by unfold maxLen; omega) (by omega) (by simp; omega) ?_)
        intro v3 w3 hown3 hgr3 hwh3
        obtain ⟨A3, c3, rfl, hc3, hc4⟩ := own_slice hown3
        rw [← lbls_append, ← HNX.out] at hown3
        have HO3 := Lib.hid hown3
        have HB3 := Lib.hid (HBA.out.grown hgr3 (by simp; omega) HBX.out)
        have HML3 : Hid (((l.take (k + 1)).filter P).length = m + 1) := Lib.hid (by rw [HNX.out, List.length_append, HML.out]; rfl)
        clear hown3 hgr3 hwh3 HOA HX HBA HBX HNX
        go_wp2_with fail
        go_roundg g
        case measure => omega
        case rel => exact ⟨k + 1, A3, m + 1, c3, by omega, by go_num, rfl, HML3.out, HO3.out, HB3.out⟩
end Go.Proofs.Ytbndmmfpoljeaaa

namespace Go.Proofs.Ytbndmmfpoljeaaa
open Go.ChangeShapes Go.WideShapes Go.ChangeAt Go.RowKit
set_option linter.unusedVariables false
set_option maxRecDepth 100000
/-- A set with a label behind all that were kept. -/
def withEnd (l : List (ByteArray × ByteArray)) (name value : ByteArray) : List (ByteArray × ByteArray) := (l.filter fun x => !hasS [name] x.1) ++ [(name, value)]
end Go.Proofs.Ytbndmmfpoljeaaa

namespace Go.Proofs.Ytbndmmfpoljeaaa
open Go.ChangeShapes Go.WideShapes Go.ChangeAt Go.RowKit
set_option linter.unusedVariables false
set_option maxRecDepth 100000
theorem run_copy_n {P : Program} (w : World) (dT sT ty elem : TypeId) (sz : Nat) (g o dLen dCap : Nat) (a : Addr) (sLen sCap : Nat) (cur : Array Value) (t : TypeId) (cs : List Value)
    (hu : P.underlying dT = some (.slice elem)) (hs : (P.info? elem).map (·.size) = some sz)
    (hg : w.heap[g]? = some (.cells cur t (0, 0))) (hn : cs.length = Nat.min sLen dLen * sz)
    (hsrc : ∀ j v, cs[j]? = some v → w.cell? (a.add j) = some v) (hfit : o + cs.length ≤ cur.size) (h1 : ∀ v ∈ cs, v.oneCell' = true) :
    (Builtin.copy_ #[dT, sT] ty #[.slice (some ⟨g, o, none⟩) dLen dCap, .slice (some a) sLen sCap]).run P w =
      .ok (goInt (Nat.min sLen dLen)) (w.setRow g (cur.toList.take o ++ cs ++ cur.toList.drop (o + cs.length)).toArray) := by
  have hl := run_loadCells_list (P := P) w a cs hsrc
  have hst := run_storeCells_at P g o t cs 0 cur w hg (by simpa using hfit) h1
  cases hq : P.info? elem with
  | none => simp [hq] at hs
  | some i =>
    have hi : i.size = sz := by simpa [hq] using hs
    simp [Builtin.copy_, run_underlying hu, Builtin.lenOf, Builtin.firstCells, sizeOf, typeInfo, hq, hi, ← hn, hl, hst]
theorem run_copy_n_none {P : Program} (w : World) (dT sT ty elem : TypeId) (sz : Nat) (d a : Option Addr) (dLen dCap sLen sCap : Nat) (hu : P.underlying dT = some (.slice elem)) (hs : (P.info? elem).map (·.size) = some sz) (hn : Nat.min sLen dLen = 0) :
    (Builtin.copy_ #[dT, sT] ty #[.slice d dLen dCap, .slice a sLen sCap]).run P w = .ok (goInt 0) w := by
  cases hq : P.info? elem with
  | none => simp [hq] at hs
  | some i =>
    have hl : ∀ (x : Addr), (loadCells x 0).run P w = .ok #[] w := fun x => by simpa using run_loadCells_list (P := P) w x [] (by simp)
    cases d <;> cases a <;> simp [Builtin.copy_, run_underlying hu, Builtin.lenOf, Builtin.firstCells, sizeOf, typeInfo, hq, hn, storeCells, hl]
/-- A copy to the beginning of a block. -/
theorem wpList_copy_n {P : Program} {w : World} {ops : Array Oper} {rest : List Oper} {o : Oper} {a : Act} {Q : Exit → Act → World → Prop} (hgd : o.guard = none) (d s : Operand) (dT sT : TypeId)
    (ho : o.op = .call { callee := .builtin .copy, args := #[d, s], argTypes := #[dT, sT] }) (elem : TypeId) (sz : Nat) (hu : P.underlying dT = some (.slice elem)) (hsz : (P.info? elem).map (·.size) = some sz)
    (g dLen dCap : Nat) (sp : Option Addr) (sLen sCap : Nat) (hd : a.eval d = .slice (some ⟨g, 0, none⟩) dLen dCap) (hs : a.eval s = .slice sp sLen sCap) (hle : sLen ≤ dLen)
    (cur : List Value) (t : TypeId) (hg : Blk w g t cur) (cs : List Value) (B : Nat) (hS : Sees w B sz sp sLen cs) (hfit : cs.length ≤ cur.length) (h1 : ∀ v ∈ cs, v.oneCell' = true)
    (h : ∀ w', Blk w' g t (cs ++ cur.drop cs.length) → (∀ k, k ≠ g → w'.heap[k]? = w.heap[k]?) → w'.heap.size = w.heap.size → w'.os = w.os → w'.tape = w.tape → w'.output = w.output → wpList P ops Q rest (a.put o.dst (goInt sLen)) w') :
    wpList P ops Q (o :: rest) a w := by
  have hmin : Nat.min sLen dLen = sLen := Nat.min_eq_left hle
  refine wpList_plain hgd fun K hK => ?_
  rcases Nat.eq_zero_or_pos sLen with h0 | h0
  · subst h0
    have hcs : cs = [] := List.eq_nil_of_length_eq_zero (by have := hS.len; omega)
    subst hcs
    have hrun := run_copy_n_none (P := P) w dT sT o.type elem sz (some ⟨g, 0, none⟩) sp dLen dCap 0 sCap hu hsz hmin
    unfold Oper.wp
    simp [execOp, ho, resolve, invoke, builtin, hd, hs, hrun, Result.andThen]
    exact hK _ _ (h w (by simpa using hg) (fun _ _ => rfl) rfl rfl rfl rfl)
  · obtain ⟨ad, rfl, _, hsrc⟩ := hS.at_ h0
    have hrun := run_copy_n (P := P) w dT sT o.type elem sz g 0 dLen dCap ad sLen sCap cur.toArray t cs hu hsz hg (by rw [hmin]; exact hS.len) hsrc (by simpa using hfit) h1
    rw [hmin] at hrun
    unfold Oper.wp
    simp [execOp, ho, resolve, invoke, builtin, hd, hs, hrun, Result.andThen]
    refine hK _ _ (h _ ?_ (fun k hk => setRow_other w g k _ hk) (by simp [World.setRow]) rfl rfl rfl)
    have := setRow_heap w g cur.toArray (cs ++ cur.drop cs.length).toArray t (0, 0) hg
    exact Blk.mk (by simpa using this)
end Go.Proofs.Ytbndmmfpoljeaaa

namespace Go.Proofs.Ytbndmmfpoljeaaa
open Go.ChangeShapes Go.WideShapes Go.ChangeAt Go.RowKit
set_option linter.unusedVariables false
set_option maxRecDepth 100000
/-- A copy whose run is known, as one step of a region that draws. -/
theorem step_copy_known {P : Program} {ops : Array Oper} {o : Oper} {a : Act} {w : World} {K : Act → World → Prop} {Q : Exit → Act → World → Prop} {E : Prop}
    (hg : o.guard = none) (d x : Operand) (dT sT : TypeId) (hop : o.op = Op.call { callee := Callee.builtin Builtin.copy, args := #[d, x], argTypes := #[dT, sT] })
    (v u : Value) (hd : a.eval d = v) (hx : a.eval x = u) (v' : Value) (w' : World) (hr : (Builtin.copy_ #[dT, sT] o.type #[v, u]).run P w = .ok v' w') (hK : K (a.put o.dst v') w') :
    if Region.wanted o (yielded ops a.tmps) = true then Oper.wp P o a w K Q else E := by
  have hw : Region.wanted o (yielded ops a.tmps) = true := by simp [Region.wanted, hg]
  rw [if_pos hw]
  unfold Oper.wp
  simp [execOp, hop, resolve, invoke, builtin, hd, hx, hr, Result.andThen]
  exact hK
theorem wpList_copy_known {P : Program} {w : World} {ops : Array Oper} {rest : List Oper} {o : Oper} {a : Act} {Q : Exit → Act → World → Prop} (hgd : o.guard = none) (d s : Operand) (dT sT : TypeId)
    (ho : o.op = .call { callee := .builtin .copy, args := #[d, s], argTypes := #[dT, sT] }) (v u : Value) (hd : a.eval d = v) (hs : a.eval s = u) (v' : Value) (w' : World)
    (hr : (Builtin.copy_ #[dT, sT] o.type #[v, u]).run P w = .ok v' w') (h : wpList P ops Q rest (a.put o.dst v') w') : wpList P ops Q (o :: rest) a w := by
  refine wpList_plain hgd fun K hK => ?_
  unfold Oper.wp
  simp [execOp, ho, resolve, invoke, builtin, hd, hs, hr, Result.andThen]
  exact hK _ _ h
theorem infoSize : (Try.prog.info? 53).map (·.size) = some 2 := by kernel_rfl
end Go.Proofs.Ytbndmmfpoljeaaa

namespace Go.Proofs.Ytbndmmfpoljeaaa
open Go.ChangeShapes Go.WideShapes Go.ChangeAt Go.RowKit
set_option linter.unusedVariables false
set_option maxRecDepth 100000
theorem own_form2 {w : World} {base : Nat} {e : TypeId} {n c s : Nat} {A : Option Addr} {xs : List Value} (h : w.ownsRow base e s (.slice A n c) n xs) (hn : 0 < n) (hs : 0 < s) : ∃ g cur, A = some ⟨g, 0, none⟩ ∧ base ≤ g ∧ Blk w g e cur ∧ n ≤ c ∧ c ≤ maxLen ∧ cur.length = c * s ∧ cur.take (n * s) = xs := by
  rcases h.2 with ⟨h1, h2⟩ | ⟨g, cap, cur, hv, hb, hg, hnc, hcm, hcs, ht⟩
  · injection h1 with _ h1; omega
  · injection hv with h1 h2 h3
    subst h3
    exact ⟨g, cur.toList, h1, hb, Blk.mk (by simpa using hg), hnc, hcm, by simpa using hcs, ht⟩
/-- What With makes. -/
def keptL (l : List (ByteArray × ByteArray)) (name : ByteArray) : List (ByteArray × ByteArray) := l.filter fun x => !hasS [name] x.1
def lessB (name : ByteArray) (y : ByteArray × ByteArray) : Bool := Op.bytesLess y.1.toList name.toList
def putL (k : List (ByteArray × ByteArray)) (x : ByteArray × ByteArray) : List (ByteArray × ByteArray) := k.takeWhile (lessB x.1) ++ x :: k.dropWhile (lessB x.1)
def withL (l : List (ByteArray × ByteArray)) (name value : ByteArray) : List (ByteArray × ByteArray) := if value.toList = [] then keptL l name else putL (keptL l name) (name, value)
theorem takeWhile_at {p : ByteArray × ByteArray → Bool} : ∀ {k : List (ByteArray × ByteArray)} {i : Nat}, (∀ j (h : j < k.length), j < i → p k[j] = true) → (∀ h : i < k.length, p k[i] = false) → i ≤ k.length → k.takeWhile p = k.take i ∧ k.dropWhile p = k.drop i
  | [], i, _, _, hi => by
    have : i = 0 := by simpa using hi
    subst this; simp
  | x :: k, 0, _, h2, _ => by
    have := h2 (by simp)
    simp only [List.getElem_cons_zero] at this
    simp [this]
  | x :: k, i + 1, h1, h2, hi => by
    have h0 := h1 0 (by simp) (by omega)
    simp only [List.getElem_cons_zero] at h0
    obtain ⟨e1, e2⟩ := takeWhile_at (p := p) (k := k) (i := i) (fun j h hj => by have := h1 (j + 1) (by simp; omega) (by omega); simpa using this) (fun h => by have := h2 (by simp; omega); simpa using this) (by simpa using hi)
    simp [h0, e1, e2]
end Go.Proofs.Ytbndmmfpoljeaaa

namespace Go.Proofs.Ytbndmmfpoljeaaa
open Go.ChangeShapes Go.WideShapes Go.ChangeAt Go.RowKit
set_option linter.unusedVariables false

/-- A number brought into lo .. hi. -/
def nWithin (n lo hi : Int) : Int := lo + n % (hi - lo + 1)
theorem nWithin_in (n : Int) {lo hi : Int} (h : lo ≤ hi) : lo ≤ nWithin n lo hi ∧ nWithin n lo hi ≤ hi := by
  unfold nWithin
  have h1 := Int.emod_nonneg n (show hi - lo + 1 ≠ 0 by omega)
  have h2 := Int.emod_lt_of_pos n (show 0 < hi - lo + 1 by omega)
  omega
theorem tmod_parts {n d : Int} (hd : 0 < d) : (n.tmod d = n % d ∨ n.tmod d = n % d - d ∧ 0 < n % d) ∧ 0 ≤ n % d ∧ n % d < d := by
  have h1 : n.tmod d = n % d - _ := Int.tmod_eq_emod
  have h2 := Int.emod_nonneg n (show d ≠ 0 by omega)
  have h3 := Int.emod_lt_of_pos n hd
  refine ⟨?_, h2, h3⟩
  split at h1
  · exact .inl (by simpa using h1)
  · rename_i hc
    refine .inr ⟨by omega, ?_⟩
    have : n % d ≠ 0 := fun h => hc (.inr (Int.dvd_of_emod_eq_zero h))
    omega
theorem tmod_neg {n d : Int} (hd : 0 < d) (h : n.tmod d < 0) : n % d = n.tmod d + d := by
  have := tmod_parts (n := n) hd; omega
theorem tmod_pos {n d : Int} (hd : 0 < d) (h : ¬ n.tmod d < 0) : n % d = n.tmod d := by
  have := tmod_parts (n := n) hd; omega
theorem within_any (n lo hi : Int) (w : World) (wn : I64 n) (h1 : -4611686018427387904 ≤ lo) (h2 : lo ≤ hi) (h3 : hi ≤ 4611686018427387000) :
    Calls Try.prog 15 #[.int .i64 n, .int .i64 lo, .int .i64 hi] w fun e w' => e = .returned (.int .i64 (nWithin n lo hi)) ∧ w = w' := by
  have hd : 0 < hi - lo + 1 := by omega
  have hz : ¬ hi - lo + 1 = 0 := by omega
  have hb : -(hi - lo + 1) < n.tmod (hi - lo + 1) ∧ n.tmod (hi - lo + 1) < hi - lo + 1 := by
    have := tmod_parts (n := n) hd
    omega
  by_cases hm : n.tmod (hi - lo + 1) < 0
  · have HW := Lib.hid (show lo + (n.tmod (hi - lo + 1) + hi - lo + 1) = nWithin n lo hi by unfold nWithin; rw [tmod_neg hd hm]; omega)
    clear wn
    go_enter Try.func15, Try.ntmps15
    go_wp2
    go_ret
    exact ⟨ret_int HW.out, rfl⟩
  · have HW := Lib.hid (show lo + n.tmod (hi - lo + 1) = nWithin n lo hi by unfold nWithin; rw [tmod_pos hd hm])
    clear wn
    go_enter Try.func15, Try.ntmps15
    go_wp2
    go_ret
    exact ⟨ret_int HW.out, rfl⟩
end Go.Proofs.Ytbndmmfpoljeaaa

namespace Go.Proofs.Ytbndmmfpoljeaaa
open Go.ChangeShapes Go.WideShapes Go.ChangeAt Go.RowKit Go.Deep
set_option linter.unusedVariables false
/-- klaxonkeep's names and values. -/
def keepNames : List ByteArray := [⟨#[97]⟩, ⟨#[98]⟩, ⟨#[99]⟩, ⟨#[110, 97, 109, 101]⟩]
def keepValues : List ByteArray := [⟨#[120]⟩, ⟨#[121]⟩, ⟨#[120, 121]⟩, ⟨#[49]⟩, ⟨#[34]⟩, ⟨#[92]⟩, ⟨#[123, 125]⟩, ⟨#[122, 32, 122]⟩]
/-- A number of a row, round and round. -/
def pickF (l : List Int) (i : Nat) : Int := if h : 0 < l.length then l[i % l.length]'(Nat.mod_lt _ h) else 0
/-- Numbers of which a set is made. -/
structure KSet where
  A : Option Addr
  n : Nat
  c : Nat
  has : List Int
  A2 : Option Addr
  n2 : Nat
  c2 : Nat
  vals : List Int
def KSet.val (k : KSet) : Value := .agg #[.slice k.A k.n k.c, .slice k.A2 k.n2 k.c2]
structure KSet.ok (k : KSet) (B : Nat) (w : World) : Prop where
  has_ : Sees w B 1 k.A k.n (ints k.has)
  hasI : ∀ z ∈ k.has, I64 z
  n_ : k.n ≤ k.c ∧ k.c ≤ 9223372036854775807
  vals_ : Sees w B 1 k.A2 k.n2 (ints k.vals)
  valsI : ∀ z ∈ k.vals, I64 z
  n2_ : k.n2 ≤ k.c2 ∧ k.c2 ≤ 9223372036854775807
theorem KSet.ok.below {k : KSet} {B : Nat} {w w' : World} (h : k.ok B w) (hb : Below B w w') : k.ok B w' := ⟨h.has_.below hb, h.hasI, h.n_, h.vals_.below hb, h.valsI, h.n2_⟩
section
variable {P : Program} {w : World} {base b0 : Nat} {spare : Nat → Bool} {held : Bool} {H : Type} {enc : TypeId × Value → H}
theorem arg_ints_cs {t e : TypeId} {fuel : Nat} {v : Value} {x : DataW H × List MemPlace} (ht : P.underlying t = some (.slice e)) (he : P.underlying e = some (.int .i64)) (hc : P.cellsOf e = 1)
    (h : DataW.trod enc P w base spare held fuel t [v] = some x) :
    ∃ (a0 : Option Addr) (len cap : Nat) (zs : List Int), v = .slice a0 len cap ∧ Sees w w.heap.size 1 a0 len (ints zs) ∧ len ≤ cap ∧ cap ≤ 9223372036854775807 ∧ ∀ z ∈ zs, I64 z := by
  have key : ∀ a0 len cap, v = .slice a0 len cap → ∃ zs : List Int, Sees w w.heap.size 1 a0 len (ints zs) ∧ len ≤ cap ∧ cap ≤ 9223372036854775807 ∧ ∀ z ∈ zs, I64 z := by
    intro a0 len cap hv
    subst hv
    obtain ⟨zs, h1, h2, h3, h4⟩ := arg_ints ht he hc (a0 := a0) (len := len) (cap := cap) (by simpa [Value.cells] using h)
    exact ⟨zs, h1, h2, h3, fun z hz => wf_of (h4 z hz)⟩
  rcases open_ints ht he hc h with ⟨hcs, _⟩ | ⟨x, l, c, zs, hcs, _⟩
  · simp only [List.cons.injEq, and_true] at hcs
    obtain ⟨zs, hz⟩ := key _ _ _ hcs
    exact ⟨_, _, _, zs, hcs, hz⟩
  · simp only [List.cons.injEq, and_true] at hcs
    obtain ⟨zs, hz⟩ := key _ _ _ hcs
    exact ⟨_, _, _, zs, hcs, hz⟩
theorem arg_set {r : Reach} {t te : TypeId} {f0 f1 : Field} {v : Value} {d : DataW H} {p : List MemPlace} (hs : P.underlying t = some (.struct #[f0, f1])) (hone : oneCellFields P #[f0, f1] = true) (hC : P.cellsOf t = 2)
    (u0 : P.underlying f0.type = some (.slice te)) (u1 : P.underlying f1.type = some (.slice te)) (he : P.underlying te = some (.int .i64)) (ce : P.cellsOf te = 1)
    (hv : Value.okWide P w r b0 t v) (h : DataW.Trod enc P w base spare held t v d p) : ∃ k : KSet, v = k.val ∧ k.ok w.heap.size w := by
  obtain ⟨c0, c1, y0, y1, m, rfl, _, _, h0, h1⟩ := Go.Joins.open_agg2 hs hone hC hv h
  obtain ⟨a0, n0, cp0, z0, rfl, s0, l0, m0, i0⟩ := arg_ints_cs u0 he ce h0
  obtain ⟨a1, n1, cp1, z1, rfl, s1, l1, m1, i1⟩ := arg_ints_cs u1 he ce h1
  exact ⟨⟨a0, n0, cp0, z0, a1, n1, cp1, z1⟩, rfl, ⟨s0, i0, ⟨l0, m0⟩, s1, i1, ⟨l1, m1⟩⟩⟩
end
end Go.Proofs.Ytbndmmfpoljeaaa

namespace Go.Proofs.Ytbndmmfpoljeaaa
open Go.ChangeShapes Go.WideShapes Go.ChangeAt Go.RowKit
set_option linter.unusedVariables false
set_option maxRecDepth 100000
theorem names_any (w : World) : Calls Try.prog 27 #[] w fun e w' => e = .returned (.slice (some ⟨w.heap.size, 0, none⟩) 4 4) ∧ w.alloc (.cells (strs keepNames).toArray 9) = w' := by
  go_enter Try.func27, Try.ntmps27
  go_wp2_with fail
  go_ret
  exact ⟨rfl, rfl⟩
theorem values_any (w : World) : Calls Try.prog 71 #[] w fun e w' => e = .returned (.slice (some ⟨w.heap.size, 0, none⟩) 8 8) ∧ w.alloc (.cells (strs keepValues).toArray 9) = w' := by
  go_enter Try.func71, Try.ntmps71
  go_wp2_with fail
  go_ret
  exact ⟨rfl, rfl⟩
theorem pick_any (A : Option Addr) (n c B : Nat) (l : List Int) (i : Nat) (w : World) (h : Sees w B 1 A n (ints l)) (hn : n ≤ 9223372036854775807) (hi : i ≤ 9223372036854775807) :
    Calls Try.prog 42 #[.slice A n c, .int .i64 i] w fun e w' => e = .returned (.int .i64 (pickF l i)) ∧ w = w' := by
  have hl := h.int_len
  by_cases h0 : 0 < n
  · have hm := Nat.mod_lt i h0
    obtain ⟨ad, hkl, rfl, hc⟩ := h.int hm
    have hp : pickF l i = l[i % n] := by rw [pickF, dif_pos (by omega)]; simp only [hl]
    have HP := Lib.hid hp
    have z1 : ¬ (n : Int) = 0 := by omega
    have z2 : ((n : Int) == 0) = false := by rw [beq_eq_false_iff_ne]; omega
    have z3 : (i : Int).tmod n = ((i % n : Nat) : Int) := rfl
    generalize l[i % n] = x at *
    generalize i % n = k at *
    clear hp h hl h0
    go_enter Try.func42, Try.ntmps42
    go_wp2_with fail
    go_ret
    exact ⟨ret_int HP.out.symm, rfl⟩
  · obtain rfl : n = 0 := by omega
    have hp : pickF l i = 0 := by rw [pickF, dif_neg (by omega)]
    have HP := Lib.hid hp
    clear hp h hl h0
    go_enter Try.func42, Try.ntmps42
    go_wp2_with fail
    go_ret
    exact ⟨ret_int HP.out.symm, rfl⟩
end Go.Proofs.Ytbndmmfpoljeaaa

namespace Go.Proofs.Ytbndmmfpoljeaaa
open Go.ChangeShapes Go.WideShapes Go.ChangeAt Go.RowKit
set_option linter.unusedVariables false
set_option maxRecDepth 100000
/-- The label that a set has of the i'th name, if any. -/
def lowBit (x : Int) : Bool := bits BinOp.and IntKind.i64 x 1 == 1
def keepBit (has : List Int) (i : Nat) : Bool := if h : i < has.length then lowBit has[i] else false
def setStep (k : KSet) (i : Nat) : List (ByteArray × ByteArray) := if keepBit k.has i then [(keepNames.getD i ⟨#[]⟩, keepValues.getD (nWithin (pickF k.vals i) 0 7).toNat ⟨#[]⟩)] else []
def setUp (k : KSet) : Nat → List (ByteArray × ByteArray)
  | 0 => []
  | m + 1 => setUp k m ++ setStep k m
/-- The set of numbers. -/
def setF (k : KSet) : List (ByteArray × ByteArray) := setUp k 3
/-- What a set is made of, in memory. -/
structure SetAt (k : KSet) (B : Nat) (bk bv bn : Nat) (w : World) : Prop where
  ok : k.ok B w
  box : Blk w bk 73 [.slice k.A k.n k.c, .slice k.A2 k.n2 k.c2]
  vals : Blk w bv 9 (strs keepValues)
  names : Blk w bn 9 (strs keepNames)
theorem SetAt.below {k : KSet} {B bk bv bn : Nat} {w w' : World} (h : SetAt k B bk bv bn w) (hb : Below w.heap.size w w') (hB : B ≤ w.heap.size) : SetAt k B bk bv bn w' :=
  ⟨h.ok.below (hb.mono hB), h.box.below hb h.box.lt, h.vals.below hb h.vals.lt, h.names.below hb h.names.lt⟩
set_option maxHeartbeats 4000000 in
theorem keepset_any (k : KSet) (B : Nat) (w : World) (h : k.ok B w) (hB : B ≤ w.heap.size) :
    Calls Try.prog 41 #[k.val] w (OwnAns 53 2 (setF k).length (lbls (setF k)) w) := by
  obtain ⟨i0, hi0, hz0, hz1, hz2⟩ := info_parts Try.infoLabel
  have H := Lib.hid h
  have hn := h.n_
  have hn2 := h.n2_
  clear h
  show Calls _ _ #[.agg #[.slice k.A k.n k.c, .slice k.A2 k.n2 k.c2]] _ _
  go_enter Try.func41, Try.ntmps41
  go_wp2_with fail
  refine (values_any _).mono ?_; rintro e w1 ⟨rfl, hw1⟩
  have HW1 := Lib.hid hw1; clear hw1
  go_wp2_with fail
  refine (names_any _).mono ?_; rintro e w2 ⟨rfl, hw2⟩
  have HW2 := Lib.hid hw2; clear hw2
  have HB2 : Hid (Below w.heap.size w w2) := Lib.hid (by
    rw [← HW2.out, ← HW1.out]
    exact (((Below.refl _ _).alloc (Nat.le_refl _) _).alloc (by simp) _).alloc (by simp; omega) _)
  have HA : Hid (SetAt k B w.heap.size (w.heap.size + 1) w1.heap.size w2) := Lib.hid (by
    have hb1 : Below w.heap.size w w2 := HB2.out
    refine ⟨H.out.below (hb1.mono hB), ?_, ?_, ?_⟩
    · rw [← HW2.out, ← HW1.out]
      exact ((Blk.mk (heap_alloc_new w _)).alloc _).alloc _
    · rw [← HW2.out, ← HW1.out]
      have h : Blk ((w.alloc (.cells #[.slice k.A k.n k.c, .slice k.A2 k.n2 k.c2] 73)).alloc (.cells (strs keepValues).toArray 9)) (w.alloc (.cells #[.slice k.A k.n k.c, .slice k.A2 k.n2 k.c2] 73)).heap.size 9 (strs keepValues) := Blk.mk (heap_alloc_new _ _)
      rw [show (w.alloc (.cells #[.slice k.A k.n k.c, .slice k.A2 k.n2 k.c2] 73)).heap.size = w.heap.size + 1 by simp] at h
      exact h.alloc _
    · rw [← HW2.out]
      exact Blk.mk (heap_alloc_new w1 _))
  have hsw := HB2.out.size
  have hs1 : w1.heap.size + 1 = w2.heap.size := by rw [← HW2.out]; simp
  clear HW1 HW2 H
  obtain ⟨bk, hbk⟩ : ∃ bk, w.heap.size = bk := ⟨_, rfl⟩
  obtain ⟨bv, hbv⟩ : ∃ bv, w.heap.size + 1 = bv := ⟨_, rfl⟩
  obtain ⟨bn, hbn⟩ : ∃ bn, w1.heap.size = bn := ⟨_, rfl⟩
  rw [hbv, hbn] at HA
  rw [hbv, hbn]
  rw [show (⟨w.heap.size, 0, none⟩ : Addr) = ⟨bk, 0, none⟩ by rw [hbk], hbk] at *
  have hB2 : B ≤ w2.heap.size := by omega
  clear hbv hbn hbk hs1
  go_wp2_with fail
  go_loopg [11, 3] 3 (fun g x11 x3 wr => ∃ (m : Nat) (X : Option Addr) (cx : Nat), m + g = 3 ∧ x11 = .int .i64 m ∧ x3 = .slice X (setUp k m).length cx ∧ wr.ownsRow w2.heap.size 53 2 (.slice X (setUp k m).length cx) (setUp k m).length (lbls (setUp k m)) ∧ Below w2.heap.size w2 wr)
  case atStart => exact ⟨0, none, 0, rfl, rfl, rfl, own_nil _ _ _ _, Below.refl _ _⟩
  case round =>
    obtain ⟨m, X, cx, hmg, rfl, rfl, hown, hbel⟩ := hrel
    have HO := Lib.hid hown; have HBR := Lib.hid hbel
    have hws := hbel.size
    clear hown hbel
    cases gk with
    | zero =>
      obtain rfl : m = 3 := by omega
      obtain ⟨X', cx', h1, h2, h3⟩ := own_slice HO.out
      injection h1 with h1 h4 h5; subst h1; subst h5
      have HE := Lib.hid (show setUp k 3 = setF k from rfl)
      have HBZ := Lib.hid (HB2.out.trans (HBR.out.mono hsw))
      have HOZ := Lib.hid (own_mono HO.out hsw)
      rw [HE.out] at HOZ h2
      clear h4
      go_wp2_with fail
      go_ret
      exact ownAns HOZ.out HBZ.out rfl h2 h3
    | succ g =>
      have hm3 : m < 3 := by omega
      have HAR := Lib.hid (HA.out.below HBR.out hB2)
      obtain ⟨e0, e1⟩ : wr.cell? ⟨bk, 0, none⟩ = some (.slice k.A k.n k.c) ∧ wr.cell? ⟨bk, 1, none⟩ = some (.slice k.A2 k.n2 k.c2) := by
        have h0 := HAR.out.box.cell 0
        have h1 := HAR.out.box.cell 1
        exact ⟨by simpa using h0, by simpa using h1⟩
      have hnm : wr.cell? ⟨bn, m, none⟩ = some (.string (keepNames.getD m ⟨#[]⟩)) := by
        rw [HAR.out.names.cell m]
        match m, hm3 with
        | 0, _ => rfl
        | 1, _ => rfl
        | 2, _ => rfl
      by_cases hmn : m < k.n
      · obtain ⟨ad, hkl, hA, hc⟩ := HAR.out.ok.has_.int hmn
        rw [hA] at e0
        clear hA
        cases hbit : lowBit k.has[m] with
        | true =>
          have HBIT : Hid (keepBit k.has m = true) := Lib.hid (by rw [keepBit, dif_pos hkl]; exact hbit)
          have t1 : (bits BinOp.and IntKind.i64 k.has[m] 1 == 1) = true := hbit
          have HPK := Lib.hid (pick_any k.A2 k.n2 k.c2 B k.vals m wr HAR.out.ok.vals_ (by omega) (by omega))
          have hpi : I64 (pickF k.vals m) := by
            rw [pickF]
            split
            · exact HAR.out.ok.valsI _ (List.getElem_mem _)
            · unfold I64; omega
          have HST : Hid (setStep k m = [(keepNames.getD m ⟨#[]⟩, keepValues.getD (nWithin (pickF k.vals m) 0 7).toNat ⟨#[]⟩)]) := Lib.hid (by rw [setStep, HBIT.out]; rfl)
          generalize pickF k.vals m = pk at *
          have HWI := Lib.hid (within_any pk 0 7 wr hpi (by omega) (by omega) (by omega))
          obtain ⟨hw1, hw2⟩ := nWithin_in pk (lo := 0) (hi := 7) (by omega)
          generalize nWithin pk 0 7 = q at *
          obtain ⟨qn, rfl⟩ := Int.eq_ofNat_of_zero_le hw1
          have hq8 : qn < 8 := by omega
          simp only [Int.toNat_natCast] at HST
          have hvl : wr.cell? ⟨bv, qn, none⟩ = some (.string (keepValues.getD qn ⟨#[]⟩)) := by
            rw [HAR.out.vals.cell qn]
            match qn, hq8 with
            | 0, _ => rfl
            | 1, _ => rfl
            | 2, _ => rfl
            | 3, _ => rfl
            | 4, _ => rfl
            | 5, _ => rfl
            | 6, _ => rfl
            | 7, _ => rfl
          generalize keepValues.getD qn ⟨#[]⟩ = vb at *
          generalize keepNames.getD m ⟨#[]⟩ = va at *
          have HN := Lib.hid (show setUp k (m + 1) = setUp k m ++ [(va, vb)] by rw [setUp, HST.out])
          have hlm : (setUp k m).length ≤ 3 := by
            have h : ∀ j, (setUp k j).length ≤ j := by
              intro j
              induction j with
              | zero => simp [setUp]
              | succ j ih => rw [setUp, List.length_append]; have : (setStep k j).length ≤ 1 := (by unfold setStep; split <;> simp); omega
            have := h m; omega
          have HX := Lib.hid (show Sees (wr.alloc (.cells #[.string va, .string vb] 53)) (wr.alloc (.cells #[.string va, .string vb] 53)).heap.size 2 (some ⟨wr.heap.size, 0, none⟩) 1 (lbls [(va, vb)]) from (Blk.mk (heap_alloc_new wr _) : Blk _ wr.heap.size 53 [.string va, .string vb]).sees rfl (List.prefix_refl _))
          have HOA := Lib.hid (HO.out.alloc (.cells #[.string va, .string vb] 53))
          have HBA := Lib.hid (HBR.out.alloc hws (.cells #[.string va, .string vb] 53))
          have hbx : ∀ g, (Value.slice X (setUp k m).length cx).ownBlock = some g → w2.heap.size ≤ g := fun g hg => (HO.out.lt g hg).1
          have HBX := Lib.hid hbx
          have HLN := Lib.hid (show (setUp k (m + 1)).length = (setUp k m).length + 1 by rw [HN.out, List.length_append]; rfl)
          obtain ⟨new, hnew⟩ : ∃ new, setUp k (m + 1) = new := ⟨_, rfl⟩
          rw [hnew] at HN HLN
          have HNEW := Lib.hid hnew
          clear hnew
          generalize setUp k m = old at *
          clear HO HBR hbx hbit HBIT HST
          go_wp2_with fail
          refine HPK.out.mono ?_; rintro e w' ⟨rfl, rfl⟩
          go_wp2_with fail
          refine HWI.out.mono ?_; rintro e w' ⟨rfl, rfl⟩
          go_wp2_with (at_builtin; refine wpList_append_at rfl (.tmp 30) (.tmp 44) 26 rfl w2.heap.size 53 i0 (.agg #[.string ⟨#[]⟩, .string ⟨#[]⟩]) 2 32 Try.underlying26 hi0 hz0 hz1 hz2 rfl (by decide) (.slice X old.length cx) old.length (lbls old) rfl HOA.out _ _ 1 1 (lbls [(va, vb)]) rfl HX.out (lbls_one _) (by unfold maxLen; omega) (by omega) (by simp; omega) ?_)
          intro v3 w3 hown3 hgr3 hwh3
          obtain ⟨A3, c3, rfl, hc3, hc4⟩ := own_slice hown3
          rw [← lbls_append, ← HN.out] at hown3
          have HO3 := Lib.hid hown3
          have HB3 := Lib.hid (HBA.out.grown hgr3 (by simp; omega) HBX.out)
          clear hown3 hgr3 hwh3 HOA HX HBA HBX
          go_wp2_with fail
          go_roundg g
          case measure => omega
          case rel => exact ⟨m + 1, A3, c3, by omega, by go_num, by rw [HNEW.out, HLN.out], by rw [HNEW.out, HLN.out]; exact HO3.out, HB3.out⟩
        | false =>
          have HBIT : Hid (keepBit k.has m = false) := Lib.hid (by rw [keepBit, dif_pos hkl]; exact hbit)
          have t1 : (bits BinOp.and IntKind.i64 k.has[m] 1 == 1) = false := hbit
          clear hbit
          have HN := Lib.hid (show setUp k (m + 1) = setUp k m by rw [setUp, setStep, HBIT.out]; simp)
          go_wp2_with fail
          go_roundg g
          case measure => omega
          case rel => exact ⟨m + 1, X, cx, by omega, by go_num, by rw [HN.out], by rw [HN.out]; exact HO.out, HBR.out⟩
      · have hhl := HAR.out.ok.has_.int_len
        have HBIT : Hid (keepBit k.has m = false) := Lib.hid (by rw [keepBit, dif_neg (by omega)])
        clear hhl
        have HN := Lib.hid (show setUp k (m + 1) = setUp k m by rw [setUp, setStep, HBIT.out]; simp)
        go_wp2_with fail
        go_roundg g
        case measure => omega
        case rel => exact ⟨m + 1, X, cx, by omega, by go_num, by rw [HN.out], by rw [HN.out]; exact HO.out, HBR.out⟩
theorem setStep_mem {k : KSet} {i : Nat} {x : ByteArray × ByteArray} (h : x ∈ setStep k i) : x.1 = keepNames.getD i ⟨#[]⟩ ∧ ∃ q : Nat, q < 8 ∧ x.2 = keepValues.getD q ⟨#[]⟩ := by
  unfold setStep at h
  split at h
  · simp only [List.mem_singleton] at h
    subst h
    obtain ⟨h1, h2⟩ := nWithin_in (pickF k.vals i) (lo := 0) (hi := 7) (by omega)
    exact ⟨rfl, _, by omega, rfl⟩
  · cases h
theorem keepValue_ok {q : Nat} (h : q < 8) : 1 ≤ (keepValues.getD q ⟨#[]⟩).size ∧ (keepValues.getD q ⟨#[]⟩).size ≤ 24 := by
  match q, h with
  | 0, _ => decide
  | 1, _ => decide
  | 2, _ => decide
  | 3, _ => decide
  | 4, _ => decide
  | 5, _ => decide
  | 6, _ => decide
  | 7, _ => decide
theorem bytesLess_one (a b : UInt8) : Op.bytesLess (⟨#[a]⟩ : ByteArray).toList (⟨#[b]⟩ : ByteArray).toList = Op.bytesLess [a] [b] := by
  rw [ByteArray.toList_eq, ByteArray.toList_eq]
theorem less_lt {i j : Nat} (h : i < j) (hj : j < 3) : Op.bytesLess (keepNames.getD i ⟨#[]⟩).toList (keepNames.getD j ⟨#[]⟩).toList = true := by
  have hc : (i = 0 ∧ j = 1) ∨ (i = 0 ∧ j = 2) ∨ (i = 1 ∧ j = 2) := by omega
  rcases hc with ⟨rfl, rfl⟩ | ⟨rfl, rfl⟩ | ⟨rfl, rfl⟩
  · exact (bytesLess_one 97 98).trans (by decide)
  · exact (bytesLess_one 97 99).trans (by decide)
  · exact (bytesLess_one 98 99).trans (by decide)
theorem keepName_word {i : Nat} (h : i < 3) : wordF (keepNames.getD i ⟨#[]⟩) = true := by
  match i, h with
  | 0, _ => decide
  | 1, _ => decide
  | 2, _ => decide
/-- A row of labels of rising names is right. -/
theorem rightS_of {l : List (ByteArray × ByteArray)} (h6 : l.length ≤ 6) (hok : ∀ x ∈ l, lblOk x = true) (hp : l.Pairwise fun x y => Op.bytesLess x.1.toList y.1.toList = true) : rightS l = true := by
  have key : ∀ n, n ≤ l.length → rightK l n = true := by
    intro n
    induction n with
    | zero => intro _; rfl
    | succ n ih =>
      intro hn
      have h1 : lblOk (lblAt l n) = true := by rw [lblAt_get (by omega)]; exact hok _ (List.getElem_mem _)
      have h2 : riseAt l n = true := by
        cases n with
        | zero => rfl
        | succ n =>
          rw [riseAt_get (q := n) rfl (by omega)]
          exact List.pairwise_iff_getElem.1 hp n (n + 1) (by omega) (by omega) (by omega)
      unfold rightK
      rw [ih (by omega), h1, h2]; rfl
  exact rightS_yes h6 (key _ (Nat.le_refl _))
theorem setUp_right (k : KSet) : ∀ m, m ≤ 3 → (setUp k m).length ≤ m ∧ (∀ x ∈ setUp k m, lblOk x = true) ∧ (setUp k m).Pairwise (fun x y => Op.bytesLess x.1.toList y.1.toList = true) ∧ ∀ x ∈ setUp k m, ∃ i, i < m ∧ x.1 = keepNames.getD i ⟨#[]⟩
  | 0, _ => ⟨Nat.le_refl _, (fun x hx => by simp [setUp] at hx), List.Pairwise.nil, (fun x hx => by simp [setUp] at hx)⟩
  | m + 1, hm => by
    obtain ⟨h1, h2, h3, h4⟩ := setUp_right k m (by omega)
    have hs : (setStep k m).length ≤ 1 := by unfold setStep; split <;> simp
    have hp1 : (setStep k m).Pairwise (fun x y => Op.bytesLess x.1.toList y.1.toList = true) := by unfold setStep; split <;> simp
    refine ⟨by rw [setUp, List.length_append]; omega, fun x hx => ?_, ?_, fun x hx => ?_⟩
    · rw [setUp, List.mem_append] at hx
      rcases hx with hx | hx
      · exact h2 x hx
      · obtain ⟨e1, q, hq, e2⟩ := setStep_mem hx
        have := keepValue_ok hq
        rw [← e2] at this
        unfold lblOk
        rw [e1, keepName_word (by omega), decide_eq_true this.1, decide_eq_true this.2]; rfl
    · rw [setUp, List.pairwise_append]
      refine ⟨h3, hp1, fun x hx y hy => ?_⟩
      obtain ⟨i, hi, e1⟩ := h4 x hx
      obtain ⟨e2, _⟩ := setStep_mem hy
      rw [e1, e2]
      exact less_lt hi (by omega)
    · rw [setUp, List.mem_append] at hx
      rcases hx with hx | hx
      · obtain ⟨i, hi, e⟩ := h4 x hx
        exact ⟨i, by omega, e⟩
      · exact ⟨m, by omega, (setStep_mem hx).1⟩
theorem setF_right (k : KSet) : rightS (setF k) = true := by
  obtain ⟨h1, h2, h3, _⟩ := setUp_right k 3 (Nat.le_refl _)
  exact rightS_of (by show (setUp k 3).length ≤ 6; omega) h2 h3
theorem setF_len (k : KSet) : (setF k).length ≤ 3 := (setUp_right k 3 (Nat.le_refl _)).1
theorem setF_names (k : KSet) : ∀ x ∈ setF k, ∃ i, i < 3 ∧ x.1 = keepNames.getD i ⟨#[]⟩ := (setUp_right k 3 (Nat.le_refl _)).2.2.2
end Go.Proofs.Ytbndmmfpoljeaaa

namespace Go.Proofs.Ytbndmmfpoljeaaa
open Go.ChangeShapes Go.WideShapes Go.ChangeAt Go.RowKit
set_option linter.unusedVariables false
set_option maxRecDepth 100000
def lA : ByteArray × ByteArray := (⟨#[97]⟩, ⟨#[120]⟩)
def lB : ByteArray × ByteArray := (⟨#[98]⟩, ⟨#[121, 34, 122]⟩)
def lC : ByteArray × ByteArray := (⟨#[98]⟩, ⟨#[49]⟩)
def lD : ByteArray × ByteArray := (⟨#[97]⟩, ⟨#[50]⟩)
theorem word_a : wordF ⟨#[97]⟩ = true := by decide
theorem word_b : wordF ⟨#[98]⟩ = true := by decide
theorem okA : lblOk lA = true := by decide
theorem okB : lblOk lB = true := by decide
theorem okC : lblOk lC = true := by decide
theorem okD : lblOk lD = true := by decide
theorem less_ab : Op.bytesLess (⟨#[97]⟩ : ByteArray).toList (⟨#[98]⟩ : ByteArray).toList = true := by
  rw [show (⟨#[97]⟩ : ByteArray).toList = [97] from ba_list [97], show (⟨#[98]⟩ : ByteArray).toList = [98] from ba_list [98]]; decide
theorem less_ba : Op.bytesLess (⟨#[98]⟩ : ByteArray).toList (⟨#[97]⟩ : ByteArray).toList = false := by
  rw [show (⟨#[97]⟩ : ByteArray).toList = [97] from ba_list [97], show (⟨#[98]⟩ : ByteArray).toList = [98] from ba_list [98]]; decide
theorem right_two {x y : ByteArray × ByteArray} (hx : lblOk x = true) (hy : lblOk y = true) (h : Op.bytesLess x.1.toList y.1.toList = true) : rightS [x, y] = true := by
  simp only [rightS, rightK, riseAt, lblAt, List.length_cons, List.length_nil]
  simp [hx, hy, h]
theorem wrong_two {x y : ByteArray × ByteArray} (h : Op.bytesLess x.1.toList y.1.toList = false) : rightS [x, y] = false := by
  simp only [rightS, rightK, riseAt, lblAt, List.length_cons, List.length_nil]
  simp [h]
theorem rightAB : rightS [lA, lB] = true := right_two okA okB less_ab
theorem rightAC : rightS [lA, lC] = true := right_two okA okC less_ab
theorem printAB : printL [lA, lB] = [123, 97, 61, 34, 120, 34, 44, 98, 61, 34, 121, 92, 34, 122, 34, 125] := by rw [printL, if_pos rightAB]; decide
theorem printAC : printL [lA, lC] = [123, 97, 61, 34, 120, 34, 44, 98, 61, 34, 49, 34, 125] := by rw [printL, if_pos rightAC]; decide
theorem parseAB : parseF [123, 97, 61, 34, 120, 34, 44, 98, 61, 34, 121, 92, 34, 122, 34, 125] = some [lA, lB] := by rw [← printAB]; exact parseF_print rightAB
theorem parseNil : parseF [123, 125] = some [] := parseF_print (l := []) (by decide)
theorem parseCD : parseF [123, 98, 61, 34, 49, 34, 44, 97, 61, 34, 50, 34, 125] = none := by
  have h := parseLoop_mk [lC, lD] [] 8 (fun x hx => by simp at hx; rcases hx with rfl | rfl; exact okC; exact okD) (by decide) (by decide)
  have e : moreL [] [lC, lD] ++ [125] = [98, 61, 34, 49, 34, 44, 97, 61, 34, 50, 34, 125] := by decide
  rw [e] at h
  rw [parseF, if_pos rfl, h]
  simp only [List.nil_append]
  rw [if_neg (by rw [wrong_two (x := lC) (y := lD) less_ba]; decide)]
theorem withAC : withEnd [lA] ⟨#[98]⟩ ⟨#[49]⟩ = [lA, lC] := by decide
end Go.Proofs.Ytbndmmfpoljeaaa

namespace Go.Proofs.Ytbndmmfpoljeaaa
open Go.ChangeShapes Go.WideShapes Go.ChangeAt Go.RowKit
set_option linter.unusedVariables false
set_option maxRecDepth 100000
theorem cmp_less : ∀ a b : List UInt8, Lib.compareBytes a b = if Op.bytesLess a b then -1 else if Op.bytesLess b a then 1 else 0
  | [], [] => rfl
  | [], _ :: _ => rfl
  | _ :: _, [] => rfl
  | a :: x, b :: y => by
    have ih := cmp_less x y
    unfold Lib.compareBytes Op.bytesLess
    rcases u8_tri a b with h | h | h
    · simp [h]
    · subst h
      have hn : ¬ a < a := fun h => u8_not h h
      simp [hn, ih]
    · have hn := u8_not h
      have hne := u8_ne h
      have hb1 : (a == b) = false := by rw [beq_eq_false_iff_ne]; exact fun e => hne e.symm
      simp [h, hn, hb1]
theorem less_irrefl : ∀ a : List UInt8, Op.bytesLess a a = false
  | [] => rfl
  | a :: x => by
    have hn : ¬ a < a := fun h => u8_not h h
    unfold Op.bytesLess
    simp [hn, less_irrefl x]
theorem cmp_refl (a : List UInt8) : Lib.compareBytes a a = 0 := by rw [cmp_less, less_irrefl]; rfl
theorem cmp_ne : ∀ {a b : List UInt8}, a ≠ b → Op.bytesLess a b = true ∨ Op.bytesLess b a = true
  | [], [], h => absurd rfl h
  | [], _ :: _, _ => .inl rfl
  | _ :: _, [], _ => .inr rfl
  | a :: x, b :: y, h => by
    unfold Op.bytesLess
    rcases u8_tri a b with h1 | h1 | h1
    · exact .inl (by simp [h1])
    · subst h1
      rcases cmp_ne (a := x) (b := y) (fun e => h (by rw [e])) with h2 | h2
      · exact .inl (by simp [h2])
      · exact .inr (by simp [h2])
    · exact .inr (by simp [h1])
theorem cmp_zero {a b : List UInt8} (h : Lib.compareBytes a b = 0) : a = b := by
  by_cases e : a = b
  · exact e
  · rw [cmp_less] at h
    rcases cmp_ne e with h1 | h1
    · rw [h1] at h; simp at h
    · rw [h1] at h
      split at h <;> simp at h
theorem cmp_swap (a b : List UInt8) : Lib.compareBytes a b = -Lib.compareBytes b a := by
  rw [cmp_less, cmp_less]
  cases h1 : Op.bytesLess a b <;> cases h2 : Op.bytesLess b a <;> simp
  have : ∀ x y : List UInt8, Op.bytesLess x y = true → Op.bytesLess y x = false := by
    intro x
    induction x with
    | nil => intro y h; cases y with | nil => cases h | cons => rfl
    | cons c x ih =>
      intro y h
      cases y with
      | nil => cases h
      | cons d y =>
        unfold Op.bytesLess at h ⊢
        rcases u8_tri c d with h3 | h3 | h3
        · have hn := u8_not h3
          have hne := u8_ne h3
          have hb1 : (d == c) = false := by rw [beq_eq_false_iff_ne]; exact fun e => hne e.symm
          simp [hn, hb1]
        · subst h3
          have hn : ¬ c < c := fun h => u8_not h h
          simp [hn] at h ⊢
          exact ih y h
        · have hn := u8_not h3
          have hne := u8_ne h3
          have hb1 : (c == d) = false := by rw [beq_eq_false_iff_ne]; exact fun e => hne e.symm
          simp [hn, hb1] at h
  have h3 := this a b h1
  rw [h2] at h3; cases h3
theorem print_inj {a b : List (ByteArray × ByteArray)} (ha : rightS a = true) (hb : rightS b = true) (h : printL a = printL b) : a = b := by
  have h1 := parseF_print ha
  rw [h, parseF_print hb] at h1
  injection h1 with h1
  exact h1.symm
theorem compare_any (A A2 : Option Addr) (n c n2 c2 B : Nat) (l l2 : List (ByteArray × ByteArray)) (w : World) (h : Sees w B 2 A n (lbls l)) (h2 : Sees w B 2 A2 n2 (lbls l2)) (hB : B ≤ w.heap.size) (hn : n ≤ 9223372036854775807) (hn2 : n2 ≤ 9223372036854775807) :
    Calls Try.prog 29 #[.slice A n c, .slice A2 n2 c2] w fun e w' => e = .returned (.int .i64 (Lib.compareBytes (printL l) (printL l2))) ∧ Below w.heap.size w w' := by
  have H := Lib.hid h; have H2 := Lib.hid h2
  clear h h2
  go_enter Try.func29, Try.ntmps29
  go_wp2_with fail
  refine (print_any A n c l B w H.out hB hn).mono ?_; rintro e w1 ⟨rfl, hb⟩
  have hs := hb.size
  have HB := Lib.hid hb; clear hb
  go_wp2_with fail
  refine (print_any A2 n2 c2 l2 B w1 (H2.out.below (HB.out.mono hB)) (by omega) hn2).mono ?_; rintro e w2 ⟨rfl, hb⟩
  have HB2 := Lib.hid (HB.out.trans (hb.mono hs)); clear hb
  go_wp2_with fail
  refine (Try.strings_Compare ⟨(printL l).toArray⟩ ⟨(printL l2).toArray⟩ w2).mono ?_; rintro e w3 ⟨rfl, rfl⟩
  go_wp2_with fail
  go_ret
  exact ⟨rfl, HB2.out⟩
end Go.Proofs.Ytbndmmfpoljeaaa

namespace Go.Proofs.Ytbndmmfpoljeaaa
open Go.ChangeShapes Go.WideShapes Go.ChangeAt Go.RowKit
set_option linter.unusedVariables false
set_option maxRecDepth 100000
/-- Two sets of numbers, boxed. -/
structure BoxAt (w0 : World) (ka kb : KSet) (ba bb : Nat) (w : World) : Prop where
  okA : ka.ok w0.heap.size w
  okB : kb.ok w0.heap.size w
  boxA : Blk w ba 73 [.slice ka.A ka.n ka.c, .slice ka.A2 ka.n2 ka.c2]
  boxB : Blk w bb 73 [.slice kb.A kb.n kb.c, .slice kb.A2 kb.n2 kb.c2]
  bel : Below w0.heap.size w0 w
theorem BoxAt.below {w0 w w' : World} {ka kb : KSet} {ba bb : Nat} (h : BoxAt w0 ka kb ba bb w) (hb : Below w.heap.size w w') : BoxAt w0 ka kb ba bb w' :=
  ⟨h.okA.below (hb.mono h.bel.size), h.okB.below (hb.mono h.bel.size), h.boxA.below hb h.boxA.lt, h.boxB.below hb h.boxB.lt, h.bel.trans (hb.mono h.bel.size)⟩
theorem BoxAt.drewN {w0 w : World} {ka kb : KSet} {ba bb : Nat} (h : BoxAt w0 ka kb ba bb w) (n : Nat) : BoxAt w0 ka kb ba bb (w.drewN n) :=
  ⟨⟨h.okA.has_.drewN n, h.okA.hasI, h.okA.n_, h.okA.vals_.drewN n, h.okA.valsI, h.okA.n2_⟩, ⟨h.okB.has_.drewN n, h.okB.hasI, h.okB.n_, h.okB.vals_.drewN n, h.okB.valsI, h.okB.n2_⟩, h.boxA.drewN n, h.boxB.drewN n, below_drewN3 h.bel n⟩
theorem BoxAt.cells {w0 w : World} {ka kb : KSet} {ba bb : Nat} (h : BoxAt w0 ka kb ba bb w) : w.cell? ⟨ba, 0, none⟩ = some (.slice ka.A ka.n ka.c) ∧ w.cell? ⟨ba, 1, none⟩ = some (.slice ka.A2 ka.n2 ka.c2) ∧ w.cell? ⟨bb, 0, none⟩ = some (.slice kb.A kb.n kb.c) ∧ w.cell? ⟨bb, 1, none⟩ = some (.slice kb.A2 kb.n2 kb.c2) := by
  have h0 := h.boxA.cell 0
  have h1 := h.boxA.cell 1
  have h2 := h.boxB.cell 0
  have h3 := h.boxB.cell 1
  exact ⟨by simpa using h0, by simpa using h1, by simpa using h2, by simpa using h3⟩
theorem BoxAt.drew {w0 w : World} {ka kb : KSet} {ba bb : Nat} (h : BoxAt w0 ka kb ba bb w) : BoxAt w0 ka kb ba bb w.drew := h.drewN 1
/-- A list that a call made, or one like it. -/
def HasL (w : World) (v : Value) (l : List (ByteArray × ByteArray)) : Prop := ∃ A c, v = .slice A l.length c ∧ Sees w w.heap.size 2 A l.length (lbls l) ∧ l.length ≤ c ∧ c ≤ 9223372036854775807
theorem HasL.below {w w' : World} {v : Value} {l : List (ByteArray × ByteArray)} (h : HasL w v l) (hb : Below w.heap.size w w') : HasL w' v l := by
  obtain ⟨A, c, h1, h2, h3⟩ := h
  exact ⟨A, c, h1, (h2.below hb).more hb.size, h3⟩
theorem HasL.drewN {w : World} {v : Value} {l : List (ByteArray × ByteArray)} (h : HasL w v l) (n : Nat) : HasL (w.drewN n) v l := by
  obtain ⟨A, c, h1, h2, h3⟩ := h
  exact ⟨A, c, h1, h2.drewN n, h3⟩
theorem OwnAns.hasL {w w' : World} {e : Ending} {l : List (ByteArray × ByteArray)} (h : OwnAns 53 2 l.length (lbls l) w e w') : ∃ v, e = .returned v ∧ HasL w' v l ∧ Below w.heap.size w w' := by
  obtain ⟨A, c, h1, h2, h3, h4, h5⟩ := h
  exact ⟨_, h1, ⟨A, c, rfl, Sees.of_own h2, h4, h5⟩, h3⟩
theorem printNil : printL [] = [123, 125] := by decide
/-- Two lists that stay. -/
structure TwoL (w0 : World) (la lb : List (ByteArray × ByteArray)) (va vb : Value) (w : World) : Prop where
  a : HasL w va la
  b : HasL w vb lb
  bel : Below w0.heap.size w0 w
theorem TwoL.below {w0 w w' : World} {la lb : List (ByteArray × ByteArray)} {va vb : Value} (h : TwoL w0 la lb va vb w) (hb : Below w.heap.size w w') : TwoL w0 la lb va vb w' := ⟨h.a.below hb, h.b.below hb, h.bel.trans (hb.mono h.bel.size)⟩
theorem TwoL.drewN {w0 w : World} {la lb : List (ByteArray × ByteArray)} {va vb : Value} (h : TwoL w0 la lb va vb w) (n : Nat) : TwoL w0 la lb va vb (w.drewN n) := ⟨h.a.drewN n, h.b.drewN n, below_drewN3 h.bel n⟩
theorem HasL.slice {w : World} {A : Option Addr} {n c : Nat} {l : List (ByteArray × ByteArray)} (h : HasL w (.slice A n c) l) : Sees w w.heap.size 2 A n (lbls l) ∧ l.length = n ∧ n ≤ c ∧ c ≤ 9223372036854775807 := by
  obtain ⟨A', c', h1, h2, h3, h4⟩ := h
  injection h1 with h1 h5 h6
  subst h1; subst h5; subst h6
  exact ⟨h2, rfl, h3, h4⟩
theorem HasL.form {w : World} {v : Value} {l : List (ByteArray × ByteArray)} (h : HasL w v l) : ∃ A c, v = .slice A l.length c := by
  obtain ⟨A, c, h1, _⟩ := h; exact ⟨A, c, h1⟩
theorem printL_length_le {l : List (ByteArray × ByteArray)} (h : rightS l = true) : (printL l).length ≤ 500 := by
  rw [printL, if_pos h]
  have h1 := joinL_length_le l (rightS_sizes h)
  have h2 := rightS_len h
  have h3 : 76 * l.length ≤ 456 := Nat.mul_le_mul_left 76 h2
  simp only [List.length_cons, List.length_append, List.length_nil]
  omega
end Go.Proofs.Ytbndmmfpoljeaaa

namespace Go.Proofs.Ytbndmmfpoljeaaa
open Go.ChangeShapes Go.WideShapes Go.ChangeAt Go.RowKit
set_option linter.unusedVariables false
abbrev Lbl := ByteArray × ByteArray
theorem less_trans : ∀ {a b c : List UInt8}, Op.bytesLess a b = true → Op.bytesLess b c = true → Op.bytesLess a c = true
  | _, [], _, h, _ => by unfold Op.bytesLess at h; cases h
  | _, _ :: _, [], _, h => by unfold Op.bytesLess at h; cases h
  | [], _ :: _, _ :: _, _, _ => rfl
  | a :: x, b :: y, c :: z, h1, h2 => by
    unfold Op.bytesLess at h1 h2 ⊢
    simp only [Bool.or_eq_true, decide_eq_true_eq, Bool.and_eq_true, beq_iff_eq] at h1 h2 ⊢
    rcases h1 with h1 | ⟨rfl, h1⟩ <;> rcases h2 with h2 | ⟨rfl, h2⟩
    · exact .inl (by rw [UInt8.lt_iff_toNat_lt] at *; omega)
    · exact .inl h1
    · exact .inl h2
    · exact .inr ⟨rfl, less_trans h1 h2⟩
theorem less_asymm {a b : List UInt8} (h : Op.bytesLess a b = true) : Op.bytesLess b a = false := by
  cases hq : Op.bytesLess b a with
  | false => rfl
  | true => have := less_trans h hq; rw [less_irrefl] at this; cases this
theorem less_ne {a b : List UInt8} (h : Op.bytesLess a b = true) : a ≠ b := fun e => by rw [e, less_irrefl] at h; cases h
def Rise (l : List Lbl) : Prop := l.Pairwise fun x y => Op.bytesLess x.1.toList y.1.toList = true
theorem rightS_rising {l : List Lbl} (h : rightS l = true) : Rise l := by
  have key : ∀ i j (hi : i < l.length) (hj : j < l.length), i < j → Op.bytesLess l[i].1.toList l[j].1.toList = true := by
    intro i j hi
    induction j with
    | zero => intro hj hij; omega
    | succ j ih =>
      intro hj hij
      have h1 := (rightS_at h hj).2
      rw [riseAt_get (q := j) rfl hj] at h1
      rcases Nat.lt_or_ge i j with h' | h'
      · exact less_trans (ih (by omega) h') h1
      · obtain rfl : i = j := by omega
        exact h1
  exact List.pairwise_iff_getElem.2 fun i j hi hj hij => key i j hi hj hij
theorem rightS_ok {l : List Lbl} (h : rightS l = true) : ∀ x ∈ l, lblOk x = true := by
  intro x hx
  obtain ⟨k, hk, rfl⟩ := List.getElem_of_mem hx
  exact (rightS_at h hk).1
theorem right_filter {l : List Lbl} (h : rightS l = true) (p : Lbl → Bool) : rightS (l.filter p) = true :=
  rightS_of (Nat.le_trans (List.length_filter_le _ _) (rightS_len h)) (fun x hx => rightS_ok h x (List.mem_filter.1 hx).1) ((rightS_rising h).filter p)
theorem hasS_one {a b : ByteArray} : hasS [a] b = decide (a = b) := by simp [hasS]
theorem keptL_mem {l : List Lbl} {name : ByteArray} {x : Lbl} (h : x ∈ keptL l name) : x ∈ l ∧ x.1 ≠ name := by
  rw [keptL, List.mem_filter, hasS_one] at h
  exact ⟨h.1, fun e => by rw [e] at h; simp at h⟩
theorem takeWhile_less {k : List Lbl} {name : ByteArray} : ∀ x ∈ k.takeWhile (lessB name), Op.bytesLess x.1.toList name.toList = true := fun x hx => by
  induction k with
  | nil => cases hx
  | cons y k ih =>
    rw [List.takeWhile_cons] at hx
    split at hx
    · rename_i hy
      rcases List.mem_cons.1 hx with rfl | hx
      · exact hy
      · exact ih hx
    · cases hx
theorem dropWhile_more {k : List Lbl} {name : ByteArray} (hk : Rise k) (hn : ∀ x ∈ k, x.1 ≠ name) : ∀ x ∈ k.dropWhile (lessB name), Op.bytesLess name.toList x.1.toList = true := fun x hx => by
  induction k with
  | nil => cases hx
  | cons y k ih =>
    rw [List.dropWhile_cons] at hx
    obtain ⟨h1, h2⟩ := List.pairwise_cons.1 hk
    split at hx
    · exact ih h2 (fun z hz => hn z (List.mem_cons_of_mem _ hz)) hx
    · rename_i hy
      have hy0 : Op.bytesLess y.1.toList name.toList = false := by simpa [lessB] using hy
      have hy1 : Op.bytesLess name.toList y.1.toList = true := by
        rcases cmp_ne (a := y.1.toList) (b := name.toList) (fun e => hn y List.mem_cons_self (ba_ext e)) with h | h
        · rw [hy0] at h; cases h
        · exact h
      rcases List.mem_cons.1 hx with rfl | hx
      · exact hy1
      · exact less_trans hy1 (h1 x hx)
theorem putL_rise {k : List Lbl} {x : Lbl} (hk : Rise k) (hn : ∀ y ∈ k, y.1 ≠ x.1) : Rise (putL k x) := by
  have h1 : Rise (k.takeWhile (lessB x.1)) := hk.sublist (List.takeWhile_sublist _)
  have h2 : Rise (k.dropWhile (lessB x.1)) := hk.sublist (List.dropWhile_sublist _)
  refine List.pairwise_append.2 ⟨h1, List.pairwise_cons.2 ⟨fun y hy => dropWhile_more hk hn y hy, h2⟩, fun y hy z hz => ?_⟩
  rcases List.mem_cons.1 hz with rfl | hz
  · exact takeWhile_less y hy
  · exact less_trans (takeWhile_less y hy) (dropWhile_more hk hn z hz)
theorem putL_mem {k : List Lbl} {x y : Lbl} : y ∈ putL k x ↔ y = x ∨ y ∈ k := by
  have e : y ∈ k ↔ y ∈ k.takeWhile (lessB x.1) ∨ y ∈ k.dropWhile (lessB x.1) := by rw [← List.mem_append, List.takeWhile_append_dropWhile]
  rw [e, putL, List.mem_append, List.mem_cons]
  constructor
  · rintro (h | h | h)
    · exact .inr (.inl h)
    · exact .inl h
    · exact .inr (.inr h)
  · rintro (h | h | h)
    · exact .inr (.inl h)
    · exact .inl h
    · exact .inr (.inr h)
theorem putL_length (k : List Lbl) (x : Lbl) : (putL k x).length = k.length + 1 := by
  have e := congrArg List.length (List.takeWhile_append_dropWhile (p := lessB x.1) (l := k))
  rw [List.length_append] at e
  rw [putL, List.length_append, List.length_cons]; omega
theorem putL_kept {k : List Lbl} {x : Lbl} (hn : ∀ y ∈ k, y.1 ≠ x.1) : keptL (putL k x) x.1 = k := by
  have hf : ∀ m : List Lbl, (∀ y ∈ m, y.1 ≠ x.1) → m.filter (fun y => !hasS [x.1] y.1) = m := fun m hm => List.filter_eq_self.2 fun y hy => by
    rw [hasS_one, decide_eq_false (fun e => hm y hy e.symm)]; rfl
  have h1 := hf (k.takeWhile (lessB x.1)) (fun y hy => hn y ((List.takeWhile_sublist _).mem hy))
  have h2 := hf (k.dropWhile (lessB x.1)) (fun y hy => hn y ((List.dropWhile_sublist _).mem hy))
  rw [keptL, putL, List.filter_append, List.filter_cons, h1, h2, hasS_one]
  simp [List.takeWhile_append_dropWhile]
theorem putL_right {k : List Lbl} {x : Lbl} (hk : rightS k = true) (hx : lblOk x = true) (hn : ∀ y ∈ k, y.1 ≠ x.1) (hl : k.length ≤ 5) : rightS (putL k x) = true :=
  rightS_of (by rw [putL_length]; omega) (fun y hy => by
    rcases putL_mem.1 hy with rfl | hy
    · exact hx
    · exact rightS_ok hk y hy) (putL_rise (rightS_rising hk) hn)
/-- The first value of a name. -/
def getF (l : List Lbl) (name : ByteArray) : ByteArray := match l.find? (fun x => decide (x.1 = name)) with | some x => x.2 | none => ⟨#[]⟩
theorem getF_kept {l : List Lbl} {name n : ByteArray} (h : n ≠ name) : getF (keptL l name) n = getF l n := by
  unfold getF keptL
  rw [List.find?_filter]
  congr 1
  congr 1
  funext x
  rw [hasS_one]
  by_cases h1 : x.1 = n
  · have h2 : ¬ name = n := fun e => h e.symm
    simp [h1, h2]
  · simp [h1]
theorem getF_none {l : List Lbl} {name : ByteArray} (h : ∀ x ∈ l, x.1 ≠ name) : getF l name = ⟨#[]⟩ := by
  unfold getF
  rw [List.find?_eq_none.2 fun x hx => by simpa using h x hx]
theorem getF_put {k : List Lbl} {x : Lbl} (hn : ∀ y ∈ k, y.1 ≠ x.1) : getF (putL k x) x.1 = x.2 := by
  unfold getF putL
  rw [List.find?_append, List.find?_eq_none.2 (fun y hy => by simpa using hn y ((List.takeWhile_sublist _).mem hy))]
  simp
theorem getF_put_other {k : List Lbl} {x : Lbl} {n : ByteArray} (h : n ≠ x.1) : getF (putL k x) n = getF k n := by
  unfold getF
  conv => rhs; rw [← List.takeWhile_append_dropWhile (p := lessB x.1) (l := k)]
  rw [putL, List.find?_append, List.find?_append, List.find?_cons, decide_eq_false (fun e => h e.symm)]
theorem filter_parts (l : List Lbl) (p : Lbl → Bool) : (l.filter p).length + (l.filter fun x => !p x).length = l.length := by
  induction l with
  | nil => rfl
  | cons x l ih =>
    rw [List.filter_cons, List.filter_cons]
    cases p x <;> simp <;> omega
theorem filter_none (l : List Lbl) (p : Lbl → Bool) : (l.filter fun x => !p x).filter p = [] := by
  rw [List.filter_filter]
  exact List.filter_eq_nil_iff.2 fun x _ => by cases p x <;> simp
theorem filter_twice (l : List Lbl) (p : Lbl → Bool) : (l.filter p).filter p = l.filter p := by
  rw [List.filter_filter]; congr 1; funext x; simp
end Go.Proofs.Ytbndmmfpoljeaaa

namespace Go.Proofs.Ytbndmmfpoljeaaa
open Go.RowKit
set_option linter.unusedVariables false
/-- Rows of two types lie in two blocks. -/
theorem own_ne {w : World} {b b2 : Nat} {e e2 : TypeId} {s s2 n n2 : Nat} {v v2 : Value} {xs xs2 : List Value} (h : w.ownsRow b e s v n xs) (h2 : w.ownsRow b2 e2 s2 v2 n2 xs2) (he : e ≠ e2) : ∀ g, v.ownBlock = some g → v2.ownBlock ≠ some g := by
  intro g hg hg2
  rcases h.2 with ⟨rfl, _⟩ | ⟨g1, cap, cur, rfl, _, hh, _⟩
  · simp [Value.ownBlock] at hg
  · rcases h2.2 with ⟨rfl, _⟩ | ⟨g3, cap2, cur2, rfl, _, hh2, _⟩
    · simp [Value.ownBlock] at hg2
    · simp [Value.ownBlock] at hg hg2
      subst hg; subst hg2
      rw [hh] at hh2
      injection hh2 with hh2; injection hh2 with _ hh2
      exact he hh2
theorem own_grown {w w' : World} {base : Nat} {e : TypeId} {size n : Nat} {v : Value} {xs : List Value} {row : Option Nat} (h : w.ownsRow base e size v n xs) (hg : w.grownBy w' row) (hne : ∀ g, v.ownBlock = some g → row ≠ some g) : w'.ownsRow base e size v n xs := by
  refine ⟨h.1, ?_⟩
  rcases h.2 with h2 | ⟨g, cap, cur, rfl, hb, hh, rest⟩
  · exact .inl h2
  · refine .inr ⟨g, cap, cur, rfl, hb, ?_, rest⟩
    have : g < w.heap.size := (Array.getElem?_eq_some_iff.1 hh).1
    rw [hg.block g this (fun e => hne g (by simp [Value.ownBlock]) e.symm)]; exact hh
end Go.Proofs.Ytbndmmfpoljeaaa

namespace Go.Proofs.Ytbndmmfpoljeaaa
open Go.RowKit
set_option linter.unusedVariables false
/-- A fact that holds, and stays when memory is made. -/
def Stays (P : World → Prop) (w : World) : Prop := ∀ w', Below w.heap.size w w' → P w'
theorem Stays.now {P : World → Prop} {w : World} (h : Stays P w) : P w := h w (Below.refl _ _)
theorem Stays.below {P : World → Prop} {w w' : World} (h : Stays P w) (hb : Below w.heap.size w w') : Stays P w' := fun w2 h2 => h w2 (hb.trans (h2.mono hb.size))
/-- Behind w0, with these facts. -/
def Kept (w0 : World) (Ps : List (World → Prop)) (w : World) : Prop := Below w0.heap.size w0 w ∧ ∀ P ∈ Ps, Stays P w
section
variable {w0 w w' : World} {Ps : List (World → Prop)} {P P1 P2 P3 P4 P5 P6 P7 P8 P9 : World → Prop}
theorem Kept.start (w : World) : Kept w [] w := ⟨Below.refl _ _, fun P h => absurd h List.not_mem_nil⟩
theorem Kept.bel (h : Kept w0 Ps w) : Below w0.heap.size w0 w := h.1
theorem Kept.size (h : Kept w0 Ps w) : w0.heap.size ≤ w.heap.size := h.1.size
theorem Kept.below (h : Kept w0 Ps w) (hb : Below w.heap.size w w') : Kept w0 Ps w' := ⟨h.1.trans (hb.mono h.1.size), fun P hp => (h.2 P hp).below hb⟩
theorem Kept.alloc (h : Kept w0 Ps w) (o : Obj) : Kept w0 Ps (w.alloc o) := h.below ((Below.refl _ _).alloc (Nat.le_refl _) o)
theorem Kept.drew (h : Kept w0 Ps w) : Kept w0 Ps w.drew := h.below (Below.refl _ _).drew
theorem Kept.drewN (h : Kept w0 Ps w) (n : Nat) : Kept w0 Ps (w.drewN n) := by
  induction n with
  | zero => exact h
  | succ n ih => exact ih.drew
theorem Kept.add (h : Kept w0 Ps w) (hP : Stays P w) : Kept w0 (P :: Ps) w := ⟨h.1, fun Q hq => by
  rcases List.mem_cons.1 hq with rfl | hq
  · exact hP
  · exact h.2 Q hq⟩
theorem Kept.tail (h : Kept w0 (P :: Ps) w) : Kept w0 Ps w := ⟨h.1, fun Q hq => h.2 Q (List.mem_cons_of_mem _ hq)⟩
theorem Kept.p0 (h : Kept w0 (P :: Ps) w) : P w := (h.2 P List.mem_cons_self).now
theorem Kept.p1 (h : Kept w0 (P :: P1 :: Ps) w) : P1 w := h.tail.p0
theorem Kept.p2 (h : Kept w0 (P :: P1 :: P2 :: Ps) w) : P2 w := h.tail.p1
theorem Kept.p3 (h : Kept w0 (P :: P1 :: P2 :: P3 :: Ps) w) : P3 w := h.tail.p2
theorem Kept.p4 (h : Kept w0 (P :: P1 :: P2 :: P3 :: P4 :: Ps) w) : P4 w := h.tail.p3
theorem Kept.p5 (h : Kept w0 (P :: P1 :: P2 :: P3 :: P4 :: P5 :: Ps) w) : P5 w := h.tail.p4
theorem Kept.p6 (h : Kept w0 (P :: P1 :: P2 :: P3 :: P4 :: P5 :: P6 :: Ps) w) : P6 w := h.tail.p5
theorem Kept.p7 (h : Kept w0 (P :: P1 :: P2 :: P3 :: P4 :: P5 :: P6 :: P7 :: Ps) w) : P7 w := h.tail.p6
theorem Kept.p8 (h : Kept w0 (P :: P1 :: P2 :: P3 :: P4 :: P5 :: P6 :: P7 :: P8 :: Ps) w) : P8 w := h.tail.p7
end
section
variable {w w' : World} {B size n g base : Nat} {A : Option Addr} {xs cs : List Value} {t : TypeId} {v : Value}
theorem Sees.stays (h : Sees w B size A n xs) (hB : B ≤ w.heap.size) : Stays (fun W => Sees W B size A n xs) w := fun _ hb => h.below (hb.mono hB)
theorem Blk.stays (h : Blk w g t cs) : Stays (fun W => Blk W g t cs) w := fun _ hb => h.below hb h.lt
theorem own_stays (h : w.ownsRow base t size v n xs) : Stays (fun W => W.ownsRow base t size v n xs) w := fun _ hb => own_below h hb (Nat.le_refl _)
/-- A value is a slice that reads as these cells. -/
def Slc (w : World) (size : Nat) (v : Value) (n : Nat) (xs : List Value) : Prop := ∃ A c, v = .slice A n c ∧ Sees w w.heap.size size A n xs ∧ n ≤ c ∧ c ≤ 9223372036854775807
theorem Slc.below (h : Slc w size v n xs) (hb : Below w.heap.size w w') : Slc w' size v n xs := by
  obtain ⟨A, c, h1, h2, h3⟩ := h
  exact ⟨A, c, h1, (h2.below hb).more hb.size, h3⟩
theorem Slc.stays (h : Slc w size v n xs) : Stays (fun W => Slc W size v n xs) w := fun _ hb => h.below hb
theorem Slc.sees {c : Nat} (h : Slc w size (.slice A n c) n xs) : Sees w w.heap.size size A n xs := by
  obtain ⟨A', c', h1, h2, h3, h4⟩ := h
  injection h1 with h1 h5 h6
  subst h1; subst h6
  exact h2
theorem Slc.caps {c : Nat} (h : Slc w size (.slice A n c) n xs) : n ≤ c ∧ c ≤ 9223372036854775807 := by
  obtain ⟨A', c', h1, h2, h3, h4⟩ := h
  injection h1 with h1 h5 h6
  subst h6
  exact ⟨h3, h4⟩
theorem Slc.form (h : Slc w size v n xs) : ∃ A c, v = .slice A n c ∧ n ≤ c ∧ c ≤ 9223372036854775807 := by
  obtain ⟨A, c, h1, h2, h3⟩ := h
  exact ⟨A, c, h1, h3⟩
theorem Slc.of_own (h : w.ownsRow base t size v n xs) : Slc w size v n xs := by
  obtain ⟨A, c, rfl, h1, h2⟩ := own_slice h
  exact ⟨A, c, rfl, Sees.of_own h, h1, h2⟩
/-- A call answers a new slice of these cells. -/
theorem slc_ans {W : World} {e : Ending} (h : OwnAns t size n xs W e w') : ∃ A c, e = .returned (.slice A n c) ∧ Slc w' size (.slice A n c) n xs ∧ Below W.heap.size W w' := by
  obtain ⟨A, c, h1, h2, h3, h4, h5⟩ := h
  exact ⟨A, c, h1, Slc.of_own h2, h3⟩
end
end Go.Proofs.Ytbndmmfpoljeaaa

namespace Go.Proofs.Ytbndmmfpoljeaaa
open Go.ChangeShapes Go.WideShapes Go.ChangeAt Go.RowKit
set_option linter.unusedVariables false
set_option maxRecDepth 100000
theorem equal_lbl (A A2 : Option Addr) (n c n2 c2 B B2 : Nat) (zs ys : List (ByteArray × ByteArray)) (w : World) (h : Sees w B 2 A n (lbls zs)) (h2 : Sees w B2 2 A2 n2 (lbls ys)) (hn : n ≤ 9223372036854775807) (hn2 : n2 ≤ 9223372036854775807) :
    Calls Try.prog 40 #[.slice A n c, .slice A2 n2 c2] w fun e w' => e = .returned (.bool (decide (zs = ys))) ∧ ∃ m, w' = w.drewN m := by
  have H := Lib.hid h; clear h
  have H2 := Lib.hid h2; clear h2
  have HL := Lib.hid H.out.lbl_len
  have HL2 := Lib.hid H2.out.lbl_len
  by_cases hnn : n = n2
  · subst hnn
    go_enter Try.func40, Try.ntmps40
    go_wp2
    go_loopw [13] (fun i wr => ∃ k m : Nat, k ≤ n ∧ i = .int .i64 k ∧ wr = w.drewN m ∧ zs.take k = ys.take k) (fun i _ => n - (intOf i).toNat)
    case atStart => exact ⟨0, 0, Nat.zero_le _, rfl, rfl, rfl⟩
    case round =>
      obtain ⟨k, m, hk, rfl, rfl, ht⟩ := hrel
      have HT := Lib.hid ht; clear ht
      by_cases hlt : k < n
      · obtain ⟨ad, hkl, rfl, hc, hd⟩ := H.out.lbl hlt
        obtain ⟨ad2, hkl2, rfl, hc2, hd2⟩ := H2.out.lbl hlt
        have hq := Lib.hid (take_eq_snoc_l hkl hkl2 HT.out)
        have hne : Hid (zs[k] ≠ ys[k] → zs ≠ ys) := fun h e => h (by subst e; rfl)
        generalize zs[k] = x at *
        generalize ys[k] = y at *
        obtain ⟨x1, x2⟩ := x
        obtain ⟨y1, y2⟩ := y
        simp only at hc hd hc2 hd2
        by_cases hxy : x1 = y1 ∧ x2 = y2
        · obtain ⟨rfl, rfl⟩ := hxy
          have he1 : (x1.toList == x1.toList) = true := by simp
          have he2 : (x2.toList == x2.toList) = true := by simp
          go_wp2
          go_quiet (fail)
          go_wp2
          go_roundw
          case rel => exact ⟨k + 1, _, by omega, by go_num, rfl, hq.out (by simp)⟩
          case measure => simp [intOf]; omega
        · have hz := Lib.hid (hne.out (fun h => hxy (by injection h with h1 h2; exact ⟨h1, h2⟩)))
          by_cases h1 : x1 = y1
          · subst h1
            have he1 : (x1.toList == x1.toList) = true := by simp
            have he2 : (x2.toList == y2.toList) = false := by rw [beq_eq_false_iff_ne]; exact fun h => hxy ⟨rfl, ba_ext h⟩
            clear hxy
            go_wp2
            go_quiet (fail)
            go_wp2
            go_ret
            exact ⟨ret_bool (decide_eq_false hz.out).symm, _, World.drewN_drewN _ _ _⟩
          · have he1 : (x1.toList == y1.toList) = false := by rw [beq_eq_false_iff_ne]; exact fun h => h1 (ba_ext h)
            clear hxy h1
            go_wp2
            go_quiet (fail)
            go_wp2
            go_ret
            exact ⟨ret_bool (decide_eq_false hz.out).symm, _, World.drewN_drewN _ _ _⟩
      · obtain rfl : k = n := by omega
        have he : zs = ys := by
          have := HT.out; rwa [List.take_of_length_le (by rw [HL.out]; omega), List.take_of_length_le (by rw [HL2.out]; omega)] at this
        have HE := Lib.hid (decide_eq_true he); clear he
        go_wp2
        go_ret
        exact ⟨ret_bool HE.out.symm, m, rfl⟩
  · have hz : zs ≠ ys := fun e => hnn (by rw [← HL.out, ← HL2.out, e])
    have hb : ((n : Int) == n2) = false := beq_eq_false_iff_ne.2 (by omega)
    have HE := Lib.hid (decide_eq_false hz); clear hz
    go_enter Try.func40, Try.ntmps40
    go_wp2
    go_ret
    exact ⟨ret_bool HE.out.symm, 0, rfl⟩
/-- slices.Clone at labels. -/
theorem clone_lbl (A : Option Addr) (n c B : Nat) (zs : List (ByteArray × ByteArray)) (w : World) (h : Sees w B 2 A n (lbls zs)) (hB : B ≤ w.heap.size) (hn : n ≤ 1000000) :
    Calls Try.prog 87 #[.slice A n c] w (OwnAns 53 2 n (lbls zs) w) := by
  have HL := Lib.hid h.lbl_len
  have H := Lib.hid h; clear h
  obtain ⟨i0, hi, hz0, hz1, hz2⟩ := info_parts Try.infoLabel
  have hnil := fun w => Lib.run_eql_slice_nil (P := Try.prog) w 26 53 A n c 0 0 Try.underlying26
  cases A with
  | none =>
    have hn0 : n = 0 := by
      rcases Nat.eq_zero_or_pos n with h | h
      · exact h
      · obtain ⟨ad, h, _⟩ := H.out.at_ h; cases h
    subst hn0
    have hl0 : zs = [] := List.eq_nil_of_length_eq_zero HL.out
    subst hl0
    have hr := Lib.hid (show w.ownsRow w.heap.size 53 2 (.slice none 0 0) 0 (lbls []) by simpa [lbls] using World.ownsRow_nil w w.heap.size 53 2)
    go_enter Try.func87, Try.ntmps87
    go_wp2_with fail
    go_ret
    exact ownAns hr.out (Below.refl _ _) rfl (Nat.le_refl _) (by omega)
  | some ad =>
    have hown0 : (w.alloc (.cells #[] 53)).ownsRow w.heap.size 53 2 (.slice (some ⟨w.heap.size, 0, none⟩) 0 0) 0 [] := World.ownsRow_made w #[] 0 (Nat.le_refl _) (by unfold maxLen; omega) rfl
    have HO := Lib.hid hown0; clear hown0
    have HS := Lib.hid (H.out.below (((Below.refl B w).alloc hB (.cells #[] 53)))); clear H
    go_enter Try.func87, Try.ntmps87
    go_wp2_with (at_builtin; refine wpList_append_sees rfl (.tmp 5) (.tmp 6) 26 rfl w.heap.size 53 i0 (.agg #[.string ⟨#[]⟩, .string ⟨#[]⟩]) 2 32 Try.underlying26 hi hz0 hz1 hz2 rfl (by decide) _ 0 [] rfl HO.out B (some ad) n _ (lbls zs) rfl HS.out (lbls_one _) (by unfold maxLen; omega) (by omega) (by simp) ?_)
    intro v' w1 hown hg
    have hb := ((Below.refl w.heap.size w).alloc (Nat.le_refl _) _).grown hg (by simp) (by simp [Value.ownBlock])
    try simp only [Nat.zero_add, List.nil_append] at hown
    obtain ⟨A2, c2, rfl, hc3, hc4⟩ := own_slice hown
    have H1 := Lib.hid hown; have H2 := Lib.hid hb; clear hown hb hg
    go_wp2_with fail
    go_ret
    exact ownAns H1.out H2.out rfl hc3 hc4
end Go.Proofs.Ytbndmmfpoljeaaa

namespace Go.Proofs.Ytbndmmfpoljeaaa
open Go.ChangeShapes Go.WideShapes Go.ChangeAt Go.RowKit
set_option linter.unusedVariables false
set_option maxRecDepth 100000
/-- Lists that stay. -/
def Holds (w0 : World) (S : List (Value × List Lbl)) (w : World) : Prop := (∀ p ∈ S, HasL w p.1 p.2) ∧ Below w0.heap.size w0 w
section
variable {w0 w w' : World} {S : List (Value × List Lbl)}
theorem Holds.below (h : Holds w0 S w) (hb : Below w.heap.size w w') : Holds w0 S w' := ⟨fun p hp => (h.1 p hp).below hb, h.2.trans (hb.mono h.2.size)⟩
theorem Holds.drewN (h : Holds w0 S w) (n : Nat) : Holds w0 S (w.drewN n) := ⟨fun p hp => (h.1 p hp).drewN n, below_drewN3 h.2 n⟩
theorem Holds.alloc (h : Holds w0 S w) (o : Obj) : Holds w0 S (w.alloc o) := h.below ((Below.refl _ _).alloc (Nat.le_refl _) o)
theorem Holds.add (h : Holds w0 S w) {v : Value} {l : List Lbl} (hv : HasL w v l) : Holds w0 ((v, l) :: S) w := ⟨fun p hp => by
  rcases List.mem_cons.1 hp with rfl | hp
  · exact hv
  · exact h.1 p hp, h.2⟩
theorem Holds.get (h : Holds w0 S w) {v : Value} {l : List Lbl} (hm : (v, l) ∈ S) : HasL w v l := h.1 (v, l) hm
theorem Holds.bel (h : Holds w0 S w) : Below w0.heap.size w0 w := h.2
end
theorem HasL.sees {w : World} {A : Option Addr} {n c : Nat} {l : List Lbl} (h : HasL w (.slice A n c) l) : Sees w w.heap.size 2 A n (lbls l) := h.slice.1
set_option maxHeartbeats 1000000 in
theorem get_any (A0 : Option Addr) (n c B : Nat) (l : List Lbl) (name : ByteArray) (w : World) (h : Sees w B 2 A0 n (lbls l)) (hB : B ≤ w.heap.size) (hn : n ≤ 9223372036854775807) :
    Calls Try.prog 28 #[.slice A0 n c, .string name] w fun e w' => e = .returned (.string (getF l name)) ∧ Below w.heap.size w w' := by
  have H := Lib.hid h
  have HL := Lib.hid h.lbl_len
  clear h
  go_enter Try.func28, Try.ntmps28
  go_wp2_with fail
  go_loopg [9] n (fun g x9 wr => ∃ k : Nat, k + g = n ∧ x9 = .int .i64 k ∧ Below w.heap.size w wr ∧ ∀ x ∈ l.take k, x.1 ≠ name)
  case atStart => exact ⟨0, by omega, rfl, Below.refl _ _, (fun x hx => by simp at hx)⟩
  case round =>
    obtain ⟨k, hkg, rfl, hbel, hno⟩ := hrel
    have HB := Lib.hid hbel; have HNO := Lib.hid hno
    have hws := hbel.size
    clear hbel hno
    cases gk with
    | zero =>
      obtain rfl : k = n := by omega
      have HE := Lib.hid (show getF l name = ⟨#[]⟩ from getF_none (fun x hx => HNO.out x (by rw [List.take_of_length_le (by rw [HL.out]; exact Nat.le_refl _)]; exact hx)))
      go_wp2_with fail
      go_ret
      exact ⟨by rw [HE.out]; rfl, HB.out⟩
    | succ g =>
      have hlt : k < n := by omega
      obtain ⟨ad, hkl, rfl, c0, c1⟩ := (H.out.below (HB.out.mono hB)).lbl hlt
      have hal := World.block_lt_of_cell? wr _ c0
      have HT := Lib.hid (List.take_succ_eq_append_getElem hkl)
      have HD := Lib.hid (show l = l.take k ++ l[k] :: l.drop (k + 1) by rw [← List.drop_eq_getElem_cons hkl, List.take_append_drop])
      generalize l[k] = p at *
      obtain ⟨a, b⟩ := p
      simp only at c0 c1
      have HBA := Lib.hid (HB.out.alloc hws (.cells #[.string a, .string b] 53))
      by_cases he : a = name
      · have t1 : (a.toList == name.toList) = true := by rw [he]; simp
        have HE := Lib.hid (show getF l name = b by
          unfold getF
          rw [HD.out, List.find?_append, List.find?_eq_none.2 (fun x hx => by simpa using HNO.out x hx)]
          simp [he])
        clear HD he
        go_wp2_with fail
        go_ret
        exact ⟨by rw [HE.out]; rfl, HBA.out⟩
      · have t1 : (a.toList == name.toList) = false := by rw [beq_eq_false_iff_ne]; exact fun h => he (ba_ext h)
        have HN : Hid (∀ x ∈ l.take (k + 1), x.1 ≠ name) := Lib.hid (fun x hx => by
          rw [HT.out, List.mem_append] at hx
          rcases hx with hx | hx
          · exact HNO.out x hx
          · simp only [List.mem_singleton] at hx; subst hx; exact he)
        clear HD he HT
        go_wp2_with fail
        go_roundg g
        case measure => omega
        case rel => exact ⟨k + 1, by omega, by go_num, HBA.out, HN.out⟩
theorem get_h {W : World} {v : Value} {l : List Lbl} (h : HasL W v l) (hl : l.length ≤ 1000) (name : ByteArray) :
    Calls Try.prog 28 #[v, .string name] W fun e w' => e = .returned (.string (getF l name)) ∧ Below W.heap.size W w' := by
  obtain ⟨A, c, rfl, h2, h3, h4⟩ := h
  exact get_any A _ c _ l name W h2 (Nat.le_refl _) (by omega)
theorem right_h {W : World} {v : Value} {l : List Lbl} (h : HasL W v l) (hl : l.length ≤ 1000) :
    Calls Try.prog 66 #[v] W fun e w' => e = .returned (.bool (rightS l)) ∧ Below W.heap.size W w' := by
  obtain ⟨A, c, rfl, h2, h3, h4⟩ := h
  exact rightSet_any A _ c l _ W h2 (Nat.le_refl _) (by omega)
theorem same_h {W : World} {v v2 : Value} {l l2 : List Lbl} (h : HasL W v l) (h2 : HasL W v2 l2) (hl : l.length ≤ 1000) (hl2 : l2.length ≤ 1000) :
    Calls Try.prog 26 #[v, v2] W fun e w' => e = .returned (.bool (decide (l = l2))) ∧ ∃ m, w' = W.drewN m := by
  obtain ⟨A, c, rfl, j2, j3, j4⟩ := h
  obtain ⟨A2, c2, rfl, k2, k3, k4⟩ := h2
  exact same_lbl A A2 _ c _ c2 _ _ l l2 W j2 k2 (by omega) (by omega)
/-- A call answers a list. -/
def AnsL (l : List Lbl) (W : World) (e : Ending) (w' : World) : Prop := ∃ A c, e = .returned (.slice A l.length c) ∧ HasL w' (.slice A l.length c) l ∧ Below W.heap.size W w'
theorem ansL_of {l : List Lbl} {W w' : World} {e : Ending} (h : OwnAns 53 2 l.length (lbls l) W e w') : AnsL l W e w' := by
  obtain ⟨A, c, h1, h2, h3, h4, h5⟩ := h
  exact ⟨A, c, h1, ⟨A, c, rfl, Sees.of_own h2, h4, h5⟩, h3⟩
theorem keep_h {W : World} {v : Value} {l : List Lbl} (h : HasL W v l) (hl : l.length ≤ 1000) {AN : Option Addr} {nn cn BN : Nat} {ns : List ByteArray} (hN : Sees W BN 1 AN nn (strs ns)) (hBN : BN ≤ W.heap.size) (hnn : nn ≤ 9223372036854775807) :
    Calls Try.prog 34 #[v, .slice AN nn cn] W (AnsL (l.filter fun x => hasS ns x.1) W) := by
  obtain ⟨A, c, rfl, h2, h3, h4⟩ := h
  exact (keep_any A AN _ c nn cn _ BN l ns W h2 (Nat.le_refl _) (by omega) hN hBN hnn).mono fun _ _ h => ansL_of h
theorem drop_h {W : World} {v : Value} {l : List Lbl} (h : HasL W v l) (hl : l.length ≤ 1000) {AN : Option Addr} {nn cn BN : Nat} {ns : List ByteArray} (hN : Sees W BN 1 AN nn (strs ns)) (hBN : BN ≤ W.heap.size) (hnn : nn ≤ 9223372036854775807) :
    Calls Try.prog 64 #[v, .slice AN nn cn] W (AnsL (l.filter fun x => !hasS ns x.1) W) := by
  obtain ⟨A, c, rfl, h2, h3, h4⟩ := h
  exact (drop_any A AN _ c nn cn _ BN l ns W h2 (Nat.le_refl _) (by omega) hN hBN hnn).mono fun _ _ h => ansL_of h
theorem one_name (w : World) (name : ByteArray) : Sees (w.alloc (.cells #[.string name] 9)) (w.alloc (.cells #[.string name] 9)).heap.size 1 (some ⟨w.heap.size, 0, none⟩) 1 (strs [name]) :=
  (Blk.mk (heap_alloc_new w _) : Blk _ w.heap.size 9 [.string name]).sees rfl (List.prefix_refl _)
end Go.Proofs.Ytbndmmfpoljeaaa

namespace Go.Proofs.Ytbndmmfpoljeaaa
open Go.ChangeShapes Go.WideShapes Go.ChangeAt Go.RowKit
set_option linter.unusedVariables false
set_option maxRecDepth 100000
theorem Try.infoLbls : (Try.prog.info? 26).map (fun i => (i.zero, i.size, i.bytes)) = some (some (.slice none 0 0), 1, 24) := by kernel_rfl
/-- A list of labels in a block of labels. -/
def OwnL (w : World) (v : Value) (l : List Lbl) : Prop := ∃ A c, v = .slice A l.length c ∧ w.ownsRow 0 53 2 (.slice A l.length c) l.length (lbls l)
theorem OwnL.hasL {w : World} {v : Value} {l : List Lbl} (h : OwnL w v l) : HasL w v l := by
  obtain ⟨A, c, rfl, h2⟩ := h
  obtain ⟨A', c', h3, h4, h5⟩ := own_slice h2
  injection h3 with h3 _ h6; subst h3; subst h6
  exact ⟨A, c, rfl, Sees.of_own h2, h4, h5⟩
theorem OwnL.below {w w' : World} {v : Value} {l : List Lbl} (h : OwnL w v l) (hb : Below w.heap.size w w') : OwnL w' v l := by
  obtain ⟨A, c, rfl, h2⟩ := h
  exact ⟨A, c, rfl, own_below h2 hb (Nat.le_refl _)⟩
theorem OwnL.stays {w : World} {v : Value} {l : List Lbl} (h : OwnL w v l) : Stays (fun W => OwnL W v l) w := fun _ hb => h.below hb
theorem ownL_of {l : List Lbl} {w w' : World} {e : Ending} (h : OwnAns 53 2 l.length (lbls l) w e w') : ∃ A c, e = .returned (.slice A l.length c) ∧ OwnL w' (.slice A l.length c) l ∧ Below w.heap.size w w' := by
  obtain ⟨A, c, h1, h2, h3, _⟩ := h
  exact ⟨A, c, h1, ⟨A, c, rfl, own_mono h2 (Nat.zero_le _)⟩, h3⟩
structure OwnRows (base : Nat) (v : Value) (rows : List (Value × List Lbl)) (w : World) : Prop where
  own : w.ownsRow base 26 1 v rows.length (rows.map Prod.fst)
  each : ∀ x ∈ rows, OwnL w x.1 x.2
theorem OwnRows.below {base : Nat} {v : Value} {rows : List (Value × List Lbl)} {w w' : World} (h : OwnRows base v rows w) (hb : Below w.heap.size w w') : OwnRows base v rows w' := ⟨own_below h.own hb (Nat.le_refl _), fun x hx => (h.each x hx).below hb⟩
theorem OwnRows.stays {base : Nat} {v : Value} {rows : List (Value × List Lbl)} {w : World} (h : OwnRows base v rows w) : Stays (fun W => OwnRows base v rows W) w := fun _ hb => h.below hb
theorem OwnRows.nil (base : Nat) (w : World) : OwnRows base (.slice none 0 0) [] w := ⟨by simpa using World.ownsRow_nil w base 26 1, (fun x hx => absurd hx List.not_mem_nil)⟩
theorem OwnRows.push {base : Nat} {v v' x : Value} {l : List Lbl} {rows : List (Value × List Lbl)} {w w' : World} (h : OwnRows base v rows w) (hx : OwnL w x l) (hown : w'.ownsRow base 26 1 v' (rows.length + 1) (rows.map Prod.fst ++ [x])) (hg : w.grownBy w' v.ownBlock) : OwnRows base v' (rows ++ [(x, l)]) w' := by
  have key : ∀ y m, OwnL w y m → OwnL w' y m := by
    rintro y m ⟨A, c, rfl, h2⟩
    exact ⟨A, c, rfl, own_grown h2 hg (own_ne h2 h.own (by decide))⟩
  refine ⟨by simpa using hown, fun y hy => ?_⟩
  rcases List.mem_append.1 hy with hy | hy
  · exact key _ _ (h.each y hy)
  · rw [List.mem_singleton] at hy; subst hy; exact key _ _ hx
theorem OwnRows.mono {base base' : Nat} {v : Value} {rows : List (Value × List Lbl)} {w : World} (h : OwnRows base v rows w) (hb : base' ≤ base) : OwnRows base' v rows w := ⟨own_mono h.own hb, h.each⟩
/-- The sets of rows. -/
def setsOf (rows : List (Value × List Lbl)) : List (List Lbl) := rows.map Prod.snd
theorem setsOf_push (rows : List (Value × List Lbl)) (v : Value) (l : List Lbl) : setsOf (rows ++ [(v, l)]) = setsOf rows ++ [l] := by simp [setsOf]
/-- A call answers new rows of these sets. -/
def RowsAns (sets : List (List Lbl)) (w : World) (e : Ending) (w' : World) : Prop := ∃ A c rows, setsOf rows = sets ∧ e = .returned (.slice A rows.length c) ∧ OwnRows w.heap.size (.slice A rows.length c) rows w' ∧ Below w.heap.size w w' ∧ rows.length ≤ c ∧ c ≤ 9223372036854775807
end Go.Proofs.Ytbndmmfpoljeaaa

namespace Go.Proofs.Ytbndmmfpoljeaaa
open Go.ChangeShapes Go.WideShapes Go.ChangeAt Go.RowKit Go.Lib
set_option linter.unusedVariables false
set_option maxRecDepth 100000
theorem Try.infoPt : (Try.prog.info? 28).map (fun i => (i.zero, i.size, i.bytes)) = some (some (.agg #[.slice none 0 0, .int .i64 0]), 2, 32) := by kernel_rfl
/-- A point: where its set lies, its set, its value. -/
structure PtR where
  sv : Value
  set : List Lbl
  val : Int
def PtR.cells (x : PtR) : List Value := [x.sv, .int .i64 x.val]
def pts (l : List PtR) : List Value := l.flatMap PtR.cells
theorem pts_length (l : List PtR) : (pts l).length = l.length * 2 := by
  induction l with
  | nil => rfl
  | cons x l ih => simp only [pts, List.flatMap_cons, List.length_append, List.length_cons, List.length_nil, PtR.cells] at ih ⊢; omega
theorem pts_append (l m : List PtR) : pts (l ++ m) = pts l ++ pts m := by simp [pts]
theorem pts_get (l : List PtR) (p : Nat) (h : p < l.length) : (pts l)[p * 2]? = some l[p].sv ∧ (pts l)[p * 2 + 1]? = some (.int .i64 l[p].val) := by
  have e : pts l = pts (l.take p) ++ (pts [l[p]] ++ pts (l.drop (p + 1))) := by
    rw [← pts_append, ← pts_append, List.singleton_append, ← List.drop_eq_getElem_cons h, List.take_append_drop]
  have hl : (pts (l.take p)).length = p * 2 := by rw [pts_length, List.length_take]; omega
  rw [e]
  refine ⟨?_, ?_⟩
  · rw [List.getElem?_append_right (by omega), hl, Nat.sub_self]; rfl
  · rw [List.getElem?_append_right (by omega), hl, show p * 2 + 1 - p * 2 = 1 by omega]; rfl
/-- An own row of points, each set in a block of labels. -/
structure PtsAt (base : Nat) (v : Value) (rows : List PtR) (w : World) : Prop where
  own : w.ownsRow base 28 2 v rows.length (pts rows)
  each : ∀ x ∈ rows, OwnL w x.sv x.set
theorem PtsAt.below {base : Nat} {v : Value} {rows : List PtR} {w w' : World} (h : PtsAt base v rows w) (hb : Below w.heap.size w w') : PtsAt base v rows w' := ⟨own_below h.own hb (Nat.le_refl _), fun x hx => (h.each x hx).below hb⟩
theorem PtsAt.nil (base : Nat) (w : World) : PtsAt base (.slice none 0 0) [] w := ⟨by simpa [pts] using World.ownsRow_nil w base 28 2, (fun x hx => absurd hx List.not_mem_nil)⟩
theorem PtsAt.mono {base base' : Nat} {v : Value} {rows : List PtR} {w : World} (h : PtsAt base v rows w) (hb : base' ≤ base) : PtsAt base' v rows w := ⟨own_mono h.own hb, h.each⟩
theorem PtsAt.push {base : Nat} {v v' x : Value} {l : List Lbl} {z : Int} {rows : List PtR} {w w' : World} (h : PtsAt base v rows w) (hx : OwnL w x l) (hown : w'.ownsRow base 28 2 v' (rows.length + 1) (pts rows ++ [x, .int .i64 z])) (hg : w.grownBy w' v.ownBlock) : PtsAt base v' (rows ++ [⟨x, l, z⟩]) w' := by
  have key : ∀ y m, OwnL w y m → OwnL w' y m := by
    rintro y m ⟨A, c, rfl, h2⟩
    exact ⟨A, c, rfl, own_grown h2 hg (own_ne h2 h.own (by decide))⟩
  refine ⟨by rw [pts_append]; simpa [pts, PtR.cells] using hown, fun y hy => ?_⟩
  rcases List.mem_append.1 hy with hy | hy
  · exact key _ _ (h.each y hy)
  · rw [List.mem_singleton] at hy; subst hy; exact key _ _ hx
/-- What points tell. -/
def ptsOf (rows : List PtR) : List (List Lbl × Int) := rows.map fun x => (x.set, x.val)
theorem ptsOf_push (rows : List PtR) (v : Value) (l : List Lbl) (z : Int) : ptsOf (rows ++ [⟨v, l, z⟩]) = ptsOf rows ++ [(l, z)] := by simp [ptsOf]
/-- A call answers new points. -/
def PtsAns (ps : List (List Lbl × Int)) (w : World) (e : Ending) (w' : World) : Prop := ∃ A c rows, ptsOf rows = ps ∧ e = .returned (.slice A rows.length c) ∧ PtsAt w.heap.size (.slice A rows.length c) rows w' ∧ Below w.heap.size w w' ∧ rows.length ≤ c ∧ c ≤ 9223372036854775807
end Go.Proofs.Ytbndmmfpoljeaaa
