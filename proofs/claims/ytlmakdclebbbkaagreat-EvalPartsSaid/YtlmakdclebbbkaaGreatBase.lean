/- Texts, merged in one. -/
import Derived.Below
import Derived.Laws.OwnMore
import Derived.Deep.AppendLies
import Derived.Deep.Draws
import Derived.Calls
import Derived.Laws.AppendOwnNone
import Derived.OwnWalk
import Derived.WalkKit
import Derived.Deep.RegionLaw
import Derived.RowKit
import Derived.IntWalk
import Derived.ProofKit
import Derived.Test.YtlmakdclebbbkaaGreatRows
import Derived.Lib.Hide
import Derived.Deep.LoopGhost
namespace Go.Proofs.YtlmakdclebbbkaaGreat
open Go.RowKit
set_option linter.unusedVariables false
theorem add_block (a : Addr) (n : Nat) : (a.add n).block = a.block := by unfold Addr.add; split <;> rfl
theorem add_add (a : Addr) (i j : Nat) : (a.add i).add j = a.add (i + j) := by
  unfold Addr.add
  by_cases hi : i = 0 <;> by_cases hj : j = 0 <;> simp [hi, hj, Nat.add_assoc]
theorem add_zero' (a : Addr) : a.add 0 = a := by unfold Addr.add; simp

theorem add_spelt (a : Addr) (i j : Nat) (hj : 0 < j) : (⟨(a.add i).block, (a.add i).off + j, none⟩ : Addr) = a.add (i + j) := by
  unfold Addr.add
  by_cases hi : i = 0
  · subst hi; rw [if_pos rfl, if_neg (by omega)]; simp
  · rw [if_neg hi, if_neg (by omega)]; simp [Nat.add_assoc]
structure Sees (w : World) (B size : Nat) (A : Option Addr) (n : Nat) (xs : List Value) : Prop where
  len : xs.length = n * size
  at_ : 0 < n → ∃ ad, A = some ad ∧ ad.block < B ∧ ∀ j u, xs[j]? = some u → w.cell? (ad.add j) = some u

section
variable {w w' : World} {B B' size n : Nat} {A : Option Addr} {xs : List Value}
theorem Sees.nil : Sees w B size A 0 [] := ⟨by simp, fun h => absurd h (by omega)⟩
theorem Sees.one {k : Nat} (h : Sees w B 1 A n xs) (hk : k < n) : ∃ ad u, A = some ad ∧ xs[k]? = some u ∧ w.cell? (ad.add k) = some u := by
  obtain ⟨ad, e, hb, hc⟩ := h.at_ (by omega)
  have hl : k < xs.length := by have := h.len; omega
  exact ⟨ad, xs[k], e, List.getElem?_eq_getElem hl, hc k _ (List.getElem?_eq_getElem hl)⟩
theorem Sees.keep (h : Sees w B size A n xs) (hk : ∀ p : Addr, p.block < B → w'.cell? p = w.cell? p) : Sees w' B size A n xs :=
  ⟨h.len, fun hn => by
    obtain ⟨ad, e, hb, hc⟩ := h.at_ hn
    exact ⟨ad, e, hb, fun j u hu => (hk _ (by rw [add_block]; exact hb)).trans (hc j u hu)⟩⟩
theorem Sees.more (h : Sees w B size A n xs) (hB : B ≤ B') : Sees w B' size A n xs :=
  ⟨h.len, fun hn => by
    obtain ⟨ad, e, hb, hc⟩ := h.at_ hn
    exact ⟨ad, e, by omega, hc⟩⟩
theorem Sees.below (h : Sees w B size A n xs) (hb : Below B w w') : Sees w' B size A n xs := h.keep fun _ hp => hb.cell hp
theorem Sees.drewN (h : Sees w B size A n xs) (k : Nat) : Sees (w.drewN k) B size A n xs := ⟨h.len, h.at_⟩
theorem Sees.alloc (h : Sees w B size A n xs) (hB : B ≤ w.heap.size) (o : Obj) : Sees (w.alloc o) B size A n xs := h.keep fun p hp => World.cell?_alloc_lt w o p (by omega)
theorem Sees.setCell (h : Sees w B size A n xs) {p : Addr} (hB : B ≤ p.block) (u : Value) : Sees (w.setCell p u) B size A n xs :=
  h.keep fun q hq => World.cell?_setCell_other w p q u (fun e => by subst e; omega)
theorem Sees.grown (h : Sees w B size A n xs) {row : Option Nat} (hg : w.grownBy w' row) (hB : B ≤ w.heap.size) (hr : ∀ g, row = some g → B ≤ g) : Sees w' B size A n xs :=
  h.keep fun p hp => World.cell?_of_block (hg.block p.block (by omega) (fun e => by have := hr _ e.symm; omega))
theorem Sees.take (h : Sees w B size A n xs) {k : Nat} (hk : k ≤ n) : Sees w B size A k (xs.take (k * size)) := by
  refine ⟨by rw [List.length_take, h.len]; exact Nat.min_eq_left (Nat.mul_le_mul_right _ hk), fun h0 => ?_⟩
  obtain ⟨ad, e, hb, hc⟩ := h.at_ (by omega)
  refine ⟨ad, e, hb, fun j u hu => hc j u ?_⟩
  rw [List.getElem?_take] at hu
  split at hu
  · exact hu
  · cases hu
theorem Sees.drop (h : Sees w B size A n xs) {k cap : Nat} (hk : k ≤ n) (hc : n ≤ cap) :
    Sees w B size (if cap = k then A else A.map (·.add (k * size))) (n - k) (xs.drop (k * size)) := by
  refine ⟨by rw [List.length_drop, h.len, Nat.sub_mul], fun hn => ?_⟩
  obtain ⟨ad, rfl, hb, hcell⟩ := h.at_ (by omega)
  rw [if_neg (by omega)]
  refine ⟨ad.add (k * size), rfl, by rw [add_block]; exact hb, fun j u hu => ?_⟩
  rw [add_add]
  exact hcell _ u (by rw [← hu, List.getElem?_drop])
theorem Sees.of_own {base : Nat} {e : TypeId} {c : Nat} (h : w.ownsRow base e size (.slice A n c) n xs) : Sees w w.heap.size size A n xs := by
  refine ⟨h.1, fun hn => ?_⟩
  obtain ⟨g, cap, hv, _, hlt⟩ := h.form hn
  have hA : A = some ⟨g, 0, none⟩ := by injection hv
  subst hA
  exact ⟨_, rfl, hlt, h.cells (g := g) rfl⟩
end
def Blk (w : World) (g : Nat) (t : TypeId) (cs : List Value) : Prop := w.heap[g]? = some (.cells cs.toArray t (0, 0))
section
variable {w w' : World} {g : Nat} {t : TypeId} {cs : List Value}
theorem Blk.eq (h : Blk w g t cs) : w.heap[g]? = some (.cells cs.toArray t (0, 0)) := h
theorem Blk.mk (h : w.heap[g]? = some (.cells cs.toArray t (0, 0))) : Blk w g t cs := h
theorem Blk.lt (h : Blk w g t cs) : g < w.heap.size := by
  unfold Blk at h
  exact (Array.getElem?_eq_some_iff.1 h).1
theorem Blk.cell (h : Blk w g t cs) (i : Nat) : w.cell? ⟨g, i, none⟩ = cs[i]? := by
  have := cell_of_row w g i cs.toArray t (0, 0) h
  simpa using this
theorem Blk.frozen (h : Blk w g t cs) (i : Nat) : w.frozen? ⟨g, i, none⟩ = false := by
  unfold Blk at h
  simp [World.frozen?, h]
theorem Blk.drewN (h : Blk w g t cs) (n : Nat) : Blk (w.drewN n) g t cs := h
theorem Blk.alloc (h : Blk w g t cs) (o : Obj) : Blk (w.alloc o) g t cs := (Below.heap_alloc w o g h.lt).trans h
theorem Blk.set (h : Blk w g t cs) (i : Nat) (u : Value) : Blk (w.setCell ⟨g, i, none⟩ u) g t (cs.set i u) := by
  unfold Blk at h ⊢
  simp [World.setCell, Array.getElem?_modify, h]
theorem Blk.far (h : Blk w g t cs) {p : Addr} (hp : g ≠ p.block) (u : Value) : Blk (w.setCell p u) g t cs := (Below.heap_setCell w p u g hp).trans h
theorem Blk.below {B : Nat} (h : Blk w g t cs) (hb : Below B w w') (hg : g < B) : Blk w' g t cs := (hb.block g hg).trans h
theorem Blk.grown {row : Option Nat} (h : Blk w g t cs) (hb : w.grownBy w' row) (hg : some g ≠ row) : Blk w' g t cs := (hb.block g h.lt hg).trans h
theorem Blk.sees (h : Blk w g t cs) {size n : Nat} {xs : List Value} (hl : xs.length = n * size) (hx : xs <+: cs) : Sees w w.heap.size size (some ⟨g, 0, none⟩) n xs := by
  refine ⟨hl, fun hn => ⟨_, rfl, h.lt, fun j u hu => ?_⟩⟩
  have e : (⟨g, 0, none⟩ : Addr).add j = ⟨g, j, none⟩ := by unfold Addr.add; split <;> simp_all
  obtain ⟨ys, rfl⟩ := hx
  rw [e, h.cell j, List.getElem?_append_left (List.getElem?_eq_some_iff.1 hu).1, hu]
theorem Blk.of_own {base : Nat} {size n : Nat} {xs : List Value} (h : w.ownsRow base t size (.slice (some ⟨g, 0, none⟩) n n) n xs) : Blk w g t xs := by
  rcases h.2 with ⟨h1, _⟩ | ⟨g', cap, cur, hv, _, hb, _, _, hs, ht⟩
  · cases h1
  · injection hv with h1 h2 h3
    injection h1 with h1; injection h1 with h1; subst h1; subst h3
    have : cur.toList = xs := by rw [← ht, List.take_of_length_le (by simp [hs])]
    subst this
    unfold Blk; simpa using hb
theorem Blk.owns (h : Blk w g t cs) {base size n cap : Nat} (hb : base ≤ g) (hn : n ≤ cap) (hc : cap ≤ maxLen) (hl : cs.length = cap * size) : w.ownsRow base t size (.slice (some ⟨g, 0, none⟩) n cap) n (cs.take (n * size)) :=
  ⟨by rw [List.length_take, hl]; exact Nat.min_eq_left (Nat.mul_le_mul_right _ hn), .inr ⟨g, cap, cs.toArray, rfl, hb, h, hn, hc, by simpa using hl, rfl⟩⟩
end
def ints (l : List Int) : List Value := l.map (Value.int .i64)
theorem ints_length (l : List Int) : (ints l).length = l.length := by simp [ints]
theorem ints_get (l : List Int) (k : Nat) (h : k < l.length) : (ints l)[k]? = some (.int .i64 l[k]) := by simp [ints, h]
theorem ints_append (l m : List Int) : ints (l ++ m) = ints l ++ ints m := by simp [ints]
theorem Sees.int {w : World} {B : Nat} {A : Option Addr} {n : Nat} {l : List Int} (h : Sees w B 1 A n (ints l)) {k : Nat} (hk : k < n) :
    ∃ ad, ∃ hl : k < l.length, A = some ad ∧ w.cell? (ad.add k) = some (.int .i64 l[k]) := by
  have hl : k < l.length := by have := h.len; rw [ints_length] at this; omega
  obtain ⟨ad, u, e, hx, hc⟩ := h.one hk
  rw [ints_get l k hl] at hx
  injection hx with hx; subst hx
  exact ⟨ad, hl, e, hc⟩
theorem Sees.int_len {w : World} {B : Nat} {A : Option Addr} {n : Nat} {l : List Int} (h : Sees w B 1 A n (ints l)) : l.length = n := by
  have := h.len; rw [ints_length] at this; omega
def bools (l : List Bool) : List Value := l.map Value.bool
theorem bools_length (l : List Bool) : (bools l).length = l.length := by simp [bools]
theorem bools_get (l : List Bool) (k : Nat) (h : k < l.length) : (bools l)[k]? = some (.bool l[k]) := by simp [bools, h]
theorem Sees.bool {w : World} {B : Nat} {A : Option Addr} {n : Nat} {l : List Bool} (h : Sees w B 1 A n (bools l)) {k : Nat} (hk : k < n) :
    ∃ ad, ∃ hl : k < l.length, A = some ad ∧ w.cell? (ad.add k) = some (.bool l[k]) := by
  have hl : k < l.length := by have := h.len; rw [bools_length] at this; omega
  obtain ⟨ad, u, e, hx, hc⟩ := h.one hk
  rw [bools_get l k hl] at hx
  injection hx with hx; subst hx
  exact ⟨ad, hl, e, hc⟩
theorem ints_one (l : List Int) : ∀ u ∈ ints l, u.oneCell' = true := by
  intro u hu; simp only [ints, List.mem_map] at hu; obtain ⟨b, _, rfl⟩ := hu; rfl
theorem own_mono {w : World} {base base' : Nat} {e : TypeId} {size n : Nat} {v : Value} {xs : List Value} (h : w.ownsRow base e size v n xs) (hb : base' ≤ base) : w.ownsRow base' e size v n xs := by
  refine ⟨h.1, ?_⟩
  rcases h.2 with h2 | ⟨g, cap, cur, hv, hg, rest⟩
  · exact .inl h2
  · exact .inr ⟨g, cap, cur, hv, Nat.le_trans hb hg, rest⟩
theorem own_below {w w' : World} {B base : Nat} {e : TypeId} {size n : Nat} {v : Value} {xs : List Value} (h : w.ownsRow base e size v n xs) (hb : Below B w w') (hB : w.heap.size ≤ B) : w'.ownsRow base e size v n xs := by
  refine ⟨h.1, ?_⟩
  rcases h.2 with h2 | ⟨g, cap, cur, hv, hg, hh, rest⟩
  · exact .inl h2
  · refine .inr ⟨g, cap, cur, hv, hg, ?_, rest⟩
    have : g < w.heap.size := (Array.getElem?_eq_some_iff.1 hh).1
    rw [hb.block g (by omega)]; exact hh
theorem own_far {w : World} {base : Nat} {e : TypeId} {size n : Nat} {v : Value} {xs : List Value} (h : w.ownsRow base e size v n xs) {p : Addr} (hp : p.block < base) (u : Value) : (w.setCell p u).ownsRow base e size v n xs :=
  ownsRow_setCell_below h hp u
theorem own_slice {w : World} {base : Nat} {e : TypeId} {size n : Nat} {v : Value} {xs : List Value} (h : w.ownsRow base e size v n xs) : ∃ A c, v = .slice A n c ∧ n ≤ c ∧ c ≤ 9223372036854775807 := by
  rcases h.2 with ⟨rfl, rfl⟩ | ⟨g, cap, cur, rfl, _, _, hc, hm, _⟩
  · exact ⟨none, 0, rfl, Nat.le_refl _, by omega⟩
  · exact ⟨_, _, rfl, hc, by unfold maxLen at hm; omega⟩
theorem calls_quiet {P : Program} {f : FuncId} {args : Array Value} {w : World} {n : Nat} {v : Value}
    (h : Calls P f args (w.drewN n) fun e w' => e = .returned v ∧ w.drewN n = w') : Calls P f args (w.drewN n) fun e w'' => e = .returned v ∧ ∃ m, w'' = w.drewN m :=
  h.mono fun _ _ hh => ⟨hh.1, n, hh.2.symm⟩
end Go.Proofs.YtlmakdclebbbkaaGreat

namespace Go.Proofs.YtlmakdclebbbkaaGreat
open Go.RowKit
set_option linter.unusedVariables false
theorem nothing_appended {P : Program} (w : World) (base : Nat) (t ty e : TypeId) (i : TypeInfo) (size : Nat) (ht : P.underlying t = some (.slice e)) (hi : P.info? e = some i)
    (v : Value) (n : Nat) (xs : List Value) (hown : w.ownsRow base e size v n xs) (c : Nat) : (Builtin.append_ #[t, t] ty #[v, .slice none 0 c]).run P w = .ok v w := by
  rcases hown.2 with ⟨rfl, rfl⟩ | ⟨g, cap, cur, rfl, _, _, hle, _⟩ <;>
    simp [Builtin.append_, run_underlying ht, sizeOf, typeInfo, hi, Builtin.lenOf, Builtin.firstCells, storeCells]
  omega
theorem append_run {P : Program} (w : World) (base : Nat) (t ty e : TypeId) (i : TypeInfo) (z : Value) (size bytes : Nat) (ht : P.underlying t = some (.slice e)) (hi : P.info? e = some i) (hz : i.zero = some z)
    (hsize : i.size = size) (hby : i.bytes = bytes) (hzs : z.cells.size = size) (hsz : 0 < size)
    (v : Value) (n : Nat) (xs : List Value) (hown : w.ownsRow base e size v n xs)
    (B : Nat) (A : Option Addr) (m c : Nat) (news : List Value) (hs : Sees w B size A m news) (h1 : ∀ u ∈ news, u.oneCell' = true)
    (h63 : n + m ≤ maxLen) (hbytes : (n + m) * bytes ≤ 140737488355328) (hbase : base ≤ w.heap.size) :
    ∃ v' w', (Builtin.append_ #[t, t] ty #[v, .slice A m c]).run P w = .ok v' w' ∧ w'.ownsRow base e size v' (n + m) (xs ++ news) ∧ w.grownBy w' v.ownBlock := by
  cases A with
  | none =>
    have hm : m = 0 := by
      rcases Nat.eq_zero_or_pos m with h | h
      · exact h
      · obtain ⟨ad, h, _⟩ := hs.at_ h; cases h
    subst hm
    have hn : news = [] := List.eq_nil_of_length_eq_zero (by simpa using hs.len)
    subst hn
    exact ⟨v, w, nothing_appended w base t ty e i size ht hi v n xs hown c, by simpa using hown, World.grownBy.refl w _⟩
  | some ad =>
    obtain ⟨v', w', hr, h2, h3, _⟩ := run_append_own (P := P) w base t ty e i z size bytes ht hi hz hsize hby hzs hsz v n xs hown ad m c news hs.len (by
      intro j u hu
      have hm : 0 < m := by
        have h := (List.getElem?_eq_some_iff.1 hu).1
        rw [hs.len] at h
        rcases Nat.eq_zero_or_pos m with h0 | h0
        · subst h0; simp at h
        · exact h0
      obtain ⟨ad', h, _, hc⟩ := hs.at_ hm
      injection h with h; subst h
      exact hc j u hu) h1 h63 hbytes hbase
    exact ⟨v', w', hr, h2, h3⟩
theorem wpList_append_sees {P : Program} {w : World} {ops : Array Oper} {rest : List Oper} {o : Oper} {a : Act} {Q : Exit → Act → World → Prop} (hgd : o.guard = none) (s x : Operand) (t : TypeId)
    (ho : o.op = .call { callee := .builtin .append, args := #[s, x], argTypes := #[t, t] })
    (base : Nat) (e : TypeId) (i : TypeInfo) (z : Value) (size bytes : Nat) (ht : P.underlying t = some (.slice e)) (hi : P.info? e = some i) (hz : i.zero = some z)
    (hsize : i.size = size) (hby : i.bytes = bytes) (hzs : z.cells.size = size) (hsz : 0 < size)
    (v : Value) (n : Nat) (xs : List Value) (hv : a.eval s = v) (hown : w.ownsRow base e size v n xs)
    (B : Nat) (A : Option Addr) (m c : Nat) (news : List Value) (hx : a.eval x = .slice A m c) (hs : Sees w B size A m news) (h1 : ∀ u ∈ news, u.oneCell' = true)
    (h63 : n + m ≤ maxLen) (hbytes : (n + m) * bytes ≤ 140737488355328) (hbase : base ≤ w.heap.size)
    (h : ∀ v' w', w'.ownsRow base e size v' (n + m) (xs ++ news) → w.grownBy w' v.ownBlock → wpList P ops Q rest (a.put o.dst v') w') : wpList P ops Q (o :: rest) a w := by
  refine wpList_plain hgd fun K hK => ?_
  obtain ⟨v', w', hr, h2, h3⟩ := append_run (P := P) w base t o.type e i z size bytes ht hi hz hsize hby hzs hsz v n xs hown B A m c news hs h1 h63 hbytes hbase
  unfold Oper.wp execOp
  simp only [ho, resolve, invoke, builtin, Sem.run_bind, Sem.run_pure, Result.andThen_ok, List.map_toArray, List.map_cons, List.map_nil, hv, hx, hr]
  exact hK _ _ (h v' w' h2 h3)
def OwnAns (t : TypeId) (size n : Nat) (xs : List Value) (w : World) (e : Ending) (w' : World) : Prop :=
  ∃ A c, e = .returned (.slice A n c) ∧ w'.ownsRow w.heap.size t size (.slice A n c) n xs ∧ Below w.heap.size w w' ∧ n ≤ c ∧ c ≤ 9223372036854775807
theorem ownAns {t : TypeId} {size n c : Nat} {xs : List Value} {w w' : World} {e : Ending} {A : Option Addr} (hown : w'.ownsRow w.heap.size t size (.slice A n c) n xs) (hb : Below w.heap.size w w')
    (he : e = .returned (.slice A n c)) (h1 : n ≤ c) (h2 : c ≤ 9223372036854775807) : OwnAns t size n xs w e w' := ⟨A, c, he, hown, hb, h1, h2⟩
end Go.Proofs.YtlmakdclebbbkaaGreat

namespace Go.Proofs.YtlmakdclebbbkaaGreat
open Go.RowKit
set_option linter.unusedVariables false
theorem ret_int {k : IntKind} {a b : Int} (h : a = b) : Ending.returned (.int k a) = .returned (.int k b) := by rw [h]
theorem ret_int1 {k : IntKind} {a b : Int} {v : Value} (h : a = b) : Ending.returned (.tuple #[.int k a, v]) = .returned (.tuple #[.int k b, v]) := by rw [h]
theorem ret_bool {a b : Bool} (h : a = b) : Ending.returned (.bool a) = .returned (.bool b) := by rw [h]
def I64 (a : Int) : Prop := -9223372036854775808 ≤ a ∧ a ≤ 9223372036854775807
instance (a : Int) : Decidable (I64 a) := by unfold I64; exact inferInstance
def nV (n : Int) : Int := if I64 n then n else 0
def nE (n : Int) : Int := if I64 n then 0 else 3
theorem nV_in {n : Int} (h : I64 n) : nV n = n := by simp [nV, h]
theorem nV_out {n : Int} (h : ¬ I64 n) : nV n = 0 := by simp [nV, h]
theorem nE_in {n : Int} (h : I64 n) : nE n = 0 := by simp [nE, h]
theorem nE_out {n : Int} (h : ¬ I64 n) : nE n = 3 := by simp [nE, h]
theorem wf_of {a : Int} (h : (Lit.int .i64 a).wf = true) : I64 a := by
  simpa [Lit.wf, IntKind.min, IntKind.max, IntKind.signed, IntKind.bits, I64] using h
theorem wrap64_of {n : Int} (h : I64 n) : wrap64 n = n := by unfold I64 at h; unfold wrap64; omega
theorem I64_wrap (n : Int) : I64 (wrap64 n) := by unfold I64 wrap64; omega
theorem wrap64_rounds (n : Int) : ∃ k : Int, wrap64 n = n - k * 18446744073709551616 ∧ (¬ I64 n → k ≠ 0) := by
  refine ⟨(n + 9223372036854775808) / 18446744073709551616, ?_, ?_⟩
  · unfold wrap64; omega
  · intro h; unfold I64 at h; omega
theorem sum_ge {a b : Int} (wa : I64 a) (wb : I64 b) (h : 9223372036854775807 < a + b) : ¬ a < wrap64 (a + b) ∧ 0 < b := by
  unfold wrap64; unfold I64 at *; omega
theorem sum_le {a b : Int} (wa : I64 a) (wb : I64 b) (h : a + b < -9223372036854775808) : a < wrap64 (a + b) ∧ ¬ 0 < b := by
  unfold wrap64; unfold I64 at *; omega
theorem sub_ge {a b : Int} (wa : I64 a) (wb : I64 b) (h : 9223372036854775807 < a - b) : wrap64 (a - b) < a ∧ ¬ 0 < b := by
  unfold wrap64; unfold I64 at *; omega
theorem sub_le {a b : Int} (wa : I64 a) (wb : I64 b) (h : a - b < -9223372036854775808) : ¬ wrap64 (a - b) < a ∧ 0 < b := by
  unfold wrap64; unfold I64 at *; omega
theorem out_cases {n : Int} (h : ¬ I64 n) : 9223372036854775807 < n ∨ n < -9223372036854775808 := by unfold I64 at h; omega
theorem tdiv_in {a b : Int} (wa : I64 a) (h : ¬ (a = -9223372036854775808 ∧ b = -1)) : I64 (a.tdiv b) := by
  have h1 : (a.tdiv b).natAbs ≤ a.natAbs := by rw [Int.natAbs_tdiv]; exact Nat.div_le_self _ _
  unfold I64 at *
  by_cases hq : a.tdiv b = 9223372036854775808
  · exfalso; apply h
    have ha : a = -9223372036854775808 := by omega
    refine ⟨ha, ?_⟩
    have h2 := Int.natAbs_tdiv a b
    rw [hq, ha] at h2
    have h3 : (9223372036854775808 : Int).natAbs = 9223372036854775808 := rfl
    have h4 : (-9223372036854775808 : Int).natAbs = 9223372036854775808 := rfl
    rw [h3, h4] at h2
    have h5 : b.natAbs = 1 := by
      rcases Nat.lt_or_ge 1 b.natAbs with h6 | h6
      · have := Nat.div_lt_self (n := 9223372036854775808) (k := b.natAbs) (by omega) h6; exact absurd h2 (Nat.ne_of_gt this)
      · rcases Nat.eq_zero_or_pos b.natAbs with h7 | h7
        · rw [h7] at h2; simp at h2
        · omega
    rcases Int.natAbs_eq b with h6 | h6
    · rw [h5] at h6; rw [ha, h6] at hq; simp at hq
    · rw [h5] at h6; exact h6
  · omega
theorem mul_wraps {a b : Int} (wa : I64 a) (wb : I64 b) (hb : b ≠ 0) (h : ¬ I64 (a * b)) : wrap64 ((wrap64 (a * b)).tdiv b) ≠ a ∨ b = -1 ∧ a = -9223372036854775808 := by
  by_cases hm : b = -1 ∧ a = -9223372036854775808
  · exact .inr hm
  refine .inl fun he => ?_
  obtain ⟨k, hk, hk0⟩ := wrap64_rounds (a * b)
  have hk0 := hk0 h
  by_cases hp : wrap64 (a * b) = -9223372036854775808 ∧ b = -1
  · obtain ⟨hp, rfl⟩ := hp
    rw [hp] at he
    have : (-9223372036854775808 : Int).tdiv (-1) = 9223372036854775808 := by decide
    rw [this] at he
    have : wrap64 9223372036854775808 = -9223372036854775808 := by unfold wrap64; omega
    omega
  have hi := tdiv_in (I64_wrap (a * b)) (b := b) hp
  rw [wrap64_of hi] at he
  have h1 := Int.mul_tdiv_add_tmod (wrap64 (a * b)) b
  rw [he] at h1
  have h2 := Int.natAbs_tmod (wrap64 (a * b)) b
  have h3 : (wrap64 (a * b)).natAbs % b.natAbs < b.natAbs := Nat.mod_lt _ (by omega)
  have h4 : a * b = b * a := Int.mul_comm _ _
  have h5 : b.natAbs ≤ 9223372036854775808 := by unfold I64 at wb; omega
  generalize (wrap64 (a * b)).tmod b = r at *
  rw [hk, h4] at h1
  omega
theorem mul_stays {a b : Int} (wa : I64 a) (hb : b ≠ 0) (h : I64 (a * b)) : wrap64 ((wrap64 (a * b)).tdiv b) = a ∧ ¬ (b = -1 ∧ a = -9223372036854775808) := by
  rw [wrap64_of h, Int.mul_tdiv_cancel _ hb, wrap64_of wa]
  refine ⟨rfl, ?_⟩
  rintro ⟨rfl, rfl⟩
  revert h; decide
end Go.Proofs.YtlmakdclebbbkaaGreat

namespace Go.Proofs.YtlmakdclebbbkaaGreat
open Go.RowKit
set_option linter.unusedVariables false
def lbls (l : List (ByteArray × ByteArray)) : List Value := l.flatMap fun x => [.string x.1, .string x.2]
theorem lbls_length (l : List (ByteArray × ByteArray)) : (lbls l).length = l.length * 2 := by
  induction l with
  | nil => rfl
  | cons x l ih => simp only [lbls, List.flatMap_cons, List.length_append, List.length_cons, List.length_nil] at ih ⊢; omega
theorem lbls_append (l m : List (ByteArray × ByteArray)) : lbls (l ++ m) = lbls l ++ lbls m := by simp [lbls]
theorem lbls_one (l : List (ByteArray × ByteArray)) : ∀ u ∈ lbls l, u.oneCell' = true := by
  intro u hu
  simp only [lbls, List.mem_flatMap] at hu
  obtain ⟨x, _, hu⟩ := hu
  simp at hu
  rcases hu with rfl | rfl <;> rfl
theorem lbls_get (l : List (ByteArray × ByteArray)) (p : Nat) (h : p < l.length) : (lbls l)[p * 2]? = some (.string l[p].1) ∧ (lbls l)[p * 2 + 1]? = some (.string l[p].2) := by
  have e : lbls l = lbls (l.take p) ++ (lbls [l[p]] ++ lbls (l.drop (p + 1))) := by
    rw [← lbls_append, ← lbls_append, List.singleton_append, ← List.drop_eq_getElem_cons h, List.take_append_drop]
  have hl : (lbls (l.take p)).length = p * 2 := by rw [lbls_length, List.length_take]; omega
  rw [e]
  refine ⟨?_, ?_⟩
  · rw [List.getElem?_append_right (by omega), hl, Nat.sub_self]; rfl
  · rw [List.getElem?_append_right (by omega), hl, show p * 2 + 1 - p * 2 = 1 by omega]; rfl
theorem Sees.lbl {w : World} {B : Nat} {A : Option Addr} {n : Nat} {l : List (ByteArray × ByteArray)} (h : Sees w B 2 A n (lbls l)) {k : Nat} (hk : k < n) :
    ∃ ad, ∃ hl : k < l.length, A = some ad ∧ w.cell? (ad.add (k * 2)) = some (.string l[k].1) ∧ w.cell? ⟨(ad.add (k * 2)).block, (ad.add (k * 2)).off + 1, none⟩ = some (.string l[k].2) := by
  have hl : k < l.length := by have := h.len; rw [lbls_length] at this; omega
  obtain ⟨ad, e, _, hc⟩ := h.at_ (by omega)
  obtain ⟨h0, h1⟩ := lbls_get l k hl
  exact ⟨ad, hl, e, hc _ _ h0, by rw [add_spelt _ _ _ (by omega)]; exact hc _ _ h1⟩
theorem Sees.lbl_len {w : World} {B : Nat} {A : Option Addr} {n : Nat} {l : List (ByteArray × ByteArray)} (h : Sees w B 2 A n (lbls l)) : l.length = n := by
  have := h.len; rw [lbls_length] at this; omega
end Go.Proofs.YtlmakdclebbbkaaGreat

namespace Go.Proofs.YtlmakdclebbbkaaGreat
open Go.ChangeShapes Go.WideShapes Go.ChangeAt Go.RowKit
set_option linter.unusedVariables false
set_option maxRecDepth 100000
def smallN (c : Nat) : Bool := decide (97 ≤ c) && decide (c ≤ 122)
def digitN (c : Nat) : Bool := decide (48 ≤ c) && decide (c ≤ 57)
def withinN (c : Nat) : Bool := smallN c || digitN c || decide (c = 95)
def escN (c : Nat) : Bool := decide (c = 34) || decide (c = 92)
theorem smallN_yes {c : Nat} (h1 : 97 ≤ c) (h2 : c ≤ 122) : smallN c = true := by simp [smallN, h1, h2]
theorem smallN_low {c : Nat} (h1 : ¬ 97 ≤ c) : smallN c = false := by simp [smallN, h1]
theorem smallN_high {c : Nat} (h1 : ¬ c ≤ 122) : smallN c = false := by simp [smallN, h1]
theorem digitN_yes {c : Nat} (h1 : 48 ≤ c) (h2 : c ≤ 57) : digitN c = true := by simp [digitN, h1, h2]
theorem digitN_low {c : Nat} (h1 : ¬ 48 ≤ c) : digitN c = false := by simp [digitN, h1]
theorem digitN_high {c : Nat} (h1 : ¬ c ≤ 57) : digitN c = false := by simp [digitN, h1]
theorem ret_yes {e : Ending} {b : Bool} (h : e = .returned (.bool true)) (hb : b = true) : e = .returned (.bool b) := by rw [hb]; exact h
theorem ret_no {e : Ending} {b : Bool} (h : e = .returned (.bool false)) (hb : b = false) : e = .returned (.bool b) := by rw [hb]; exact h
theorem small_any (c : Nat) (w : World) : Calls Tryz.prog 108 #[.int .u8 c] w fun e w' => e = .returned (.bool (smallN c)) ∧ w = w' := by
  by_cases h1 : 97 ≤ c
  · by_cases h2 : c ≤ 122
    · have H := Lib.hid (smallN_yes h1 h2)
      have i1 : (97 : Int) ≤ c := by omega
      have i2 : (c : Int) ≤ 122 := by omega
      go_enter Tryz.func108, Tryz.ntmps108
      go_wp2_with fail
      go_ret
      exact ⟨ret_yes rfl H.out, rfl⟩
    · have H := Lib.hid (smallN_high h2)
      have i1 : (97 : Int) ≤ c := by omega
      have i2 : ¬ (c : Int) ≤ 122 := by omega
      go_enter Tryz.func108, Tryz.ntmps108
      go_wp2_with fail
      go_ret
      exact ⟨ret_no rfl H.out, rfl⟩
  · have H := Lib.hid (smallN_low h1)
    have i1 : ¬ (97 : Int) ≤ c := by omega
    go_enter Tryz.func108, Tryz.ntmps108
    go_wp2_with fail
    go_ret
    exact ⟨ret_no rfl H.out, rfl⟩
theorem digit_any (c : Nat) (w : World) : Calls Tryz.prog 142 #[.int .u8 c] w fun e w' => e = .returned (.bool (digitN c)) ∧ w = w' := by
  by_cases h1 : 48 ≤ c
  · by_cases h2 : c ≤ 57
    · have H := Lib.hid (digitN_yes h1 h2)
      have i1 : (48 : Int) ≤ c := by omega
      have i2 : (c : Int) ≤ 57 := by omega
      go_enter Tryz.func142, Tryz.ntmps142
      go_wp2_with fail
      go_ret
      exact ⟨ret_yes rfl H.out, rfl⟩
    · have H := Lib.hid (digitN_high h2)
      have i1 : (48 : Int) ≤ c := by omega
      have i2 : ¬ (c : Int) ≤ 57 := by omega
      go_enter Tryz.func142, Tryz.ntmps142
      go_wp2_with fail
      go_ret
      exact ⟨ret_no rfl H.out, rfl⟩
  · have H := Lib.hid (digitN_low h1)
    have i1 : ¬ (48 : Int) ≤ c := by omega
    go_enter Tryz.func142, Tryz.ntmps142
    go_wp2_with fail
    go_ret
    exact ⟨ret_no rfl H.out, rfl⟩
theorem textWithin_any (c : Nat) (w : World) : Calls Tryz.prog 109 #[.int .u8 c] w fun e w' => e = .returned (.bool (withinN c)) ∧ w = w' := by
  have HS := Lib.hid (small_any c w)
  have HD := Lib.hid (digit_any c w)
  have HW : Hid (withinN c = (smallN c || digitN c || decide (c = 95))) := Lib.hid rfl
  generalize withinN c = r at *
  generalize smallN c = a at *
  generalize digitN c = b at *
  cases a with
  | true =>
    have HR : Hid (r = true) := Lib.hid (by rw [HW.out]; simp)
    clear HW HD
    go_enter Tryz.func109, Tryz.ntmps109
    go_wp2_with fail
    refine HS.out.mono ?_; rintro e w' ⟨rfl, rfl⟩
    go_wp2_with fail
    go_ret
    exact ⟨ret_yes rfl HR.out, rfl⟩
  | false =>
    cases b with
    | true =>
      have HR : Hid (r = true) := Lib.hid (by rw [HW.out]; simp)
      clear HW
      go_enter Tryz.func109, Tryz.ntmps109
      go_wp2_with fail
      refine HS.out.mono ?_; rintro e w' ⟨rfl, rfl⟩
      go_wp2_with fail
      refine HD.out.mono ?_; rintro e w' ⟨rfl, rfl⟩
      go_wp2_with fail
      go_ret
      exact ⟨ret_yes rfl HR.out, rfl⟩
    | false =>
      obtain ⟨q, hq⟩ : ∃ q, ((c : Int) == 95) = q := ⟨_, rfl⟩
      have HR : Hid (r = q) := Lib.hid (by
        rw [HW.out, ← hq, Bool.eq_iff_iff]
        simp only [Bool.or_self, Bool.false_or, decide_eq_true_eq, beq_iff_eq]
        omega)
      clear HW
      go_enter Tryz.func109, Tryz.ntmps109
      go_wp2_with fail
      refine HS.out.mono ?_; rintro e w' ⟨rfl, rfl⟩
      go_wp2_with fail
      refine HD.out.mono ?_; rintro e w' ⟨rfl, rfl⟩
      go_wp2_with fail
      go_ret
      exact ⟨by rw [HR.out]; rfl, rfl⟩
theorem escaped_any (c : Nat) (w : World) : Calls Tryz.prog 145 #[.int .u8 c] w fun e w' => e = .returned (.bool (escN c)) ∧ w = w' := by
  by_cases h1 : c = 34
  · subst h1
    go_enter Tryz.func145, Tryz.ntmps145
    go_wp2_with fail
    go_ret
    exact ⟨rfl, rfl⟩
  · by_cases h2 : c = 92
    · subst h2
      go_enter Tryz.func145, Tryz.ntmps145
      go_wp2_with fail
      go_ret
      exact ⟨rfl, rfl⟩
    · have H := Lib.hid (show escN c = false by simp [escN, h1, h2])
      have i1 : ((c : Int) == 34) = false := by rw [beq_eq_false_iff_ne]; omega
      have i2 : ((c : Int) == 92) = false := by rw [beq_eq_false_iff_ne]; omega
      clear h1 h2
      go_enter Tryz.func145, Tryz.ntmps145
      go_wp2_with fail
      go_ret
      exact ⟨ret_no rfl H.out, rfl⟩
end Go.Proofs.YtlmakdclebbbkaaGreat
