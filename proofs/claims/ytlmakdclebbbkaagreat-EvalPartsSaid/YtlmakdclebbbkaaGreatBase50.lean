/- Texts, merged in one. -/
import Derived.Test.YtlmakdclebbbkaaGreatBase49
import Derived.Test.YtlmakdclebbbkaaGreatBase48
import Derived.Test.YtlmakdclebbbkaaGreatBase31
import Derived.Test.YtlmakdclebbbkaaGreatBase
import Derived.Test.YtlmakdclebbbkaaGreatRows
import Derived.Maps.OwnOps
import Derived.Maps.OwnSet
import Derived.Maps.Views
import Derived.WalkKit
import Derived.Test.YtlmakdclebbbkaaGreatBase32
import Derived.Test.YtlmakdclebbbkaaGreatBase45
import Derived.Test.YtlmakdclebbbkaaGreatBase46
namespace Go.Proofs.YtlmakdclebbbkaaGreat
open Go.ChangeShapes Go.WideShapes Go.ChangeAt Go.RowKit Go.Lib Go.Sort
set_option linter.unusedVariables false
set_option maxRecDepth 100000
theorem compactI_ok {zs : List Int} (hs : zs.Pairwise fun x y => x ≤ y) : ∀ m, m ≤ zs.length → (∀ x, x ∈ compactUpTo zs.toArray m ↔ x ∈ zs.take m) ∧ (compactUpTo zs.toArray m).Pairwise (· < ·)
  | 0, _ => ⟨fun x => by simp [compactUpTo], by simp [compactUpTo]⟩
  | m + 1, hm => by
    obtain ⟨h1, h2⟩ := compactI_ok hs m (by omega)
    have hml : m < zs.length := by omega
    have hg : zs.toArray[m]! = zs[m] := by simp [hml]
    rw [compactUpTo_succ, hg, List.take_succ_eq_append_getElem hml]
    by_cases hk : keeps zs.toArray m = true
    · rw [if_pos hk]
      refine ⟨fun x => by rw [List.mem_append, List.mem_append, h1], ?_⟩
      rw [List.pairwise_append]
      refine ⟨h2, by simp, fun x hx y hy => ?_⟩
      rw [List.mem_singleton] at hy; subst hy
      rw [h1] at hx
      obtain ⟨j, hj, rfl⟩ := List.getElem_of_mem hx
      rw [List.length_take] at hj
      rw [List.getElem_take]
      have hle : ∀ p q (hp : p < zs.length) (hq : q < zs.length), p ≤ q → zs[p] ≤ zs[q] := by
        intro p q hp hq hpq
        rcases Nat.lt_or_ge p q with h | h
        · exact List.pairwise_iff_getElem.1 hs p q hp hq h
        · have : p = q := by omega
          subst this; exact Int.le_refl _
      have hne : zs[m] ≠ zs[m - 1] := by
        have h3 := hk
        unfold keeps at h3
        rw [decide_eq_true_eq] at h3
        rcases h3 with h3 | h3
        · omega
        · rw [hg] at h3
          rwa [show zs.toArray[m - 1]! = zs[m - 1] by simp [show m - 1 < zs.length by omega]] at h3
      have h5 := hle j (m - 1) (by omega) (by omega) (by omega)
      have h6 := hle (m - 1) m (by omega) hml (by omega)
      show zs[j] < zs[m]
      rcases Int.lt_or_eq_of_le (Int.le_trans h5 h6) with h7 | h7
      · exact h7
      · exact absurd (Int.le_antisymm (h7 ▸ h5) h6) hne
    · rw [if_neg hk, List.append_nil]
      refine ⟨fun x => ?_, h2⟩
      rw [h1, List.mem_append, List.mem_singleton]
      refine ⟨.inl, fun h => ?_⟩
      rcases h with h | h
      · exact h
      · have h3 : ¬ (m = 0 ∨ zs.toArray[m]! ≠ zs.toArray[m - 1]!) := by unfold keeps at hk; simpa using hk
        have hm0 : m ≠ 0 := fun h => h3 (.inl h)
        have heq : zs.toArray[m]! = zs.toArray[m - 1]! := Classical.byContradiction fun h => h3 (.inr h)
        rw [hg, show zs.toArray[m - 1]! = zs[m - 1] by simp [show m - 1 < zs.length by omega]] at heq
        rw [h, heq]
        exact List.mem_iff_getElem.2 ⟨m - 1, by rw [List.length_take]; omega, by rw [List.getElem_take]⟩
theorem chgS_ok (D : List SK) (look f t : Int) (ms : List Mtc) : (∀ x, x ∈ chgS D look f t ms ↔ x ∈ D.flatMap (chgOne look f t ms)) ∧ (chgS D look f t ms).Pairwise (· < ·) := by
  unfold chgS
  obtain ⟨h1, h2⟩ := compactI_ok (isort_rises (D.flatMap (chgOne look f t ms))) _ (Nat.le_refl _)
  refine ⟨fun x => ?_, h2⟩
  show x ∈ compactUpTo _ _ ↔ _
  rw [h1, List.take_length]
  exact (isort_perm _).mem_iff
theorem chgS_in {D : List SK} {look f t : Int} {ms : List Mtc} : ∀ x ∈ chgS D look f t ms, f ≤ x ∧ x ≤ t := fun x hx => by
  rw [(chgS_ok D look f t ms).1, List.mem_flatMap] at hx
  obtain ⟨y, _, hx⟩ := hx
  unfold chgOne at hx
  split at hx
  · exact ((mem_chg look f t y.2 x).1 hx).1
  · cases hx
end Go.Proofs.YtlmakdclebbbkaaGreat

namespace Go.Proofs.YtlmakdclebbbkaaGreat
open Go.ChangeShapes Go.WideShapes Go.ChangeAt Go.RowKit Go.Lib
set_option linter.unusedVariables false
set_option linter.unusedSimpArgs false
set_option maxRecDepth 100000
theorem VOk.put {D : List SK} {l : List Lbl} {x : Int × Int} (h : VOk D) (hx : I64 x.2) : VOk (putS D l x) := by
  unfold putS
  split
  · unfold putD
    split
    · intro y hy z hz
      rcases List.mem_or_eq_of_mem_set hy with hy | rfl
      · exact h y hy z hz
      · rcases List.mem_append.1 hz with hz | hz
        · rw [List.getD_eq_getElem?_getD] at hz
          cases e : D[placeN D (printL l)]? with
          | none => rw [e] at hz; exact absurd hz (by simp)
          | some q => rw [e] at hz; exact h q (List.mem_of_getElem? e) z hz
        · rw [List.mem_singleton] at hz; subst hz; exact hx
    · intro y hy z hz
      rcases List.mem_append.1 hy with hy | hy
      · exact h y (List.mem_of_mem_take hy) z hz
      · rcases List.mem_cons.1 hy with rfl | hy
        · rw [List.mem_singleton] at hz; subst hz; exact hx
        · exact h y (List.mem_of_mem_drop hy) z hz
  · exact h
theorem VOk.puts {l : List Lbl} : ∀ (xs : List (Int × Int)) (D : List SK), VOk D → (∀ x ∈ xs, I64 x.2) → VOk (putsD D l xs)
  | [], D, h, _ => h
  | x :: xs, D, h, hx => VOk.puts xs (putS D l x) (h.put (hx x List.mem_cons_self)) fun y hy => hx y (List.mem_cons_of_mem _ hy)
theorem samples_in : ∀ (t : Int) (zs : List Int), ∀ x ∈ samplesOf t zs, I64 x.2
  | t, [] => fun x hx => absurd hx (by simp [samplesOf])
  | t, z :: zs => fun x hx => by
    simp only [samplesOf, List.mem_cons] at hx
    rcases hx with rfl | hx
    · have := nWithin_in (z.tdiv 12) (lo := -4) (hi := 9) (by omega)
      show I64 (nWithin (z.tdiv 12) (-4) 9)
      unfold I64; omega
    · exact samples_in _ zs x hx
theorem vok_up (k : KStore) : ∀ i, VOk (fillUp k i).2
  | 0 => fun x hx => by simp [fillUp] at hx
  | i + 1 => by
    unfold fillUp
    split
    · exact vok_up k i
    · refine VOk.puts _ _ (vok_up k i) fun x hx => ?_
      unfold xsOf at hx
      split at hx
      · exact samples_in _ _ x hx
      · cases hx
theorem vok_fill (k : KStore) : VOk (fillF k) := vok_up k _
theorem fill_len (k : KStore) : (fillF k).length ≤ 5 := by
  have := (fillUp_inv k (min k.qs.length 5)).2.1
  unfold fillF; omega
theorem lim_keep (k : KStore) (d : Nat) (hd : d ≤ 5) : lim (fillF k) d ≤ 500 := by
  have h := fill_len k
  cases d with
  | zero => simp [lim]
  | succ d =>
    simp only [lim]
    have h1 : 2 ^ d ≤ 2 ^ 4 := Nat.pow_le_pow_right (by decide) (by omega)
    have h2 : (fillF k).length * 2 ^ d ≤ 5 * 2 ^ 4 := Nat.mul_le_mul h h1
    omega
theorem chgX_ok (D : List SK) (f t : Int) (x : PE) : (∀ z, z ∈ chgX D f t x ↔ ∃ p ∈ x.picks, z ∈ chgS D p.nOf f t p.msOf) ∧ (chgX D f t x).Pairwise (· < ·) := by
  unfold chgX
  obtain ⟨h1, h2⟩ := compactI_ok (isort_rises (x.picks.flatMap fun p => chgS D p.nOf f t p.msOf)) _ (Nat.le_refl _)
  refine ⟨fun z => ?_, h2⟩
  show z ∈ compactUpTo _ _ ↔ _
  rw [h1, List.take_length, (isort_perm _).mem_iff, List.mem_flatMap]
theorem chgX_in {D : List SK} {f t : Int} {x : PE} : ∀ z ∈ chgX D f t x, f ≤ z ∧ z ≤ t := fun z hz => by
  obtain ⟨p, _, h⟩ := ((chgX_ok D f t x).1 z).1 hz
  exact chgS_in z h
end Go.Proofs.YtlmakdclebbbkaaGreat

namespace Go.Proofs.YtlmakdclebbbkaaGreat
open Go.RowKit Go.Maps
set_option linter.unusedVariables false
set_option maxRecDepth 100000
theorem keyedI : Keyed Tryz.prog 3 := int_keyed Tryz.underlying3
theorem zeroB (w : World) : (zeroValue 4).run Tryz.prog w = .ok (.bool false) w := by kernel_rfl
theorem wf_i64 {t : Int} (h : I64 t) : (Lit.int .i64 t).wf = true := by
  simpa [Lit.wf, IntKind.min, IntKind.max, IntKind.signed, IntKind.bits, I64] using h
theorem keyI {t : Int} (h : I64 t) : keyOf Tryz.prog 3 (.int .i64 t) = some (.int .i64 t) := keyOf_int_mk Tryz.underlying3 (wf_i64 h)
def BMap (w : World) (b n : Nat) (f : Int → Bool) : Prop :=
  ∃ D : DataW Unit, w.ownsMap Tryz.prog 3 (plainElem Tryz.prog 4) b n D ∧ IsMap D ∧ ∀ t : Int, D.atKey (.int .i64 t) (.lit (.bool false)) = .lit (.bool (f t))
theorem BMap.made (w : World) : BMap (w.alloc (.map #[] 0)) w.heap.size 0 (fun _ => false) :=
  ⟨.map [], World.ownsMap_made _ _ _ _, ⟨[], rfl⟩, fun t => rfl⟩
theorem BMap.lt {w : World} {b n : Nat} {f : Int → Bool} (h : BMap w b n f) : b < w.heap.size := by obtain ⟨D, h, _⟩ := h; exact h.lt
theorem BMap.kept {w w' : World} {b n : Nat} {f : Int → Bool} {row : Option Nat} (h : BMap w b n f) (hg : w.grownBy w' row) (hne : some b ≠ row) : BMap w' b n f := by
  obtain ⟨D, h, h2⟩ := h; exact ⟨D, h.kept hg hne, h2⟩
theorem BMap.below {w w' : World} {b n : Nat} {f : Int → Bool} (h : BMap w b n f) (hb : Below w.heap.size w w') : BMap w' b n f :=
  h.kept (row := none) ⟨hb.os, hb.tape, hb.output, hb.size, fun i hi _ => hb.block i hi⟩ (by simp)
theorem BMap.drewN {w : World} {b n : Nat} {f : Int → Bool} (h : BMap w b n f) (m : Nat) : BMap (w.drewN m) b n f := h
theorem BMap.look {w : World} {b n : Nat} {f : Int → Bool} (h : BMap w b n f) {t : Int} (ht : I64 t) : (Instr.lookup 70 (.map (some b)) (.int .i64 t) false).run Tryz.prog w = .ok (.bool (f t)) w := by
  obtain ⟨D, h, _, hf⟩ := h
  obtain ⟨v, ps, hrun, hv⟩ := h.lookup keyedI Tryz.underlying70 (zeroB w) (plainElem_bool Tryz.underlying4 false) (keyI ht)
  rw [hf] at hv
  have : v = .bool (f t) := by
    unfold plainElem at hv
    rw [Tryz.underlying4] at hv
    cases v <;> simp at hv
    rw [hv.1]
  rw [this] at hrun; exact hrun
theorem BMap.put {w : World} {b n : Nat} {f : Int → Bool} (h : BMap w b n f) (hn : n < 1000000) {t : Int} (ht : I64 t) :
    ∃ w', (Instr.mapUpdate 70 (.map (some b)) (.int .i64 t) (.bool true)).run Tryz.prog w = .ok () w' ∧ BMap w' b (n + 1) (fun x => x == t || f x) ∧ w.grownBy w' (some b) := by
  obtain ⟨D, h, hm, hf⟩ := h
  obtain ⟨w', hrun, h2, h3⟩ := h.update keyedI Tryz.underlying70 (by unfold maxLen; omega) (keyI ht) (plainElem_bool Tryz.underlying4 true)
  refine ⟨w', hrun, ⟨_, h2, hm.put _ _, fun x => ?_⟩, h3⟩
  by_cases hx : x = t
  · subst hx
    rw [atKey_put_same (k := .int .i64 x) hm (show WideAt.IsKeyLit (.int .i64 x) from trivial)]
    simp
  · rw [atKey_put_other (by intro e; injection e with _ e; exact hx e), hf]
    have : (x == t) = false := by simpa using hx
    show DataW.lit (Lit.bool (f x)) = DataW.lit (Lit.bool (x == t || f x))
    rw [this, Bool.false_or]
theorem wpList_put_bmap {P : Program} {w : World} {ops : Array Oper} {rest : List Oper} {o : Oper} {a : Act} {Q : Exit → Act → World → Prop} (hg : o.guard = none) (m x v : Operand) (t : TypeId) (hop : o.op = Op.mapUpdate t m x v)
    (vm vx vv : Value) (hm : a.eval m = vm) (hx : a.eval x = vx) (hv : a.eval v = vv) (w' : World) (hrun : (Instr.mapUpdate t vm vx vv).run P w = .ok () w') (hK : wpList P ops Q rest (a.put o.dst undef) w') : wpList P ops Q (o :: rest) a w := by
  refine wpList_plain hg fun K' hK' => ?_
  unfold Oper.wp
  simp [execOp, hop, hm, hx, hv, hrun, Result.andThen]
  exact hK' _ _ hK
end Go.Proofs.YtlmakdclebbbkaaGreat

namespace Go.Proofs.YtlmakdclebbbkaaGreat
open Go.ChangeShapes Go.WideShapes Go.ChangeAt Go.RowKit Go.Lib
set_option linter.unusedVariables false
set_option linter.unusedSimpArgs false
set_option maxRecDepth 100000
theorem BMap.kindE {w : World} {b n : Nat} {f : Int → Bool} (h : BMap w b n f) : ∀ (cs : Array Value) (t : TypeId) (q : Nat × Nat), w.heap[b]? ≠ some (Obj.cells cs t q) := by
  obtain ⟨D, ⟨es, clock, h1, F, hs, hD⟩, h2⟩ := h
  intro cs t q e
  rw [h1] at e; cases e
theorem BMap.ne_ownE {w : World} {b n base : Nat} {f : Int → Bool} {e : TypeId} {s m : Nat} {u : Value} {xs : List Value} (h : BMap w b n f) (ho : w.ownsRow base e s u m xs) : u.ownBlock ≠ some b := fun hu => by
  obtain ⟨cs, q, e1⟩ := own_type ho hu
  exact h.kindE _ _ _ e1
theorem changes_len (d : Nat) (x : PE) (D : List SK) (a b : Int) (hD : DOk D) (ht : x.ty ≠ 0) (hd : x.deep ≤ d) (hl : lim D d ≤ 500) : (chgX D a b x).length ≤ 400000 := by
  have h1 := picks_le d x hd ht
  have h2 := compact_length_le (isort (x.picks.flatMap fun p => chgS D p.nOf a b p.msOf))
  rw [isort_len] at h2
  have key : ∀ l : List PE, (l.flatMap fun p => chgS D p.nOf a b p.msOf).length ≤ l.length * (400 * D.length) := by
    intro l
    induction l with
    | nil => simp
    | cons p l ih =>
      have h3 := chgS_len2 D p.nOf a b p.msOf hD
      rw [List.flatMap_cons, List.length_append, List.length_cons, Nat.succ_mul]
      omega
  have h3 := key x.picks
  have h4 : x.picks.length * (400 * D.length) ≤ 400000 := by
    cases d with
    | zero => exfalso; have := hd; obtain ⟨k, n, ms, ns, ks⟩ := x; unfold PE.deep at this; omega
    | succ d => exact lim_picks hl h1
  unfold chgX; omega
theorem tok_in {t : Int} (h1 : -1000 ≤ t) (h2 : t ≤ 1000) : TOk t := ⟨by omega, by omega⟩
end Go.Proofs.YtlmakdclebbbkaaGreat

namespace Go.Proofs.YtlmakdclebbbkaaGreat
open Go.ChangeShapes Go.WideShapes Go.ChangeAt Go.RowKit Go.Lib
set_option linter.unusedVariables false
set_option linter.unusedSimpArgs false
set_option maxRecDepth 100000
theorem nodup_leP {α : Type} [DecidableEq α] : ∀ {l : List α} {m : List α}, l.Nodup → (∀ x ∈ l, x ∈ m) → l.length ≤ m.length
  | [], _, _, _ => Nat.zero_le _
  | x :: l, m, h, hs => by
    have hx := hs x List.mem_cons_self
    have h1 := nodup_leP (m := m.erase x) (List.nodup_cons.1 h).2 fun y hy => by
      have hne : y ≠ x := fun e => (List.nodup_cons.1 h).1 (e ▸ hy)
      exact (List.mem_erase_of_ne hne).2 (hs y (List.mem_cons_of_mem _ hy))
    rw [List.length_erase_of_mem hx] at h1
    have := List.length_pos_of_mem hx
    rw [List.length_cons]; omega
theorem nodup_eqP {l m : List Int} (hl : l.Nodup) (hm : m.Nodup) (h : ∀ x, x ∈ l ↔ x ∈ m) : l.length = m.length :=
  Nat.le_antisymm (nodup_leP hl fun x hx => (h x).1 hx) (nodup_leP hm fun x hx => (h x).2 hx)
theorem rising_nodup {l : List Int} (h : l.Pairwise (· < ·)) : l.Nodup := h.imp fun h e => by omega
structure KeyL (f : Int → Bool) (m : Nat) (K : List Int) : Prop where
  nd : K.Nodup
  mem : ∀ y, f y = true ↔ y ∈ K
  len : K.length = m
theorem KeyL.none : KeyL (fun _ => false) 0 [] := ⟨List.nodup_nil, fun y => by simp, rfl⟩
theorem KeyL.put {f : Int → Bool} {m : Nat} {K : List Int} (h : KeyL f m K) (t : Int) : ∃ K', KeyL (fun x => x == t || f x) (if f t = true then m else m + 1) K' ∧ ∀ x, x ∈ K' ↔ x = t ∨ x ∈ K := by
  by_cases hf : f t = true
  · rw [if_pos hf]
    have ht := (h.mem t).1 hf
    have key : ∀ x, x ∈ K ↔ x = t ∨ x ∈ K := fun x => ⟨.inr, fun hx => hx.elim (fun e => e ▸ ht) id⟩
    exact ⟨K, ⟨h.nd, fun y => by rw [Bool.or_eq_true, beq_iff_eq, h.mem y]; exact (key y).symm, h.len⟩, key⟩
  · rw [if_neg hf]
    have ht : t ∉ K := fun hx => hf ((h.mem t).2 hx)
    exact ⟨t :: K, ⟨List.nodup_cons.2 ⟨ht, h.nd⟩, fun y => by rw [Bool.or_eq_true, beq_iff_eq, h.mem y, List.mem_cons], by rw [List.length_cons, h.len]⟩, fun x => List.mem_cons⟩
def wantR (c : Int) (p q : List Pt) : List Pt × Int := if c ≤ 7 then mathR c p q else if c ≤ 13 then filterR c p q else logicR c p q
theorem parts_keepT {c : Int} {x y : PE} (h1 : 3 ≤ c) (h2 : c ≤ 16) (hx : KeepT 5 2 x) (hy : KeepT 5 2 y) : KeepT 6 2 (.mk c 0 [] [] [x, y]) := by
  refine two_factsT (n := 0) (m := 0) h1 h2 hx hy ?_
  unfold twoT
  simp only
  rw [if_neg (by decide), if_neg (by omega)]
  by_cases h7 : c ≤ 7
  · rw [if_pos h7]
  · rw [if_neg h7, if_neg (by omega), if_neg (by omega)]
theorem keepT_right6 {x : PE} (hK : KeepT 6 2 x) : x.right = true := by
  unfold PE.right; rw [hK.ty]; simp; have := hK.deep; omega
theorem keepT_right5 {x : PE} (hK : KeepT 5 2 x) : x.right = true := by
  unfold PE.right; rw [hK.ty]; simp; have := hK.deep; omega
theorem parts_eval {D : List SK} {t c : Int} {x y : PE} {P Q : List Pt} {e f : Int} (h1 : 3 ≤ c) (h2 : c ≤ 16) (hx : KeepT 5 2 x) (hy : KeepT 5 2 y) (hp : evalR D t 5 x = (P, e)) (hq : evalR D t 5 y = (Q, f)) :
    evalR D t 6 (.mk c 0 [] [] [x, y]) = if e ≠ 0 then ([], e) else if f ≠ 0 then ([], f) else wantR c P Q := by
  have hz := parts_keepT h1 h2 hx hy
  unfold evalR at hp hq ⊢
  rw [if_pos (keepT_right5 hx)] at hp
  rw [if_pos (keepT_right5 hy)] at hq
  rw [if_pos (keepT_right6 hz)]
  have nx := comF_plain (D := D) (t := t) (d := 4) (x := x) (by rw [hx.ty]; decide)
  have ny := comF_plain (D := D) (t := t) (d := 4) (x := y) (by rw [hy.ty]; decide)
  have ez := comF_two (D := D) (t := t) (d := 5) (k := c) (n := 0) (ms := []) (ns := []) (a := x) (b := y) (by rw [hz.ty]; decide) (by intro e; omega)
  obtain ⟨⟨⟨un, un2, us⟩, ue⟩, hu⟩ : ∃ r, comF D t 5 x = r := ⟨_, rfl⟩
  obtain ⟨⟨⟨vn, vn2, vs⟩, ve⟩, hv⟩ : ∃ r, comF D t 5 y = r := ⟨_, rfl⟩
  rw [hu] at nx hp ez
  rw [hv] at ny hq ez
  simp only at hp hq nx ny ez
  injection nx with nx1 _
  injection nx1 with nx1 nx2
  injection ny with ny1 _
  injection ny1 with ny1 ny2
  subst nx1; subst nx2; subst ny1; subst ny2
  injection hp with hp1 hp2
  injection hq with hq1 hq2
  subst hp1; subst hp2; subst hq1; subst hq2
  rw [ez]
  by_cases he : ue ≠ 0
  · rw [if_pos he, if_pos he]; rfl
  · rw [if_neg he, if_neg he]
    by_cases hf : ve ≠ 0
    · rw [if_pos hf, if_pos hf]; rfl
    · rw [if_neg hf, if_neg hf]
      unfold twoE wantR
      by_cases h7 : c ≤ 7
      · simp [h7]
      · by_cases h13 : c ≤ 13
        · have h14 : ¬ (14 ≤ c) := by omega
          simp [h7, h13, h14]
        · have h14 : 14 ≤ c := by omega
          simp [h7, h13, h14]
theorem parts_chg {D : List SK} {f t c : Int} {x y : PE} (h2 : 3 ≤ c) : ∀ z, z ∈ chgX D f t (.mk c 0 [] [] [x, y]) ↔ z ∈ chgX D f t x ∨ z ∈ chgX D f t y := fun z => by
  rw [(chgX_ok D f t _).1, (chgX_ok D f t x).1, (chgX_ok D f t y).1]
  have hp : (PE.mk c 0 [] [] [x, y]).picks = x.picks ++ y.picks := by
    show (if c = 2 then [PE.mk c 0 [] [] [x, y]] else []) ++ (x.picks ++ (y.picks ++ [])) = _
    rw [if_neg (by omega)]
    simp
  rw [hp]
  constructor
  · rintro ⟨p, hp, hz⟩
    rcases List.mem_append.1 hp with hp | hp
    · exact .inl ⟨p, hp, hz⟩
    · exact .inr ⟨p, hp, hz⟩
  · rintro (⟨p, hp, hz⟩ | ⟨p, hp, hz⟩)
    · exact ⟨p, List.mem_append_left _ hp, hz⟩
    · exact ⟨p, List.mem_append_right _ hp, hz⟩
end Go.Proofs.YtlmakdclebbbkaaGreat

namespace Go.Proofs.YtlmakdclebbbkaaGreat
open Go.RowKit Go.Maps
set_option linter.unusedVariables false
def BSet (w : World) (b n : Nat) (f : Int → Bool) (m : Nat) : Prop :=
  ∃ D : DataW Unit, w.ownsMap Tryz.prog 3 (plainElem Tryz.prog 4) b n D ∧ Tidy D ∧ (∀ t : Int, D.atKey (.int .i64 t) (.lit (.bool false)) = .lit (.bool (f t))) ∧ (∀ t : Int, has D (.int .i64 t) = f t) ∧ size D = m
theorem BSet.bmap {w : World} {b n m : Nat} {f : Int → Bool} (h : BSet w b n f m) : BMap w b n f := by
  obtain ⟨D, h1, h2, h3, _⟩ := h; exact ⟨D, h1, h2.isMap, h3⟩
theorem BSet.made (w : World) : BSet (w.alloc (.map #[] 0)) w.heap.size 0 (fun _ => false) 0 :=
  ⟨.map [], World.ownsMap_made _ _ _ _, tidy_empty, fun t => rfl, fun t => rfl, rfl⟩
theorem BSet.lt {w : World} {b n m : Nat} {f : Int → Bool} (h : BSet w b n f m) : b < w.heap.size := h.bmap.lt
theorem BSet.kept {w w' : World} {b n m : Nat} {f : Int → Bool} {row : Option Nat} (h : BSet w b n f m) (hg : w.grownBy w' row) (hne : some b ≠ row) : BSet w' b n f m := by
  obtain ⟨D, h, h2⟩ := h; exact ⟨D, h.kept hg hne, h2⟩
theorem BSet.below {w w' : World} {b n m : Nat} {f : Int → Bool} (h : BSet w b n f m) (hb : Below w.heap.size w w') : BSet w' b n f m :=
  h.kept (row := none) ⟨hb.os, hb.tape, hb.output, hb.size, fun i hi _ => hb.block i hi⟩ (by simp)
theorem BSet.put {w : World} {b n m : Nat} {f : Int → Bool} (h : BSet w b n f m) (hn : n < 1000000) {t : Int} (ht : I64 t) :
    ∃ w', (Instr.mapUpdate 70 (.map (some b)) (.int .i64 t) (.bool true)).run Tryz.prog w = .ok () w' ∧ BSet w' b (n + 1) (fun x => x == t || f x) (if f t = true then m else m + 1) ∧ w.grownBy w' (some b) := by
  obtain ⟨D, h, hm, hf, hh, hsz⟩ := h
  obtain ⟨w', hrun, h2, h3⟩ := h.update keyedI Tryz.underlying70 (by unfold maxLen; omega) (keyI ht) (plainElem_bool Tryz.underlying4 true)
  refine ⟨w', hrun, ⟨_, h2, hm.put (show WideAt.IsKeyLit (.int .i64 t) from trivial) _, fun x => ?_, fun x => ?_, ?_⟩, h3⟩
  · by_cases hx : x = t
    · subst hx
      rw [atKey_put_same (k := .int .i64 x) hm.isMap (show WideAt.IsKeyLit (.int .i64 x) from trivial)]
      simp
    · rw [atKey_put_other (by intro e; injection e with _ e; exact hx e), hf]
      have : (x == t) = false := by simpa using hx
      show DataW.lit (Lit.bool (f x)) = DataW.lit (Lit.bool (x == t || f x))
      rw [this, Bool.false_or]
  · by_cases hx : x = t
    · subst hx
      rw [has_put_same hm.isMap (show WideAt.IsKeyLit (.int .i64 x) from trivial)]
      simp
    · rw [has_put_other (by intro e; injection e with _ e; exact hx e), hh]
      have : (x == t) = false := by simpa using hx
      show f x = (x == t || f x)
      rw [this, Bool.false_or]
  · rw [size_put hm, hh, hsz]
theorem wpList_len_bset {w : World} {ops : Array Oper} {rest : List Oper} {o : Oper} {a : Act} {Q : Exit → Act → World → Prop} (hg : o.guard = none) (mo : Operand)
    (hop : o.op = Op.call { callee := Callee.builtin Builtin.len, args := #[mo], argTypes := #[70] }) (b n m : Nat) (f : Int → Bool) (hm : a.eval mo = .map (some b)) (h : BSet w b n f m)
    (hK : wpList Tryz.prog ops Q rest (a.put o.dst (.int .i64 m)) w) : wpList Tryz.prog ops Q (o :: rest) a w := by
  obtain ⟨D, h1, _, _, _, hsz⟩ := h
  exact wpList_len_own w hg mo _ hop _ _ Tryz.underlying70 _ b n D hm h1 (by rw [hsz]; exact hK)
end Go.Proofs.YtlmakdclebbbkaaGreat
