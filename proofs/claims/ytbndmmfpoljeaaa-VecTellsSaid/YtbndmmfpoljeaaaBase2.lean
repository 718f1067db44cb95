/- Texts, merged in one. -/
import Derived.Test.YtbndmmfpoljeaaaBase
import Derived.Orders
import Derived.Below
import Derived.OwnWalk
import Derived.Deep.RegionLaw
import Derived.Deep.CutBlock
import Derived.Deep.DeepCutAuto
import Derived.Test.YtbndmmfpoljeaaaRows
import Derived.Maps.OwnOps
import Derived.Maps.OwnSet
import Derived.Maps.Views
import Derived.StringKeys
import Derived.WalkKit
import Derived.StillTail
import Derived.ProofKit
import Derived.Lib.Hide
import Derived.RegionTactic
import Derived.WalkSpells
import Derived.Lib.AppendZerosOnto
import Derived.Lib.AppendZeros
namespace Go.Proofs.Ytbndmmfpoljeaaa
set_option linter.unusedVariables false
/-- Where x goes in pre, from the back. -/
def insAt {α : Type} (key : α → List UInt8) (pre : List α) (x : α) : Nat → Nat
  | 0 => 0
  | j + 1 => if (pre[j]?.map fun y => Op.bytesLess (key x) (key y)) = some true then insAt key pre x j else j + 1
theorem insAt_le {α : Type} (key : α → List UInt8) (pre : List α) (x : α) : ∀ j, insAt key pre x j ≤ j
  | 0 => Nat.le_refl _
  | j + 1 => by unfold insAt; split; exact Nat.le_succ_of_le (insAt_le key pre x j); exact Nat.le_refl _
def insK {α : Type} (key : α → List UInt8) (pre : List α) (x : α) : List α := pre.take (insAt key pre x pre.length) ++ x :: pre.drop (insAt key pre x pre.length)
def sortK {α : Type} (key : α → List UInt8) (l : List α) : List α := l.foldl (insK key) []
theorem sortK_snoc {α : Type} (key : α → List UInt8) (l : List α) (x : α) : sortK key (l ++ [x]) = insK key (sortK key l) x := by unfold sortK; rw [List.foldl_append]; rfl
theorem sortK_next {α : Type} (key : α → List UInt8) (l : List α) {k : Nat} (h : k < l.length) : sortK key (l.take (k + 1)) = insK key (sortK key (l.take k)) l[k] := by
  rw [List.take_succ_eq_append_getElem h, sortK_snoc]
theorem insK_perm {α : Type} (key : α → List UInt8) (pre : List α) (x : α) : (insK key pre x).Perm (x :: pre) := by
  unfold insK
  refine List.perm_middle.trans ?_
  rw [List.take_append_drop]
theorem list_snoc_ind {α : Type} {P : List α → Prop} (h0 : P []) (h1 : ∀ l x, P l → P (l ++ [x])) (l : List α) : P l := by
  have key : ∀ n, ∀ l : List α, l.length = n → P l := by
    intro n
    induction n with
    | zero => intro l h; rw [List.eq_nil_of_length_eq_zero h]; exact h0
    | succ n ih =>
      intro l h
      have e : l = l.take n ++ [l[n]] := by
        rw [← List.take_succ_eq_append_getElem (by omega), List.take_of_length_le (by omega)]
      rw [e]
      exact h1 _ _ (ih _ (by rw [List.length_take]; omega))
  exact key _ l rfl
theorem sortK_perm {α : Type} (key : α → List UInt8) (l : List α) : (sortK key l).Perm l := by
  induction l using list_snoc_ind with
  | h0 => exact List.Perm.refl _
  | h1 l x ih =>
    rw [sortK_snoc]
    refine (insK_perm key _ x).trans ?_
    exact (List.Perm.cons x ih).trans (by simpa using (List.perm_append_comm (l₁ := [x]) (l₂ := l)))
theorem sortK_length {α : Type} (key : α → List UInt8) (l : List α) : (sortK key l).length = l.length := (sortK_perm key l).length_eq
theorem sortK_mem {α : Type} (key : α → List UInt8) (l : List α) (x : α) : x ∈ sortK key l ↔ x ∈ l := (sortK_perm key l).mem_iff
/-- Not behind one another. -/
def LeK {α : Type} (key : α → List UInt8) (a b : α) : Prop := Op.bytesLess (key b) (key a) = false
theorem leK_trans {α : Type} {key : α → List UInt8} {a b c : α} (h : LeK key a b) (k : LeK key b c) : LeK key a c := by
  unfold LeK at *
  cases e : Op.bytesLess (key c) (key a) with
  | false => rfl
  | true =>
    by_cases hab : key a = key b
    · rw [← hab] at k; rw [e] at k; cases k
    · rcases cmp_ne hab with h1 | h1
      · rw [less_trans e h1] at k; cases k
      · rw [h1] at h; cases h
theorem leK_total {α : Type} (key : α → List UInt8) (a b : α) : LeK key a b ∨ LeK key b a := by
  unfold LeK
  cases e : Op.bytesLess (key b) (key a) with
  | false => exact .inl rfl
  | true => exact .inr (less_asymm e)
theorem insAt_mid {α : Type} (key : α → List UInt8) (pre : List α) (x : α) : ∀ j, j ≤ pre.length → (∀ p, insAt key pre x j ≤ p → p < j → ∀ y, pre[p]? = some y → Op.bytesLess (key x) (key y) = true) ∧ (∀ y, 0 < insAt key pre x j → pre[insAt key pre x j - 1]? = some y → Op.bytesLess (key x) (key y) = false)
  | 0, _ => ⟨fun p _ h => absurd h (Nat.not_lt_zero _), fun y h => absurd h (by simp [insAt])⟩
  | j + 1, hj => by
    have ih := insAt_mid key pre x j (by omega)
    have hg : pre[j]? = some pre[j] := List.getElem?_eq_getElem (by omega)
    unfold insAt
    by_cases h : (pre[j]?.map fun y => Op.bytesLess (key x) (key y)) = some true
    · rw [if_pos h]
      refine ⟨fun p h1 h2 y hy => ?_, ih.2⟩
      by_cases hp : p = j
      · subst hp; rw [hy] at h; simpa using h
      · exact ih.1 p h1 (by omega) y hy
    · rw [if_neg h]
      refine ⟨fun p h1 h2 => absurd h2 (by omega), fun y _ hy => ?_⟩
      rw [Nat.add_sub_cancel] at hy
      rw [hy] at h
      cases e : Op.bytesLess (key x) (key y) with
      | false => rfl
      | true => exact absurd (by simp [e]) h
theorem insK_sorted {α : Type} (key : α → List UInt8) (pre : List α) (x : α) (h : pre.Pairwise (LeK key)) : (insK key pre x).Pairwise (LeK key) := by
  unfold insK
  obtain ⟨h1, h2⟩ := insAt_mid key pre x pre.length (Nat.le_refl _)
  have hle := insAt_le key pre x pre.length
  generalize insAt key pre x pre.length = j at *
  have hs : pre.take j ++ pre.drop j = pre := List.take_append_drop j pre
  have hp := h
  rw [← hs, List.pairwise_append] at hp
  obtain ⟨p1, p2, p3⟩ := hp
  have hx1 : ∀ a ∈ pre.take j, LeK key a x := by
    intro a ha
    by_cases h0 : j = 0
    · subst h0; simp at ha
    · have hlt : j - 1 < pre.length := by omega
      have hl : LeK key pre[j - 1] x := h2 _ (by omega) (List.getElem?_eq_getElem hlt)
      obtain ⟨q, hq, rfl⟩ := List.getElem_of_mem ha
      rw [List.length_take] at hq
      rw [List.getElem_take]
      by_cases he : q = j - 1
      · subst he; exact hl
      · exact leK_trans (List.pairwise_iff_getElem.1 h q (j - 1) (by omega) hlt (by omega)) hl
  have hx2 : ∀ b ∈ pre.drop j, LeK key x b := by
    intro b hb
    obtain ⟨q, hq, rfl⟩ := List.getElem_of_mem hb
    rw [List.length_drop] at hq
    rw [List.getElem_drop]
    exact less_asymm (h1 (j + q) (by omega) (by omega) _ (List.getElem?_eq_getElem (by omega)))
  rw [List.pairwise_append, List.pairwise_cons]
  refine ⟨p1, ⟨hx2, p2⟩, fun a ha b hb => ?_⟩
  rcases List.mem_cons.1 hb with rfl | hb
  · exact hx1 a ha
  · exact p3 a ha b hb
theorem sortK_sorted {α : Type} (key : α → List UInt8) (l : List α) : (sortK key l).Pairwise (LeK key) := by
  induction l using list_snoc_ind with
  | h0 => exact List.Pairwise.nil
  | h1 l x ih => rw [sortK_snoc]; exact insK_sorted key _ x ih
theorem leK_eq {α : Type} {key : α → List UInt8} {a b : α} (h : LeK key a b) (k : LeK key b a) : key a = key b := by
  by_cases e : key a = key b
  · exact e
  · rcases cmp_ne e with h1 | h1
    · unfold LeK at k; rw [h1] at k; cases k
    · unfold LeK at h; rw [h1] at h; cases h
/-- Where no two have one text, the sorted list is told by what is in it. -/
theorem sorted_eq {α : Type} {key : α → List UInt8} {a b : List α} (ha : a.Pairwise (LeK key)) (hb : b.Pairwise (LeK key)) (hp : a.Perm b) (hn : ∀ x ∈ a, ∀ y ∈ a, key x = key y → x = y) : a = b :=
  List.Perm.eq_of_pairwise (fun x y hx hy h1 h2 => hn x hx y (hp.mem_iff.2 hy) (leK_eq h1 h2)) ha hb hp
theorem sortK_eq {α : Type} {key : α → List UInt8} {a b : List α} (hp : a.Perm b) (hn : ∀ x ∈ a, ∀ y ∈ a, key x = key y → x = y) : sortK key a = sortK key b :=
  sorted_eq (sortK_sorted key a) (sortK_sorted key b) ((sortK_perm key a).trans (hp.trans (sortK_perm key b).symm)) (fun x hx y hy => hn x ((sortK_mem key a x).1 hx) y ((sortK_mem key a y).1 hy))
/-- A sorted list stays as it is. -/
theorem insK_last {α : Type} (key : α → List UInt8) (pre : List α) (x : α) (h : ∀ y ∈ pre, LeK key y x) : insK key pre x = pre ++ [x] := by
  have hj : insAt key pre x pre.length = pre.length := by
    cases e : pre.length with
    | zero => rfl
    | succ j =>
      unfold insAt
      rw [List.getElem?_eq_getElem (by omega)]
      have := h pre[j] (List.getElem_mem _)
      unfold LeK at this
      simp [this]
  unfold insK
  rw [hj]; simp
theorem sortK_self {α : Type} (key : α → List UInt8) (l : List α) (h : l.Pairwise (LeK key)) : sortK key l = l := by
  induction l using list_snoc_ind with
  | h0 => rfl
  | h1 l x ih =>
    rw [List.pairwise_append] at h
    rw [sortK_snoc, ih h.1, insK_last key l x (fun y hy => h.2.2 y hy x (List.mem_singleton.2 rfl))]
theorem sortK_twice {α : Type} (key : α → List UInt8) (l : List α) : sortK key (sortK key l) = sortK key l := sortK_self key _ (sortK_sorted key l)
theorem insAt_map {α β : Type} (f : α → β) (key : β → List UInt8) (pre : List α) (x : α) : ∀ j, insAt key (pre.map f) (f x) j = insAt (fun a => key (f a)) pre x j
  | 0 => rfl
  | j + 1 => by
    unfold insAt
    rw [insAt_map f key pre x j, List.getElem?_map, Option.map_map]
    rfl
theorem insK_map {α β : Type} (f : α → β) (key : β → List UInt8) (pre : List α) (x : α) : insK key (pre.map f) (f x) = (insK (fun a => key (f a)) pre x).map f := by
  unfold insK
  rw [List.length_map, insAt_map]
  simp
theorem sortK_map {α β : Type} (f : α → β) (key : β → List UInt8) (l : List α) : sortK key (l.map f) = (sortK (fun a => key (f a)) l).map f := by
  induction l using list_snoc_ind with
  | h0 => rfl
  | h1 l x ih => rw [List.map_append, List.map_singleton, sortK_snoc, sortK_snoc, ih, insK_map]
/-- The same from the front, where pre is sorted. -/
theorem insK_front {α : Type} (key : α → List UInt8) (pre : List α) (x : α) (h : pre.Pairwise (LeK key)) {j : Nat} (hj : j ≤ pre.length) (h1 : ∀ p, p < j → ∀ y, pre[p]? = some y → Op.bytesLess (key x) (key y) = false) (h2 : ∀ y, pre[j]? = some y → Op.bytesLess (key x) (key y) = true) : insK key pre x = pre.take j ++ x :: pre.drop j := by
  have e : insAt key pre x pre.length = j := by
    obtain ⟨g1, g2⟩ := insAt_mid key pre x pre.length (Nat.le_refl _)
    have hle := insAt_le key pre x pre.length
    generalize insAt key pre x pre.length = i at *
    rcases Nat.lt_trichotomy i j with hlt | rfl | hlt
    · have a := g1 i (Nat.le_refl _) (by omega) _ (List.getElem?_eq_getElem (by omega))
      rw [h1 i hlt _ (List.getElem?_eq_getElem (by omega))] at a; cases a
    · rfl
    · have hjl : j < pre.length := by omega
      have a := g2 _ (by omega) (List.getElem?_eq_getElem (show i - 1 < pre.length by omega))
      have b := h2 _ (List.getElem?_eq_getElem hjl)
      by_cases hji : j = i - 1
      · subst hji; rw [b] at a; cases a
      · have c := List.pairwise_iff_getElem.1 h j (i - 1) hjl (by omega) (by omega)
        have d : LeK key pre[j] x := leK_trans c a
        unfold LeK at d; rw [b] at d; cases d
  unfold insK; rw [e]
end Go.Proofs.Ytbndmmfpoljeaaa

namespace Go.Proofs.Ytbndmmfpoljeaaa
open Go.ChangeShapes Go.WideShapes Go.ChangeAt Go.RowKit
set_option linter.unusedVariables false
set_option linter.unusedSimpArgs false
set_option maxRecDepth 100000
/-- What two texts compare to. -/
def cmpI (a b : List UInt8) : Int := if Op.bytesLess a b = true then -1 else if Op.bytesLess b a = true then 1 else 0
theorem cmpI_neg (a b : List UInt8) : (decide (cmpI a b < 0)) = Op.bytesLess a b := by
  unfold cmpI
  cases e : Op.bytesLess a b with
  | true => simp
  | false => by_cases h : Op.bytesLess b a = true <;> simp [h]
theorem isNaN_any (x : ByteArray) (w : World) : Calls Try.prog 80 #[.string x] w fun e w' => e = .returned (.bool false) ∧ w = w' := by
  have h : (x.toList == x.toList) = true := by simp
  have h2 : (x.toList != x.toList) = false := by simp
  go_enter Try.func80, Try.ntmps80
  go_wp2_with fail
  go_ret
  exact ⟨by first | rfl | simp, rfl⟩
set_option maxHeartbeats 2000000 in
theorem cmpS_any (x y : ByteArray) (w : World) : Calls Try.prog 57 #[.string x, .string y] w fun e w' => e = .returned (.int .i64 (cmpI x.toList y.toList)) ∧ w = w' := by
  have H1 := Lib.hid (isNaN_any x w)
  have H2 := Lib.hid (isNaN_any y w)
  have HD : Hid (cmpI x.toList y.toList = if Op.bytesLess x.toList y.toList = true then -1 else if Op.bytesLess y.toList x.toList = true then 1 else 0) := Lib.hid rfl
  obtain ⟨r, hr⟩ : ∃ r, cmpI x.toList y.toList = r := ⟨_, rfl⟩
  rw [hr] at HD ⊢
  clear hr
  go_enter Try.func57, Try.ntmps57
  obtain ⟨p, hp⟩ : ∃ p, Op.bytesLess x.toList y.toList = p := ⟨_, rfl⟩
  obtain ⟨q, hq⟩ : ∃ q, Op.bytesLess y.toList x.toList = q := ⟨_, rfl⟩
  rw [hp, hq] at HD
  go_wp2_with fail
  (with_reducible refine H1.out.mono ?_); rintro e w1 ⟨rfl, rfl⟩
  go_wp2_with fail
  (with_reducible refine H2.out.mono ?_); rintro e w2 ⟨rfl, rfl⟩
  cases p with
  | true =>
    have HR : Hid (r = -1) := Lib.hid (by rw [HD.out]; rfl)
    go_wp2_with fail
    go_ret
    exact ⟨by rw [HR.out]; rfl, rfl⟩
  | false =>
    cases q with
    | true =>
      have HR : Hid (r = 1) := Lib.hid (by rw [HD.out]; rfl)
      have hxy : (x.toList == y.toList) = false := by
        cases e : (x.toList == y.toList) with
        | false => rfl
        | true => rw [beq_iff_eq] at e; rw [e, less_irrefl] at hq; cases hq
      go_wp2_with fail
      go_ret
      exact ⟨by rw [HR.out]; rfl, rfl⟩
    | false =>
      have HR : Hid (r = 0) := Lib.hid (by rw [HD.out]; rfl)
      have hxy : (x.toList == y.toList) = true := by
        rw [beq_iff_eq]
        by_cases e : x.toList = y.toList
        · exact e
        · rcases cmp_ne e with h | h
          · rw [hp] at h; cases h
          · rw [hq] at h; cases h
      go_wp2_with fail
      go_ret
      exact ⟨by rw [HR.out]; rfl, rfl⟩
set_option maxHeartbeats 2000000 in
theorem sort1_any (x y : ByteArray) (xs ys : Value) (xv yv : Int) (w : World) (h1 : xs.oneCell' = true) (h2 : ys.oneCell' = true) :
    Calls Try.prog 56 #[.agg #[.string x, xs, .int .i64 xv], .agg #[.string y, ys, .int .i64 yv]] w fun e w' => e = .returned (.int .i64 (cmpI x.toList y.toList)) ∧ w' = (w.alloc (.cells #[.string x, xs, .int .i64 xv] 85)).alloc (.cells #[.string y, ys, .int .i64 yv] 85) := by
  have HC := Lib.hid (fun V => cmpS_any x y V)
  go_enter Try.func56, Try.ntmps56
  go_upto_region 1 with fail
  have z1 : ((w.alloc (.cells #[.string x, xs, .int .i64 xv] 85)).alloc (.cells #[.string y, ys, .int .i64 yv] 85)).cell? ⟨w.heap.size, 0, none⟩ = some (.string x) := by
    rw [World.cell?_alloc_lt _ _ _ (by simp)]; rw [World.cell?_alloc_at _ _ _ _ (by simp)]; rfl
  have z2 : ((w.alloc (.cells #[.string x, xs, .int .i64 xv] 85)).alloc (.cells #[.string y, ys, .int .i64 yv] 85)).cell? ⟨w.heap.size + 1, 0, none⟩ = some (.string y) := by
    rw [World.cell?_alloc_at _ _ _ _ (by simp)]; rfl
  obtain ⟨W2, hW2⟩ : ∃ W, (w.alloc (.cells #[.string x, xs, .int .i64 xv] 85)).alloc (.cells #[.string y, ys, .int .i64 yv] 85) = W := ⟨_, rfl⟩
  rw [hW2] at z1 z2 ⊢
  have HW := Lib.hid hW2
  clear hW2
  go_wp2_with fail
  (with_reducible refine (HC.out _).mono ?_); rintro e w1 ⟨rfl, rfl⟩
  go_wp2_with fail
  go_ret
  exact ⟨rfl, HW.out.symm⟩
end Go.Proofs.Ytbndmmfpoljeaaa

namespace Go.Proofs.Ytbndmmfpoljeaaa
open Go Go.RowKit
set_option linter.unusedVariables false
/-- P holds, and stays along R. -/
def Hold (R : World → World → Prop) (P : World → Prop) (w : World) : Prop := ∀ w', R w w' → P w'
theorem Hold.now {P : World → Prop} {w : World} (h : Hold (fun a b => Below a.heap.size a b) P w) : P w := h w (Below.refl _ _)
def slotOf (ops : Array Oper) (j : Nat) : Option Tmp := (ops[j]?).bind (·.dst)
/-- What operation j left. -/
def slotV (ops : Array Oper) (a : Act) (j : Nat) : Value := match slotOf ops j with | some d => a.tmps.getD d undef | none => undef
/-- What the region does not write is as it was. -/
structure FrameOk (ops : Array Oper) (a0 a : Act) : Prop where
  defers : a.defers = a0.defers
  size : a.tmps.size = a0.tmps.size
  same : ∀ k, (∀ j, slotOf ops j ≠ some k) → a.tmps.getD k undef = a0.tmps.getD k undef
/-- .. and what is written by operations that wait for operation i alone is as it was, ahead of i. -/
structure FrameAt (ops : Array Oper) (a0 a : Act) (i : Nat) : Prop where
  fr : FrameOk ops a0 a
  early : ∀ k, (∀ (j : Nat) (o : Oper), ops[j]? = some o → o.dst = some k → ∃ e ∈ o.after.toList, e.on = i ∧ Region.binds .any e = true) → a.tmps.getD k undef = a0.tmps.getD k undef
/-- The facts of the operations that are waited for. -/
def Deps (R : World → World → Prop) (V : Nat → Value → World → Prop) (ops : Array Oper) (a : Act) (w : World) : List Edge → Prop
  | [] => True
  | e :: l => (Region.binds .any e = true → Hold R (V e.on (slotV ops a e.on)) w) ∧ Deps R V ops a w l
/-- What an operation leaves. -/
def OpPost (R : World → World → Prop) (V : Nat → Value → World → Prop) (i : Nat) (o : Oper) (a : Act) (w : World) (a' : Act) (w' : World) : Prop := R w w' ∧ ∃ v, a' = a.put o.dst v ∧ Hold R (V i (match o.dst with | some _ => v | none => undef)) w'
def OpOk (P : Program) (ops : Array Oper) (Q : Exit → Act → World → Prop) (R : World → World → Prop) (G : World → Prop) (V : Nat → Value → World → Prop) (a0 : Act) (i : Nat) (o : Oper) : Prop :=
  ∀ a w, FrameAt ops a0 a i → Hold R G w → Deps R V ops a w o.after.toList →
    (Region.wanted o (yielded ops a.tmps) = true → o.wp P a w (OpPost R V i o a w) Q) ∧
    (Region.wanted o (yielded ops a.tmps) = false → Hold R (V i undef) w)
def AllOps (P : Program) (ops : Array Oper) (Q : Exit → Act → World → Prop) (R : World → World → Prop) (G : World → Prop) (V : Nat → Value → World → Prop) (a0 : Act) : Nat → List Oper → Prop
  | _, [] => True
  | i, o :: l => OpOk P ops Q R G V a0 i o ∧ AllOps P ops Q R G V a0 (i + 1) l
/-- The frame with all of the region's slots written. -/
def putAll (vs : Nat → Value) : Nat → List Oper → Act → Act
  | _, [], a => a
  | i, o :: l, a => putAll vs (i + 1) l (a.put o.dst (vs i))
/-- No two operations write one slot, and each slot is there. -/
def apartB (n : Nat) : List Oper → Bool
  | [] => true
  | o :: l => (match o.dst with | some d => decide (d < n) && l.all (fun p => p.dst != some d) | none => true) && apartB n l

section
variable {P : Program} {ops : Array Oper} {Q : Exit → Act → World → Prop} {R : World → World → Prop} {G : World → Prop} {V : Nat → Value → World → Prop} {a0 : Act}
theorem allOps_at : ∀ {l : List Oper} {k : Nat}, AllOps P ops Q R G V a0 k l → ∀ (i : Nat) (o : Oper), l[i]? = some o → OpOk P ops Q R G V a0 (k + i) o
  | [], _, _, i, o, h => by simp at h
  | p :: l, k, ⟨h1, h2⟩, 0, o, h => by simp at h; subst h; exact h1
  | p :: l, k, ⟨h1, h2⟩, i + 1, o, h => by
    have := allOps_at h2 i o (by simpa using h)
    rwa [show k + (i + 1) = k + 1 + i by omega]
theorem apartB_lt {n : Nat} : ∀ {l : List Oper}, apartB n l = true → ∀ (i : Nat) (o : Oper) (d : Tmp), l[i]? = some o → o.dst = some d → d < n
  | [], _, i, o, d, h, _ => by simp at h
  | p :: l, hb, 0, o, d, h, hd => by
    simp at h; subst h
    simp only [apartB, hd, Bool.and_eq_true, decide_eq_true_eq] at hb
    exact hb.1.1
  | p :: l, hb, i + 1, o, d, h, hd => by
    simp only [apartB, Bool.and_eq_true] at hb
    exact apartB_lt hb.2 i o d (by simpa using h) hd
theorem apartB_ne {n : Nat} : ∀ {l : List Oper}, apartB n l = true → ∀ (i j : Nat) (o p : Oper) (d : Tmp), l[i]? = some o → l[j]? = some p → o.dst = some d → p.dst = some d → i = j
  | [], _, i, _, o, _, _, h, _, _, _ => by simp at h
  | q :: l, hb, 0, 0, o, p, d, h, h2, hd, hd2 => rfl
  | q :: l, hb, 0, j + 1, o, p, d, h, h2, hd, hd2 => by
    simp at h; subst h
    simp only [apartB, hd, Bool.and_eq_true, decide_eq_true_eq, List.all_eq_true] at hb
    have := hb.1.2 p (List.mem_of_getElem? (by simpa using h2 : l[j]? = some p))
    simp [hd2] at this
  | q :: l, hb, i + 1, 0, o, p, d, h, h2, hd, hd2 => by
    simp at h2; subst h2
    simp only [apartB, hd2, Bool.and_eq_true, decide_eq_true_eq, List.all_eq_true] at hb
    have := hb.1.2 o (List.mem_of_getElem? (by simpa using h : l[i]? = some o))
    simp [hd] at this
  | q :: l, hb, i + 1, j + 1, o, p, d, h, h2, hd, hd2 => by
    simp only [apartB, Bool.and_eq_true] at hb
    have := apartB_ne hb.2 i j o p d (by simpa using h) (by simpa using h2) hd hd2
    omega
theorem slotOf_ne (hb : apartB a0.tmps.size ops.toList = true) {i j : Nat} {d : Tmp} (hi : slotOf ops i = some d) (hj : slotOf ops j = some d) : i = j := by
  unfold slotOf at hi hj
  cases ho : ops[i]? with
  | none => rw [ho] at hi; cases hi
  | some o =>
    cases hp : ops[j]? with
    | none => rw [hp] at hj; cases hj
    | some p =>
      rw [ho] at hi; rw [hp] at hj
      exact apartB_ne hb i j o p d (by simpa using ho) (by simpa using hp) hi hj
theorem slotOf_lt (hb : apartB a0.tmps.size ops.toList = true) {i : Nat} {d : Tmp} (hi : slotOf ops i = some d) : d < a0.tmps.size := by
  unfold slotOf at hi
  cases ho : ops[i]? with
  | none => rw [ho] at hi; cases hi
  | some o => rw [ho] at hi; exact apartB_lt hb i o d (by simpa using ho) hi
theorem slotV_put_other (hb : apartB a0.tmps.size ops.toList = true) {a : Act} {i j : Nat} (hij : i ≠ j) (v : Value) : slotV ops (a.put (slotOf ops i) v) j = slotV ops a j := by
  unfold slotV
  cases hj : slotOf ops j with
  | none => rfl
  | some d =>
    cases hi : slotOf ops i with
    | none => rfl
    | some e =>
      have hne : e ≠ d := fun h => hij (slotOf_ne hb hi (h ▸ hj))
      simp [Act.put, Array.getElem?_setIfInBounds_ne hne]
theorem FrameOk.put (hb : apartB a0.tmps.size ops.toList = true) {a : Act} (h : FrameOk ops a0 a) (i : Nat) (v : Value) : FrameOk ops a0 (a.put (slotOf ops i) v) := by
  cases hi : slotOf ops i with
  | none => exact h
  | some e =>
    refine ⟨h.defers, by simpa [Act.put] using h.size, fun k hk => ?_⟩
    have hne : e ≠ k := fun he => hk i (he ▸ hi)
    rw [← h.same k hk]
    simp [Act.put, Array.getElem?_setIfInBounds_ne hne]
/-- The state ahead of each operation. -/
structure RInv (P : Program) (ops : Array Oper) (R : World → World → Prop) (G : World → Prop) (V : Nat → Value → World → Prop) (a0 : Act) (listed : Array Bool) (a : Act) (w : World) : Prop where
  fr : FrameOk ops a0 a
  early : ∀ k, (∀ j, slotOf ops j = some k → listed.getD j false = false) → a.tmps.getD k undef = a0.tmps.getD k undef
  closed : ∀ (j : Nat) (o : Oper), ops[j]? = some o → listed.getD j false = true → ∀ e ∈ o.after.toList, Region.binds .any e = true → listed.getD e.on false = true
  g : Hold R G w
  facts : ∀ i, listed.getD i false = true → Hold R (V i (slotV ops a i)) w
theorem Hold.trans {A : World → Prop} (ht : ∀ a b c, R a b → R b c → R a c) {w w' : World} (h : Hold R A w) (hr : R w w') : Hold R A w' := fun w2 h2 => h w2 (ht _ _ _ hr h2)
theorem deps_of {a : Act} {w : World} {listed : Array Bool} (hf : ∀ i, listed.getD i false = true → Hold R (V i (slotV ops a i)) w) :
    ∀ l : List Edge, (∀ e ∈ l, Region.binds .any e = true → listed.getD e.on false = true) → Deps R V ops a w l
  | [], _ => trivial
  | e :: l, h => ⟨fun hb => hf _ (h e List.mem_cons_self hb), deps_of hf l fun e' he' => h e' (List.mem_cons_of_mem _ he')⟩
/-- Each operation waits for earlier ones alone. -/
def backB : Nat → List Oper → Bool
  | _, [] => true
  | i, o :: l => o.after.all (fun e => decide (e.on < i)) && backB (i + 1) l
theorem backB_at : ∀ {l : List Oper} {k : Nat}, backB k l = true → ∀ (i : Nat) (o : Oper), l[i]? = some o → ∀ e ∈ o.after, e.on < k + i
  | [], _, _, i, o, h, _, _ => by simp at h
  | p :: l, k, hb, 0, o, h, e, he => by
    simp at h; subst h
    simp only [backB, Bool.and_eq_true] at hb
    have h1 := hb.1
    rw [Array.all_eq_true_iff_forall_mem] at h1
    simpa using h1 e he
  | p :: l, k, hb, i + 1, o, h, e, he => by
    simp only [backB, Bool.and_eq_true] at hb
    have := backB_at hb.2 i o (by simpa using h) e he
    omega
def left (n : Nat) (listed : Array Bool) : Nat := ((List.range n).filter fun i => !listed.getD i true).length
theorem filter_less {l : List Nat} {p q : Nat → Bool} (h : ∀ x ∈ l, q x = true → p x = true) {i : Nat} (hi : i ∈ l) (h1 : p i = true) (h2 : q i = false) : (l.filter q).length < (l.filter p).length := by
  induction l with
  | nil => cases hi
  | cons x l ih =>
    have hx := h x List.mem_cons_self
    have hl : ∀ y ∈ l, q y = true → p y = true := fun y hy => h y (List.mem_cons_of_mem _ hy)
    have hle : (l.filter q).length ≤ (l.filter p).length := by
      clear ih hi h hx
      induction l with
      | nil => simp
      | cons y l ih =>
        have := ih (fun z hz => hl z (List.mem_cons_of_mem _ hz))
        have hy := hl y List.mem_cons_self
        cases hq : q y <;> cases hp : p y <;> simp [hq, hp] <;> first | omega | (rw [hy hq] at hp; cases hp)
    rcases List.mem_cons.1 hi with rfl | hi
    · simp only [List.filter_cons, h1, h2, if_true, List.length_cons]; simp; omega
    · have := ih hl hi
      cases hq : q x <;> cases hp : p x <;> simp [hq, hp] <;> first | omega | (rw [hx hq] at hp; cases hp)
theorem left_set {n : Nat} {listed : Array Bool} {i : Nat} (hn : listed.size = n) (hi : listed.getD i true = false) : left n (listed.setIfInBounds i true) < left n listed := by
  have hlt : i < listed.size := by
    rcases Nat.lt_or_ge i listed.size with h | h
    · exact h
    · simp [Array.getElem?_eq_none h] at hi
  refine filter_less (fun x hx hq => ?_) (List.mem_range.2 (by omega : i < n)) (by simp [hi]) (by simp [hlt])
  by_cases h : i = x
  · subst h; simp [hlt] at hq
  · rw [getD_set_ne true h] at hq; exact hq
theorem left_none {n : Nat} {listed : Array Bool} (hn : listed.size = n) (h : left n listed = 0) : ∀ i, i < n → listed.getD i true = true := fun i hi => by
  unfold left at h
  have := List.eq_nil_of_length_eq_zero h
  rw [List.filter_eq_nil_iff] at this
  simpa using this i (List.mem_range.2 hi)
theorem all_listed (hback : backB 0 ops.toList = true) {listed : Array Bool} (hs : listed.size = ops.size) (hr : Region.ready .any ops listed = []) : ∀ i, i < ops.size → listed.getD i true = true := by
  intro i
  induction i using Nat.strongRecOn with
  | _ i ih =>
    intro hi
    cases hc : listed.getD i true with
    | true => rfl
    | false =>
      have : i ∈ Region.ready .any ops listed := by
        rw [mem_ready]
        refine ⟨hc, ops[i], Array.getElem?_eq_getElem hi, fun e he hb => ?_⟩
        have h1 := backB_at hback i ops[i] (by simp [hi]) e he
        have h2 := ih e.on (by omega) (by omega)
        have hlt : e.on < listed.size := by omega
        simp [hlt] at h2 ⊢
        exact h2
      rw [hr] at this
      cases this
theorem wpAny_facts (hr0 : ∀ w, R w w) (ht : ∀ a b c, R a b → R b c → R a c) (hb : apartB a0.tmps.size ops.toList = true) (hback : backB 0 ops.toList = true) (hall : AllOps P ops Q R G V a0 0 ops.toList)
    (hend : ∀ a w, FrameOk ops a0 a → Hold R G w → (∀ i, i < ops.size → Hold R (V i (slotV ops a i)) w) → Q .normal a w) :
    ∀ (fuel : Nat) (listed : Array Bool) (a : Act) (w : World), listed.size = ops.size → left ops.size listed ≤ fuel → RInv P ops R G V a0 listed a w → wpAny P .any ops Q fuel listed a w := by
  have fin : ∀ (listed : Array Bool) (a : Act) (w : World), listed.size = ops.size → RInv P ops R G V a0 listed a w → Region.ready .any ops listed = [] → Q .normal a w := fun listed a w hs hI hr =>
    hend a w hI.fr hI.g fun i hi => hI.facts i (by
      have h1 := all_listed hback hs hr i hi
      have hlt : i < listed.size := by omega
      simp [hlt] at h1 ⊢
      exact h1)
  intro fuel
  induction fuel with
  | zero =>
    intro listed a w hs hl hI
    have hr : Region.ready .any ops listed = [] := by
      rw [List.eq_nil_iff_forall_not_mem]
      intro i hi
      obtain ⟨h1, o, ho, _⟩ := mem_ready.1 hi
      have hlt : i < ops.size := (Array.getElem?_eq_some_iff.1 ho).1
      rw [left_none hs (by omega) i hlt] at h1
      cases h1
    exact ⟨hr, fin listed a w hs hI hr⟩
  | succ fuel ih =>
    intro listed a w hs hl hI
    refine ⟨fin listed a w hs hI, fun i hi => ?_⟩
    obtain ⟨h1, o, ho, hdone⟩ := mem_ready.1 hi
    have hlt : i < ops.size := (Array.getElem?_eq_some_iff.1 ho).1
    have hok : OpOk P ops Q R G V a0 i o := by have := allOps_at hall i o (by simpa using ho); rwa [Nat.zero_add] at this
    have hdst : o.dst = slotOf ops i := by unfold slotOf; rw [ho]; rfl
    have hfa : FrameAt ops a0 a i := ⟨hI.fr, fun k hk => hI.early k fun j hj => by
      have hj2 := hj
      unfold slotOf at hj2
      cases hoj : ops[j]? with
      | none => rw [hoj] at hj2; cases hj2
      | some oj =>
        rw [hoj] at hj2
        obtain ⟨e, he, heq, hbb⟩ := hk j oj hoj hj2
        cases hlj : listed.getD j false with
        | false => rfl
        | true =>
          have h5 := hI.closed j oj hoj hlj e he hbb
          rw [heq] at h5
          have hlt2 : i < listed.size := by omega
          simp [hlt2] at h1 h5
          rw [h5] at h1; cases h1⟩
    obtain ⟨hw, hn⟩ := hok a w hfa hI.g (deps_of hI.facts _ fun e he hbb => hdone e (by simpa using he) hbb)
    have go : ∀ v w', R w w' → Hold R (V i (match slotOf ops i with | some _ => v | none => undef)) w' → wpAny P .any ops Q fuel (listed.setIfInBounds i true) (a.put (slotOf ops i) v) w' := fun v w' hrw hv => by
      refine ih _ _ _ (by simpa using hs) (by have := left_set hs h1; omega) ⟨hI.fr.put hb i v, fun k hk => ?_, fun j oj hoj hlj e he hbb => ?_, hI.g.trans ht hrw, fun j hj => ?_⟩
      · have hlt2 : i < listed.size := by omega
        have hne : slotOf ops i ≠ some k := fun h => by have := hk i h; simp [hlt2] at this
        have h6 := hI.early k fun j hj => by
          have h7 := hk j hj
          by_cases hij : i = j
          · subst hij; simp [hlt2] at h7
          · rwa [getD_set_ne false hij] at h7
        rw [← h6]
        cases hsl : slotOf ops i with
        | none => rfl
        | some d =>
          have hdk : d ≠ k := fun h => hne (by rw [hsl, h])
          simp [Act.put, Array.getElem?_setIfInBounds_ne hdk]
      · have hlt2 : i < listed.size := by omega
        by_cases hij : i = j
        · subst hij
          rw [ho] at hoj; injection hoj with hoj; subst hoj
          have h8 := hdone e (by simpa using he) hbb
          by_cases hie : i = e.on
          · rw [← hie]; simp [hlt2]
          · rw [getD_set_ne false hie]; exact h8
        · rw [getD_set_ne false hij] at hlj
          have h8 := hI.closed j oj hoj hlj e he hbb
          by_cases hie : i = e.on
          · rw [← hie]; simp [hlt2]
          · rw [getD_set_ne false hie]; exact h8
      by_cases hij : i = j
      · subst hij
        have e : slotV ops (a.put (slotOf ops i) v) i = match slotOf ops i with | some _ => v | none => undef := by
          unfold slotV
          cases hsl : slotOf ops i with
          | none => rfl
          | some d =>
            have hd := slotOf_lt hb hsl
            rw [← hI.fr.size] at hd
            simp [Act.put, hd]
        rw [e]
        exact hv
      · rw [slotV_put_other hb hij]
        refine (hI.facts j ?_).trans ht hrw
        rw [getD_set_ne false hij] at hj
        exact hj
    unfold wpOp
    rw [ho]
    simp only
    split
    · rename_i hwant
      refine .inl (Oper.wp_mono (fun a' w' h => ?_) (hw hwant))
      obtain ⟨hrw, v, rfl, hv⟩ := h
      rw [hdst] at hv ⊢
      exact go v w' hrw hv
    · rename_i hwant
      rw [hdst]
      exact go undef w (hr0 w) (by have := hn (by simpa using hwant); cases slotOf ops i <;> exact this)
/-- The facts of all operations. -/
def AllV (R : World → World → Prop) (V : Nat → Value → World → Prop) (vs : Nat → Value) (w : World) : Nat → List Oper → Prop
  | _, [] => True
  | i, _ :: l => Hold R (V i (vs i)) w ∧ AllV R V vs w (i + 1) l
theorem allV_of {vs : Nat → Value} {w : World} : ∀ (l : List Oper) (k : Nat), (∀ i, i < l.length → Hold R (V (k + i) (vs (k + i))) w) → AllV R V vs w k l
  | [], _, _ => trivial
  | o :: l, k, h => ⟨h 0 (by simp), allV_of l (k + 1) fun i hi => by have := h (i + 1) (by simpa using hi); rwa [show k + (i + 1) = k + 1 + i by omega] at this⟩
theorem putAll_same {vs : Nat → Value} {a : Act} : ∀ (l : List Oper) (k : Nat), (∀ i o, l[i]? = some o → a.put o.dst (vs (k + i)) = a) → putAll vs k l a = a
  | [], _, _ => rfl
  | o :: l, k, h => by
    have h0 := h 0 o (by simp)
    unfold putAll
    rw [show a.put o.dst (vs k) = a from h0]
    exact putAll_same l (k + 1) fun i p hp => by have := h (i + 1) p (by simpa using hp); rwa [show k + (i + 1) = k + 1 + i by omega] at this
theorem act_ext {a b : Act} (h1 : a.defers = b.defers) (h2 : a.tmps.size = b.tmps.size) (h3 : ∀ k, a.tmps.getD k undef = b.tmps.getD k undef) : a = b := by
  obtain ⟨x, y⟩ := a; obtain ⟨x', y'⟩ := b
  simp only at h1 h2 h3
  subst h1
  have : x = x' := Array.ext h2 fun i hi hi' => by have := h3 i; simpa [hi, hi'] using this
  rw [this]
theorem putAll_congr {vs : Nat → Value} : ∀ (l : List Oper) (k : Nat) (a b : Act), a.defers = b.defers → a.tmps.size = b.tmps.size → (∀ t, (∀ o ∈ l, o.dst ≠ some t) → a.tmps.getD t undef = b.tmps.getD t undef) → putAll vs k l a = putAll vs k l b
  | [], _, a, b, h1, h2, h3 => act_ext h1 h2 fun k => h3 k (fun o ho => absurd ho List.not_mem_nil)
  | o :: l, k, a, b, h1, h2, h3 => by
    unfold putAll
    cases hd : o.dst with
    | none =>
      refine putAll_congr l (k + 1) _ _ h1 h2 fun t ht => h3 t fun p hp => ?_
      rcases List.mem_cons.1 hp with rfl | hp
      · rw [hd]; simp
      · exact ht p hp
    | some d =>
      refine putAll_congr l (k + 1) _ _ h1 (by simpa [Act.put] using h2) fun t ht => ?_
      by_cases he : d = t
      · subst he
        by_cases hlt : d < a.tmps.size
        · have hlt' : d < b.tmps.size := h2 ▸ hlt
          simp [Act.put, hlt, hlt']
        · have hlt' : ¬ d < b.tmps.size := h2 ▸ hlt
          simp [Act.put, hlt, hlt']
      · have := h3 t fun p hp => by
          rcases List.mem_cons.1 hp with rfl | hp
          · rw [hd]; simpa using he
          · exact ht p hp
        simpa [Act.put, Array.getElem?_setIfInBounds_ne he] using this
/-- THE LAW: each operation has a fact that stays along R; a region that draws its order ends with all of them. -/
theorem wp_region_facts {id : Nat} {w : World} (hm : P.follows .mixedOrders = true) (hr0 : ∀ w, R w w) (ht : ∀ a b c, R a b → R b c → R a c) (hb : apartB a0.tmps.size ops.toList = true) (hback : backB 0 ops.toList = true)
    (hG : Hold R G { w with drawn := w.drawn + 1 }) (hall : AllOps P ops Q R G V a0 0 ops.toList)
    (hend : ∀ vs w', Hold R G w' → AllV R V vs w' 0 ops.toList → Q .normal (putAll vs 0 ops.toList a0) w') : (Code.region id ops true).wp P Q a0 w := by
  refine wp_region_any hm (wpAny_facts hr0 ht hb hback hall (fun a w' hfr hg hf => ?_) ops.size _ a0 _ (by simp) (by unfold left; exact Nat.le_trans (List.length_filter_le _ _) (by simp)) ⟨⟨rfl, rfl, fun _ _ => rfl⟩, fun _ _ => rfl, fun j o _ hj => ?_, hG, fun i hi => ?_⟩)
  · have h1 := hend (slotV ops a) w' hg (allV_of _ 0 fun i hi => by rw [Nat.zero_add]; exact hf i (by simpa using hi))
    have h2 : putAll (slotV ops a) 0 ops.toList a0 = a := by
      rw [putAll_congr ops.toList 0 a0 a hfr.defers.symm hfr.size.symm fun t hno => (hfr.same t fun j hj => ?_).symm]
      · refine putAll_same _ 0 fun i o ho => ?_
        rw [Nat.zero_add]
        have hdst : o.dst = slotOf ops i := by unfold slotOf; rw [show ops[i]? = some o by simpa using ho]; rfl
        rw [hdst]
        unfold slotV
        cases hsl : slotOf ops i with
        | none => rfl
        | some d =>
          refine act_ext rfl (by simp [Act.put]) fun k => ?_
          by_cases he : d = k
          · subst he
            have hd := slotOf_lt hb hsl
            rw [← hfr.size] at hd
            simp [Act.put, hd]
          · simp [Act.put, Array.getElem?_setIfInBounds_ne he]
      · unfold slotOf at hj
        cases ho : ops[j]? with
        | none => rw [ho] at hj; cases hj
        | some o => rw [ho] at hj; exact hno o (by simpa using Array.mem_of_getElem? ho) hj
    rwa [h2] at h1
  · exfalso
    have : (Array.replicate ops.size false).getD j false = false := by
      by_cases h : j < ops.size <;> simp [h]
    rw [this] at hj
    cases hj
  · exfalso
    have : (Array.replicate ops.size false).getD i false = false := by
      by_cases h : i < ops.size <;> simp [h]
    rw [this] at hi
    cases hi
end
/-! Words for the operations' obligations. -/
section
variable {P : Program} {ops : Array Oper} {Q : Exit → Act → World → Prop} {R : World → World → Prop} {G : World → Prop} {V : Nat → Value → World → Prop} {a0 : Act}
theorem FrameAt.at {a : Act} {i : Nat} (h : FrameAt ops a0 a i) (k : Nat) (hk : ops.toList.all (fun o => o.dst != some k || o.after.toList.any (fun e => e.on == i && Region.binds .any e)) = true) : a.tmps.getD k undef = a0.tmps.getD k undef :=
  h.early k fun j o ho hd => by
    have h1 := List.all_eq_true.1 hk o (by simpa using Array.mem_of_getElem? ho)
    rw [hd] at h1
    have hz : ((some k : Option Tmp) != some k) = false := by simp
    rw [hz, Bool.false_or] at h1
    obtain ⟨e, he, h3⟩ := List.any_eq_true.1 h1
    rw [Bool.and_eq_true] at h3
    exact ⟨e, he, by simpa using h3.1, h3.2⟩
theorem FrameOk.at {a : Act} (h : FrameOk ops a0 a) (k : Nat) (hk : ops.toList.all (fun o => o.dst != some k) = true) : a.tmps.getD k undef = a0.tmps.getD k undef :=
  h.same k fun j hj => by
    unfold slotOf at hj
    cases ho : ops[j]? with
    | none => rw [ho] at hj; cases hj
    | some o =>
      rw [ho] at hj
      have := List.all_eq_true.1 hk o (by simpa using Array.mem_of_getElem? ho)
      simp [show o.dst = some k from hj] at this
theorem op_yields {i : Nat} {o : Oper} {a : Act} {w : World} (v : Value) (h : (execOp a.eval o).run P w = .ok (.value v) w) (hr : R w w) (hv : Hold R (V i (match o.dst with | some _ => v | none => undef)) w) :
    o.wp P a w (OpPost R V i o a w) Q := by
  unfold Oper.wp
  rw [h]
  exact ⟨hr, v, rfl, hv⟩
/-- An operation that makes memory. -/
theorem op_makes {i : Nat} {o : Oper} {a : Act} {w w' : World} (v : Value) (h : (execOp a.eval o).run P w = .ok (.value v) w') (hr : R w w') (hv : Hold R (V i (match o.dst with | some _ => v | none => undef)) w') :
    o.wp P a w (OpPost R V i o a w) Q := by
  unfold Oper.wp
  rw [h]
  exact ⟨hr, v, rfl, hv⟩
/-- A call. -/
theorem op_calls {i : Nat} {o : Oper} {a : Act} {w : World} {f : FuncId} {args : Array Value} (h : (execOp a.eval o).run P w = .ok (.enter f args) w)
    (hc : Calls P f args w fun e w' => ∃ v, e = .returned v ∧ R w w' ∧ Hold R (V i (match o.dst with | some _ => v | none => undef)) w') :
    o.wp P a w (OpPost R V i o a w) Q := by
  unfold Oper.wp
  rw [h]
  refine Calls.mono hc fun e w' hh => ?_
  obtain ⟨v, rfl, h1, h2⟩ := hh
  exact ⟨h1, v, rfl, h2⟩
theorem op_calls2 {i : Nat} {o : Oper} {a : Act} {w : World} {f : FuncId} {args : Array Value}
    (hc : Calls P f args w fun e w' => ∃ v, e = .returned v ∧ R w w' ∧ Hold R (V i (match o.dst with | some _ => v | none => undef)) w') (h : (execOp a.eval o).run P w = .ok (.enter f args) w) :
    o.wp P a w (OpPost R V i o a w) Q := op_calls h hc
theorem op_append {o : Oper} {a : Act} {w w' : World} {s x : Operand} {t : TypeId} {v u v' : Value} (ho : o.op = .call { callee := .builtin .append, args := #[s, x], argTypes := #[t, t] }) (hv : a.eval s = v) (hx : a.eval x = u)
    (hr : (Builtin.append_ #[t, t] o.type #[v, u]).run P w = .ok v' w') : (execOp a.eval o).run P w = .ok (.value v') w' := by
  simp only [execOp, ho, resolve, invoke, builtin, Sem.run_bind, Sem.run_pure, Result.andThen_ok, List.map_toArray, List.map_cons, List.map_nil, hv, hx, hr]
theorem yielded_of {a : Act} {j t : Nat} {b : Bool} (hj : slotOf ops j = some t) (h : a.tmps.getD t undef = .bool b) : yielded ops a.tmps j = some b := by
  unfold yielded slotOf at *
  rw [hj]
  simp only [Option.bind_some]
  cases hc : a.tmps[t]? with
  | none => simp [hc, undef] at h
  | some u => simp [hc] at h; rw [h]
theorem wanted_of {o : Oper} {a : Act} {j : Nat} {b want : Bool} (hg : o.guard = some (j, want)) (h : yielded ops a.tmps j = some b) : Region.wanted o (yielded ops a.tmps) = (b == want) := by
  unfold Region.wanted
  rw [hg]; simp only [h]
  cases b <;> cases want <;> rfl
theorem yielded_undef {a : Act} {j t : Nat} (hj : slotOf ops j = some t) (h : a.tmps.getD t undef = undef) : yielded ops a.tmps j = none := by
  unfold yielded slotOf at *
  rw [hj]
  simp only [Option.bind_some]
  cases hc : a.tmps[t]? with
  | none => rfl
  | some u => simp [hc] at h; rw [h]; rfl
theorem wanted_none {o : Oper} {a : Act} {j : Nat} {want : Bool} (hg : o.guard = some (j, want)) (h : yielded ops a.tmps j = none) : Region.wanted o (yielded ops a.tmps) = false := by
  unfold Region.wanted
  rw [hg]; simp only [h]
  rfl
end
end Go.Proofs.Ytbndmmfpoljeaaa

namespace Go.Proofs.Ytbndmmfpoljeaaa
open Go.ChangeShapes Go.WideShapes Go.ChangeAt Go.RowKit
set_option linter.unusedVariables false
set_option linter.unusedSimpArgs false
set_option maxRecDepth 100000
/-- A row of vec.Sort's: a text, a point. -/
structure RowT where
  text : ByteArray
  ad : Option Addr
  ln : Nat
  cp : Nat
  set : List Lbl
  val : Int
def RowT.cells (x : RowT) : List Value := [.string x.text, (.slice x.ad x.ln x.cp), .int .i64 x.val]
def RowT.key (x : RowT) : List UInt8 := x.text.toList
def rts (l : List RowT) : List Value := l.flatMap RowT.cells
theorem rts_length (l : List RowT) : (rts l).length = l.length * 3 := by
  induction l with
  | nil => rfl
  | cons x l ih => simp only [rts, List.flatMap_cons, List.length_append, List.length_cons, List.length_nil, RowT.cells] at ih ⊢; omega
theorem rts_append (l m : List RowT) : rts (l ++ m) = rts l ++ rts m := by simp [rts]
theorem rts_parts (l : List RowT) {p : Nat} (h : p < l.length) : rts l = rts (l.take p) ++ (l[p].cells ++ rts (l.drop (p + 1))) ∧ (rts (l.take p)).length = p * 3 := by
  refine ⟨?_, by rw [rts_length, List.length_take]; omega⟩
  have e : l = l.take p ++ ([l[p]] ++ l.drop (p + 1)) := by rw [List.singleton_append, ← List.drop_eq_getElem_cons h, List.take_append_drop]
  have e2 := congrArg rts e
  rw [rts_append, rts_append] at e2
  rw [e2]; simp [rts]
theorem rts_get (l : List RowT) {p : Nat} (h : p < l.length) : (rts l)[p * 3]? = some (.string l[p].text) ∧ (rts l)[p * 3 + 1]? = some (.slice l[p].ad l[p].ln l[p].cp) ∧ (rts l)[p * 3 + 2]? = some (.int .i64 l[p].val) := by
  obtain ⟨e, hl⟩ := rts_parts l h
  rw [e]
  refine ⟨?_, ?_, ?_⟩ <;> rw [List.getElem?_append_right (by omega), hl]
  · rw [Nat.sub_self]; rfl
  · rw [show p * 3 + 1 - p * 3 = 1 by omega]; rfl
  · rw [show p * 3 + 2 - p * 3 = 2 by omega]; rfl
theorem rts_set (l : List RowT) {p : Nat} (h : p < l.length) (x : RowT) : (((rts l).set (p * 3) (.string x.text)).set (p * 3 + 1) (.slice x.ad x.ln x.cp)).set (p * 3 + 2) (.int .i64 x.val) = rts (l.set p x) := by
  obtain ⟨e, hl⟩ := rts_parts l h
  have e2 : l.set p x = l.take p ++ ([x] ++ l.drop (p + 1)) := by rw [List.set_eq_take_append_cons_drop, if_pos h]; rfl
  rw [e2, rts_append, rts_append, e]
  rw [List.set_append_right _ _ (by omega), hl, Nat.sub_self]
  rw [List.set_append_right _ _ (by omega), hl, show p * 3 + 1 - p * 3 = 1 by omega]
  rw [List.set_append_right _ _ (by omega), hl, show p * 3 + 2 - p * 3 = 2 by omega]
  simp [rts, RowT.cells]
theorem own_setV {w : World} {base g i : Nat} {e : TypeId} {size n c : Nat} {xs : List Value} (h : w.ownsRow base e size (.slice (some ⟨g, 0, none⟩) n c) n xs) (hi : i < xs.length) (u : Value) :
    (w.setCell ⟨g, i, none⟩ u).ownsRow base e size (.slice (some ⟨g, 0, none⟩) n c) n (xs.set i u) := by
  refine ⟨by rw [List.length_set]; exact h.1, ?_⟩
  rcases h.2 with ⟨h1, _⟩ | ⟨g1, cap, cur, hv, hb, hh, hnc, hcm, hs, ht⟩
  · cases h1
  · injection hv with h1 h2 h3
    injection h1 with h1; injection h1 with h1; subst h1; subst h3
    refine .inr ⟨g, c, cur.setIfInBounds i u, rfl, hb, ?_, hnc, hcm, by simpa using hs, ?_⟩
    · simp [World.setCell, Array.getElem?_modify, hh]
    · rw [Array.toList_setIfInBounds, ← ht, List.take_set]
/-- x on its way through pre. -/
def midL (pre : List RowT) (x : RowT) (rest : List RowT) (j : Nat) : List RowT := pre.take j ++ x :: (pre.drop j ++ rest)
theorem midL_length (pre : List RowT) (x : RowT) (rest : List RowT) (j : Nat) : (midL pre x rest j).length = pre.length + 1 + rest.length := by
  unfold midL; simp; omega
theorem midL_at (pre : List RowT) (x : RowT) (rest : List RowT) {j : Nat} (h : j ≤ pre.length) : (midL pre x rest j)[j]? = some x := by
  unfold midL
  rw [List.getElem?_append_right (by rw [List.length_take]; omega), List.length_take, Nat.min_eq_left h, Nat.sub_self]; rfl
theorem midL_prev (pre : List RowT) (x : RowT) (rest : List RowT) {j : Nat} (h : j < pre.length) : (midL pre x rest (j + 1))[j]? = some pre[j] := by
  unfold midL
  rw [List.getElem?_append_left (by rw [List.length_take]; omega), List.getElem?_take, if_pos (by omega), List.getElem?_eq_getElem h]
theorem midL_swap (pre : List RowT) (x : RowT) (rest : List RowT) {j : Nat} (h : j < pre.length) : ((midL pre x rest (j + 1)).set (j + 1) pre[j]).set j x = midL pre x rest j := by
  unfold midL
  rw [List.take_succ_eq_append_getElem h, List.append_assoc, List.drop_eq_getElem_cons h]
  have hl : (pre.take j).length = j := by rw [List.length_take]; omega
  rw [List.set_append_right _ _ (by omega), hl, List.set_append_right _ _ (by omega), hl, Nat.sub_self, show j + 1 - j = 1 by omega]
  rfl
theorem midL_top (pre : List RowT) (x : RowT) (rest : List RowT) : midL pre x rest pre.length = pre ++ x :: rest := by unfold midL; simp
theorem midL_ins (pre : List RowT) (x : RowT) (rest : List RowT) {j : Nat} (h : insAt RowT.key pre x pre.length = j) : midL pre x rest j = insK RowT.key pre x ++ rest := by
  unfold midL insK; rw [h]; simp
theorem add_mkV (g j : Nat) : (⟨g, 0, none⟩ : Addr).add j = ⟨g, j, none⟩ := by unfold Addr.add; split <;> simp_all
/-- What the sort works on. -/
structure SrtAt (w0 : World) (base g n c : Nat) (L : List RowT) (W : World) : Prop where
  own : W.ownsRow base 85 3 (.slice (some ⟨g, 0, none⟩) n c) n (rts L)
  gr : w0.grownBy W (some g)
theorem SrtAt.len {w0 W : World} {base g n c : Nat} {L : List RowT} (h : SrtAt w0 base g n c L W) : L.length = n := by
  have := h.own.1; rw [rts_length] at this; omega
theorem SrtAt.alloc {w0 W : World} {base g n c : Nat} {L : List RowT} (h : SrtAt w0 base g n c L W) (o : Obj) : SrtAt w0 base g n c L (W.alloc o) :=
  ⟨own_below h.own ((Below.refl _ _).alloc (Nat.le_refl _) o) (Nat.le_refl _), only_alloc h.gr o⟩
theorem SrtAt.below {w0 W W' : World} {base g n c : Nat} {L : List RowT} (h : SrtAt w0 base g n c L W) (hb : Below W.heap.size W W') : SrtAt w0 base g n c L W' :=
  ⟨own_below h.own hb (Nat.le_refl _), ⟨hb.os.trans h.gr.os, hb.tape.trans h.gr.tape, hb.output.trans h.gr.output, Nat.le_trans h.gr.size hb.size, fun i hi hne => (hb.block i (Nat.lt_of_lt_of_le hi h.gr.size)).trans (h.gr.block i hi hne)⟩⟩
theorem SrtAt.drewN {w0 W : World} {base g n c : Nat} {L : List RowT} (h : SrtAt w0 base g n c L W) (k : Nat) : SrtAt w0 base g n c L (W.drewN k) := ⟨h.own, only_drewN h.gr k⟩
theorem SrtAt.cells {w0 W : World} {base g n c : Nat} {L : List RowT} (h : SrtAt w0 base g n c L W) {p : Nat} {y : RowT} (hy : L[p]? = some y) : W.cell? ⟨g, p * 3, none⟩ = some (.string y.text) ∧ W.cell? ⟨g, p * 3 + 1, none⟩ = some (.slice y.ad y.ln y.cp) ∧ W.cell? ⟨g, p * 3 + 2, none⟩ = some (.int .i64 y.val) := by
  obtain ⟨hp, rfl⟩ := List.getElem?_eq_some_iff.1 hy
  obtain ⟨h0, h1, h2⟩ := rts_get L hp
  have hc := h.own.cells (g := g) rfl
  have ea : ∀ k, (⟨g, 0, none⟩ : Addr).add k = ⟨g, k, none⟩ := fun k => by unfold Addr.add; split <;> simp_all
  have a0 := hc _ _ h0; have a1 := hc _ _ h1; have a2 := hc _ _ h2
  rw [ea] at a0 a1 a2
  exact ⟨a0, a1, a2⟩
theorem SrtAt.frozen {w0 W : World} {base g n c : Nat} {L : List RowT} (h : SrtAt w0 base g n c L W) (o : Nat) : W.frozen? ⟨g, o, none⟩ = false := by
  rcases h.own.2 with ⟨h1, _⟩ | ⟨g1, cap, cur, hv, hb, hh, _⟩
  · cases h1
  · injection hv with h1 _ _; injection h1 with h1; injection h1 with h1; subst h1
    simp [World.frozen?, hh]
theorem SrtAt.put {w0 W : World} {base g n c : Nat} {L : List RowT} (h : SrtAt w0 base g n c L W) {p : Nat} (hp : p < L.length) (x : RowT) : SrtAt w0 base g n c (L.set p x) (((W.setCell ⟨g, p * 3, none⟩ (.string x.text)).setCell ⟨g, p * 3 + 1, none⟩ (.slice x.ad x.ln x.cp)).setCell ⟨g, p * 3 + 2, none⟩ (.int .i64 x.val)) := by
  have hl := rts_length L
  refine ⟨?_, only_setCell (only_setCell (only_setCell h.gr (.inl rfl) _) (.inl rfl) _) (.inl rfl) _⟩
  rw [← rts_set L hp x]
  exact own_setV (own_setV (own_setV h.own (by omega) _) (by rw [List.length_set]; omega) _) (by rw [List.length_set, List.length_set]; omega) _
theorem SrtAt.lt {w0 W : World} {base g n c : Nat} {L : List RowT} (h : SrtAt w0 base g n c L W) : g < W.heap.size ∧ n ≤ c ∧ c ≤ 9223372036854775807 := by
  rcases h.own.2 with ⟨h1, _⟩ | ⟨g1, cap, cur, hv, hb, hh, hnc, hcm, _⟩
  · cases h1
  · injection hv with h1 _ h3; injection h1 with h1; injection h1 with h1; subst h1; subst h3
    exact ⟨(Array.getElem?_eq_some_iff.1 hh).1, hnc, by unfold maxLen at hcm; omega⟩
set_option maxHeartbeats 4000000 in
theorem inssort_any (w0 : World) (base g n c : Nat) (L : List RowT) (w : World) (h : SrtAt w0 base g n c L w) (hn0 : 0 < n) (hn : n ≤ 1000000) :
    Calls Try.prog 88 #[.slice (some ⟨g, 0, none⟩) n c, .int .i64 0, .int .i64 n, .func (.func 56) #[] #[]] w fun e w' => e = .returned (.tuple #[]) ∧ SrtAt w0 base g n c (sortK RowT.key L) w' := by
  obtain ⟨hgl, hnc, hcm⟩ := h.lt
  have hL := h.len
  have H0 := Lib.hid h
  have HSV : Hid (∀ k, k < L.length → (sortK RowT.key (L.take k)).length = k) := Lib.hid fun k hk => by rw [sortK_length, List.length_take]; omega
  have HNX := Lib.hid (fun k (hk : k < L.length) => sortK_next RowT.key L hk)
  have HDR := Lib.hid (fun k (hk : k < L.length) => List.drop_eq_getElem_cons hk)
  clear h
  go_enter Try.func88, Try.ntmps88
  go_wp2_with fail
  go_loopg [8] n (fun gk x8 wr => ∃ k : Nat, k + gk = n + 1 ∧ 0 < k ∧ k ≤ n ∧ x8 = .int .i64 k ∧ SrtAt w0 base g n c (sortK RowT.key (L.take k) ++ L.drop k) wr)
  case atStart => exact ⟨1, by omega, by omega, hn0, rfl, by
    have h0 := H0.out
    cases hLL : L with
    | nil => rw [hLL] at hL; simp at hL; omega
    | cons x l => rw [hLL] at h0; exact h0⟩
  case round =>
    obtain ⟨k, hkg, hk0, hkn, rfl, hsrt⟩ := hrel
    have HS := Lib.hid hsrt
    clear hsrt H0
    by_cases hlt : k < n
    case neg =>
      obtain rfl : n = k := by omega
      have HE := Lib.hid (show SrtAt w0 base g n c (sortK RowT.key L) wr by
        have h := HS.out
        rwa [List.take_of_length_le (by omega), List.drop_of_length_le (by omega), List.append_nil] at h)
      go_wp2_with fail
      first | go_end0 | skip
      exact ⟨rfl, HE.out⟩
    case pos =>
      cases gk with
      | zero => omega
      | succ gq =>
      have hpl := HSV.out k (by omega)
      have hnx := HNX.out k (by omega)
      have hdr := HDR.out k (by omega)
      have HS2 := Lib.hid (show SrtAt w0 base g n c (sortK RowT.key (L.take k) ++ L[k] :: L.drop (k + 1)) wr by rw [← hdr]; exact HS.out)
      obtain ⟨x, hx⟩ : ∃ x, L[k] = x := ⟨_, rfl⟩
      obtain ⟨pre, hpre⟩ : ∃ p, sortK RowT.key (L.take k) = p := ⟨_, rfl⟩
      obtain ⟨rest, hrest⟩ : ∃ p, L.drop (k + 1) = p := ⟨_, rfl⟩
      rw [hx] at HS2 hnx
      rw [hpre] at hpl HS2 hnx
      rw [hrest] at HS2
      have HNE := Lib.hid hnx; have HPL := Lib.hid hpl
      have HM0 := Lib.hid (show SrtAt w0 base g n c (midL pre x rest k) wr by rw [← hpl, midL_top]; exact HS2.out)
      have HEND : Hid (∀ j, insAt RowT.key pre x k = j → midL pre x rest j = sortK RowT.key (L.take (k + 1)) ++ L.drop (k + 1)) := Lib.hid fun j hj => by rw [hnx, hrest]; exact midL_ins pre x rest (by rw [hpl]; exact hj)
      clear hnx hdr hx hpre hrest HS HS2 HNE hpl
      go_wp2_with fail
      go_loopg [9] k (fun gj x9 wj => x9 = .int .i64 gj ∧ gj ≤ k ∧ insAt RowT.key pre x k = insAt RowT.key pre x gj ∧ SrtAt w0 base g n c (midL pre x rest gj) wj)
      case atStart => exact ⟨rfl, Nat.le_refl _, rfl, HM0.out⟩
      case round =>
        obtain ⟨rfl, hjk, hins, hsrt⟩ := hrel
        have HS := Lib.hid hsrt; have HI := Lib.hid hins
        clear hsrt hins HM0
        cases gk with
        | zero =>
          have HZ := Lib.hid (show SrtAt w0 base g n c (sortK RowT.key (L.take (k + 1)) ++ L.drop (k + 1)) wr by rw [← HEND.out 0 HI.out]; exact HS.out)
          have hd : decide ((0 : Int) < 0) = false := rfl
          clear HS HI HEND
          go_upto_region 4 with fail
          go_quiet (fail)
          go_wp2_with fail
          go_roundg gq
          case measure => omega
          case rel => exact ⟨k + 1, by omega, by omega, by omega, by first | rfl | go_num, HZ.out.drewN _⟩
        | succ j1 =>
          have hj1 : j1 < pre.length := by have := HPL.out; omega
          have HMX := Lib.hid (midL_at pre x rest (show j1 + 1 ≤ pre.length by omega))
          have HMY := Lib.hid (midL_prev pre x rest hj1)
          have HMS := Lib.hid (midL_swap pre x rest hj1)
          have HIN := Lib.hid (show insAt RowT.key pre x (j1 + 1) = if (pre[j1]?.map fun y => Op.bytesLess x.key y.key) = some true then insAt RowT.key pre x j1 else j1 + 1 from rfl)
          rw [List.getElem?_eq_getElem hj1] at HIN
          obtain ⟨y, hy⟩ : ∃ y, pre[j1] = y := ⟨_, rfl⟩
          rw [hy] at HMY HMS HIN
          obtain ⟨lt, hlt2⟩ : ∃ b, Op.bytesLess x.text.toList y.text.toList = b := ⟨_, rfl⟩
          have HLT : Hid (decide (cmpI x.text.toList y.text.toList < 0) = lt) := Lib.hid (by rw [cmpI_neg, hlt2])
          have HC := Lib.hid (fun V => (sort1_any x.text y.text (.slice x.ad x.ln x.cp) (.slice y.ad y.ln y.cp) x.val y.val V rfl rfl).mono fun e w' h => show e = .returned (.int .i64 (cmpI x.text.toList y.text.toList)) ∧ Below V.heap.size V w' from ⟨h.1, by rw [h.2]; exact ((Below.refl _ _).alloc (Nat.le_refl _) _).alloc (by simp) _⟩)
          have HLT2 := Lib.hid hlt2
          obtain ⟨j, hj⟩ : ∃ j, j1 + 1 = j := ⟨_, rfl⟩
          have hjj : ((j : Int) - 1) = (j1 : Int) := by omega
          have hwj : IntKind.i64.wrap ((j : Int) - 1) = (j1 : Int) := by rw [IntKind.wrap_i64]; omega
          have hj0 : decide ((0 : Int) < (j : Int)) = true := by simp; omega
          have hj2 : (0 : Int) < (j : Int) := by omega
          have hj3 : (j : Int) < (n : Int) := by omega
          have hj4 : (j1 : Int) < (n : Int) := by omega
          have q0 : 0 < j := by omega
          have q1 : ¬ n ≤ j := by omega
          have q2 : ¬ n ≤ j1 := by omega
          have hlt3 := HLT.out
          rw [show ((j1 + 1 : Nat) : Int) = (j : Int) by omega]
          rw [hj] at HMX HMY HMS HS HIN
          go_upto_region 4 with fail
          refine wp_region_facts (R := fun a b => Below a.heap.size a b) (G := (fun W => SrtAt w0 base g n c (midL pre x rest j) W)) (V := fun i' u' W => match i' with | 0 => u' = .int .i64 j | 1 => u' = .int .i64 0 | 2 => u' = .bool true | 3 => u' = .bool true | 4 => u' = .func (.func 56) #[] #[] | 5 => u' = .slice (some ⟨g, 0, none⟩) n c | 6 => u' = .int .i64 j | 7 => u' = .pointer (some ⟨g, j * 3, none⟩) | 8 => u' = .agg #[.string x.text, (.slice x.ad x.ln x.cp), .int .i64 x.val] | 9 => u' = .slice (some ⟨g, 0, none⟩) n c | 10 => u' = .int .i64 j | 11 => u' = .int .i64 j1 | 12 => u' = .pointer (some ⟨g, j1 * 3, none⟩) | 13 => u' = .agg #[.string y.text, (.slice y.ad y.ln y.cp), .int .i64 y.val] | 14 => u' = .int .i64 (cmpI x.text.toList y.text.toList) | 15 => u' = .bool lt | 16 => u' = .bool lt | _ => True) (by kernel_rfl) (fun w => Below.refl _ _) (fun a b c h1 h2 => h1.trans (h2.mono h1.size)) (by kernel_rfl) (by kernel_rfl) ?hG ⟨?o0, ?o1, ?o2, ?o3, ?o4, ?o5, ?o6, ?o7, ?o8, ?o9, ?o10, ?o11, ?o12, ?o13, ?o14, ?o15, ?o16, trivial⟩ ?hend
          case o0 =>
            intro a w hfr hG hd
            refine ⟨fun hw => ?_, fun hw => absurd hw (by simp [Region.wanted])⟩
            have s9 : a.tmps.getD 9 undef = .int .i64 j := hfr.at 9 (by kernel_rfl)
            refine op_yields (.int .i64 j) ?_ ?_ ?_
            · simp only [execOp, resolve, List.map_toArray, List.map_cons, List.map_nil, Act.eval, s9]; simp [go_sem, -Array.getD_eq_getD_getElem?, s9]
            · exact Below.refl _ _
            · exact (fun _ _ => rfl)
          case o1 =>
            intro a w hfr hG hd
            refine ⟨fun hw => ?_, fun hw => absurd hw (by simp [Region.wanted])⟩
            have s1 : a.tmps.getD 1 undef = .int .i64 0 := hfr.at 1 (by kernel_rfl)
            refine op_yields (.int .i64 0) ?_ ?_ ?_
            · simp only [execOp, resolve, List.map_toArray, List.map_cons, List.map_nil, Act.eval, s1]; simp [go_sem, -Array.getD_eq_getD_getElem?, s1]
            · exact Below.refl _ _
            · exact (fun _ _ => rfl)
          case o2 =>
            intro a w hfr hG hd
            obtain ⟨d0, d1, _⟩ := hd
            refine ⟨fun hw => ?_, fun hw => absurd hw (by simp [Region.wanted])⟩
            have s18 : a.tmps.getD 18 undef = .int .i64 j := (d0 rfl).now
            have s19 : a.tmps.getD 19 undef = .int .i64 0 := (d1 rfl).now
            refine op_yields (.bool true) ?_ ?_ ?_
            · simp only [execOp, resolve, List.map_toArray, List.map_cons, List.map_nil, Act.eval, s18, s19]; simp [go_sem, -Array.getD_eq_getD_getElem?, s18, s19, q0]
            · exact Below.refl _ _
            · exact (fun _ _ => rfl)
          case o3 =>
            intro a w hfr hG hd
            obtain ⟨d0, _⟩ := hd
            refine ⟨fun hw => ?_, fun hw => absurd hw (by simp [Region.wanted])⟩
            have s20 : a.tmps.getD 20 undef = .bool true := (d0 rfl).now
            refine op_yields (.bool true) ?_ ?_ ?_
            · simp only [execOp, resolve, List.map_toArray, List.map_cons, List.map_nil, Act.eval, s20]; simp [go_sem, -Array.getD_eq_getD_getElem?, s20]
            · exact Below.refl _ _
            · exact (fun _ _ => rfl)
          case o4 =>
            intro a w hfr hG hd
            obtain ⟨d0, _⟩ := hd
            have sg : a.tmps.getD 21 undef = .bool true := (d0 rfl).now
            refine ⟨fun hw => ?_, fun hw => by rw [wanted_of rfl (yielded_of rfl sg)] at hw; exact absurd hw (by decide)⟩
            have s3 : a.tmps.getD 3 undef = .func (.func 56) #[] #[] := hfr.at 3 (by kernel_rfl)
            refine op_yields (.func (.func 56) #[] #[]) ?_ ?_ ?_
            · simp only [execOp, resolve, List.map_toArray, List.map_cons, List.map_nil, Act.eval, s3]; simp [go_sem, -Array.getD_eq_getD_getElem?, s3]
            · exact Below.refl _ _
            · exact (fun _ _ => rfl)
          case o5 =>
            intro a w hfr hG hd
            obtain ⟨d0, _⟩ := hd
            have sg : a.tmps.getD 21 undef = .bool true := (d0 rfl).now
            refine ⟨fun hw => ?_, fun hw => by rw [wanted_of rfl (yielded_of rfl sg)] at hw; exact absurd hw (by decide)⟩
            have s0 : a.tmps.getD 0 undef = .slice (some ⟨g, 0, none⟩) n c := hfr.at 0 (by kernel_rfl)
            refine op_yields (.slice (some ⟨g, 0, none⟩) n c) ?_ ?_ ?_
            · simp only [execOp, resolve, List.map_toArray, List.map_cons, List.map_nil, Act.eval, s0]; simp [go_sem, -Array.getD_eq_getD_getElem?, s0]
            · exact Below.refl _ _
            · exact (fun _ _ => rfl)
          case o6 =>
            intro a w hfr hG hd
            obtain ⟨d0, _⟩ := hd
            have sg : a.tmps.getD 21 undef = .bool true := (d0 rfl).now
            refine ⟨fun hw => ?_, fun hw => by rw [wanted_of rfl (yielded_of rfl sg)] at hw; exact absurd hw (by decide)⟩
            have s9 : a.tmps.getD 9 undef = .int .i64 j := hfr.at 9 (by kernel_rfl)
            refine op_yields (.int .i64 j) ?_ ?_ ?_
            · simp only [execOp, resolve, List.map_toArray, List.map_cons, List.map_nil, Act.eval, s9]; simp [go_sem, -Array.getD_eq_getD_getElem?, s9]
            · exact Below.refl _ _
            · exact (fun _ _ => rfl)
          case o7 =>
            intro a w hfr hG hd
            obtain ⟨d0, d1, d2, _⟩ := hd
            have sg : a.tmps.getD 21 undef = .bool true := (d2 rfl).now
            refine ⟨fun hw => ?_, fun hw => by rw [wanted_of rfl (yielded_of rfl sg)] at hw; exact absurd hw (by decide)⟩
            have s23 : a.tmps.getD 23 undef = .slice (some ⟨g, 0, none⟩) n c := (d0 rfl).now
            have s24 : a.tmps.getD 24 undef = .int .i64 j := (d1 rfl).now
            refine op_yields (.pointer (some ⟨g, j * 3, none⟩)) ?_ ?_ ?_
            · simp only [execOp, resolve, List.map_toArray, List.map_cons, List.map_nil, Act.eval, s23, s24]; simp [go_sem, -Array.getD_eq_getD_getElem?, s23, s24, q1]
            · exact Below.refl _ _
            · exact (fun _ _ => rfl)
          case o8 =>
            intro a w hfr hG hd
            obtain ⟨d0, d1, _⟩ := hd
            have sg : a.tmps.getD 21 undef = .bool true := (d1 rfl).now
            refine ⟨fun hw => ?_, fun hw => by rw [wanted_of rfl (yielded_of rfl sg)] at hw; exact absurd hw (by decide)⟩
            have s25 : a.tmps.getD 25 undef = .pointer (some ⟨g, j * 3, none⟩) := (d0 rfl).now
            obtain ⟨z0, z1, z2⟩ := hG.now.cells (HMX.out)
            refine op_yields (.agg #[.string x.text, (.slice x.ad x.ln x.cp), .int .i64 x.val]) ?_ ?_ ?_
            · simp only [execOp, resolve, List.map_toArray, List.map_cons, List.map_nil, Act.eval, s25]; simp [go_sem, -Array.getD_eq_getD_getElem?, s25, z0, z1, z2]
            · exact Below.refl _ _
            · exact (fun _ _ => rfl)
          case o9 =>
            intro a w hfr hG hd
            obtain ⟨d0, _⟩ := hd
            have sg : a.tmps.getD 21 undef = .bool true := (d0 rfl).now
            refine ⟨fun hw => ?_, fun hw => by rw [wanted_of rfl (yielded_of rfl sg)] at hw; exact absurd hw (by decide)⟩
            have s0 : a.tmps.getD 0 undef = .slice (some ⟨g, 0, none⟩) n c := hfr.at 0 (by kernel_rfl)
            refine op_yields (.slice (some ⟨g, 0, none⟩) n c) ?_ ?_ ?_
            · simp only [execOp, resolve, List.map_toArray, List.map_cons, List.map_nil, Act.eval, s0]; simp [go_sem, -Array.getD_eq_getD_getElem?, s0]
            · exact Below.refl _ _
            · exact (fun _ _ => rfl)
          case o10 =>
            intro a w hfr hG hd
            obtain ⟨d0, _⟩ := hd
            have sg : a.tmps.getD 21 undef = .bool true := (d0 rfl).now
            refine ⟨fun hw => ?_, fun hw => by rw [wanted_of rfl (yielded_of rfl sg)] at hw; exact absurd hw (by decide)⟩
            have s9 : a.tmps.getD 9 undef = .int .i64 j := hfr.at 9 (by kernel_rfl)
            refine op_yields (.int .i64 j) ?_ ?_ ?_
            · simp only [execOp, resolve, List.map_toArray, List.map_cons, List.map_nil, Act.eval, s9]; simp [go_sem, -Array.getD_eq_getD_getElem?, s9]
            · exact Below.refl _ _
            · exact (fun _ _ => rfl)
          case o11 =>
            intro a w hfr hG hd
            obtain ⟨d0, d1, _⟩ := hd
            have sg : a.tmps.getD 21 undef = .bool true := (d1 rfl).now
            refine ⟨fun hw => ?_, fun hw => by rw [wanted_of rfl (yielded_of rfl sg)] at hw; exact absurd hw (by decide)⟩
            have s28 : a.tmps.getD 28 undef = .int .i64 j := (d0 rfl).now
            refine op_yields (.int .i64 j1) ?_ ?_ ?_
            · simp only [execOp, resolve, List.map_toArray, List.map_cons, List.map_nil, Act.eval, s28]; simp [go_sem, -Array.getD_eq_getD_getElem?, s28, hwj]
            · exact Below.refl _ _
            · exact (fun _ _ => rfl)
          case o12 =>
            intro a w hfr hG hd
            obtain ⟨d0, d1, d2, _⟩ := hd
            have sg : a.tmps.getD 21 undef = .bool true := (d2 rfl).now
            refine ⟨fun hw => ?_, fun hw => by rw [wanted_of rfl (yielded_of rfl sg)] at hw; exact absurd hw (by decide)⟩
            have s27 : a.tmps.getD 27 undef = .slice (some ⟨g, 0, none⟩) n c := (d0 rfl).now
            have s29 : a.tmps.getD 29 undef = .int .i64 j1 := (d1 rfl).now
            refine op_yields (.pointer (some ⟨g, j1 * 3, none⟩)) ?_ ?_ ?_
            · simp only [execOp, resolve, List.map_toArray, List.map_cons, List.map_nil, Act.eval, s27, s29]; simp [go_sem, -Array.getD_eq_getD_getElem?, s27, s29, q2]
            · exact Below.refl _ _
            · exact (fun _ _ => rfl)
          case o13 =>
            intro a w hfr hG hd
            obtain ⟨d0, d1, _⟩ := hd
            have sg : a.tmps.getD 21 undef = .bool true := (d1 rfl).now
            refine ⟨fun hw => ?_, fun hw => by rw [wanted_of rfl (yielded_of rfl sg)] at hw; exact absurd hw (by decide)⟩
            have s30 : a.tmps.getD 30 undef = .pointer (some ⟨g, j1 * 3, none⟩) := (d0 rfl).now
            obtain ⟨z0, z1, z2⟩ := hG.now.cells (HMY.out)
            refine op_yields (.agg #[.string y.text, (.slice y.ad y.ln y.cp), .int .i64 y.val]) ?_ ?_ ?_
            · simp only [execOp, resolve, List.map_toArray, List.map_cons, List.map_nil, Act.eval, s30]; simp [go_sem, -Array.getD_eq_getD_getElem?, s30, z0, z1, z2]
            · exact Below.refl _ _
            · exact (fun _ _ => rfl)
          case o14 =>
            intro a w hfr hG hd
            obtain ⟨d0, d1, d2, d3, d4, _⟩ := hd
            have sg : a.tmps.getD 21 undef = .bool true := (d3 rfl).now
            refine ⟨fun hw => ?_, fun hw => by rw [wanted_of rfl (yielded_of rfl sg)] at hw; exact absurd hw (by decide)⟩
            have s22 : a.tmps.getD 22 undef = .func (.func 56) #[] #[] := (d0 rfl).now
            have s26 : a.tmps.getD 26 undef = .agg #[.string x.text, (.slice x.ad x.ln x.cp), .int .i64 x.val] := (d1 rfl).now
            have s31 : a.tmps.getD 31 undef = .agg #[.string y.text, (.slice y.ad y.ln y.cp), .int .i64 y.val] := (d2 rfl).now
            refine op_calls2 ((HC.out w).mono fun e' w' hh => ⟨_, hh.1, hh.2, (fun _ _ => rfl)⟩) ?_
            simp only [execOp, resolve, List.map_toArray, List.map_cons, List.map_nil, Act.eval, s22, s26, s31]; simp [go_sem, -Array.getD_eq_getD_getElem?, s22, s26, s31]
          case o15 =>
            intro a w hfr hG hd
            obtain ⟨d0, d1, _⟩ := hd
            have sg : a.tmps.getD 21 undef = .bool true := (d1 rfl).now
            refine ⟨fun hw => ?_, fun hw => by rw [wanted_of rfl (yielded_of rfl sg)] at hw; exact absurd hw (by decide)⟩
            have s32 : a.tmps.getD 32 undef = .int .i64 (cmpI x.text.toList y.text.toList) := (d0 rfl).now
            refine op_yields (.bool lt) ?_ ?_ ?_
            · simp only [execOp, resolve, List.map_toArray, List.map_cons, List.map_nil, Act.eval, s32]; simp [go_sem, -Array.getD_eq_getD_getElem?, s32, hlt3]
            · exact Below.refl _ _
            · exact (fun _ _ => rfl)
          case o16 =>
            intro a w hfr hG hd
            obtain ⟨d0, d1, _⟩ := hd
            refine ⟨fun hw => ?_, fun hw => absurd hw (by simp [Region.wanted])⟩
            have s21 : a.tmps.getD 21 undef = .bool true := (d0 rfl).now
            have s33 : a.tmps.getD 33 undef = .bool lt := (d1 rfl).now
            refine op_yields (.bool lt) ?_ ?_ ?_
            · simp only [execOp, resolve, List.map_toArray, List.map_cons, List.map_nil, Act.eval, s21, s33]; simp [go_sem, -Array.getD_eq_getD_getElem?, s21, s33]
            · exact Below.refl _ _
            · exact (fun _ _ => rfl)
          case hG => exact fun w' hb => HS.out.below ((Below.refl _ _).drew.trans (hb.mono (by simp)))
          case hend =>
            intro vs w' hG hv
            have key : vs 16 = .bool lt := by
              obtain ⟨_, _, _, _, _, _, _, _, _, _, _, _, _, _, _, _, h16, _⟩ := hv
              exact h16.now
            have HS2 := Lib.hid hG.now
            clear hv hG HC HS
            simp only [putAll, Act.put, key]
            clear key hlt3
            go_simp
            cases lt with
            | false =>
              have HZ := Lib.hid (show SrtAt w0 base g n c (sortK RowT.key (L.take (k + 1)) ++ L.drop (k + 1)) w' by
                rw [← HEND.out j (by rw [HI.out, hj, HIN.out, if_neg (by simpa [RowT.key] using HLT2.out)])]; exact HS2.out)
              clear HS2 HI HEND HIN HMX HMY HMS
              go_wp2_with fail
              go_roundg gq
              case measure => omega
              case rel => exact ⟨k + 1, by omega, by omega, by omega, by first | rfl | go_num, HZ.out⟩
            | true =>
              go_upto_region 6 with fail
              obtain ⟨x0, x1, x2⟩ := HS2.out.cells HMX.out
              obtain ⟨y0, y1, y2⟩ := HS2.out.cells HMY.out
              have hadd := add_mkV g (j * 3)
              have hadd1 := add_mkV g (j1 * 3)
              have hf := HS2.out.frozen
              have HP1 := HS2.out.put (p := j) (by rw [midL_length, HPL.out]; omega) y
              have HP2 := Lib.hid (show SrtAt w0 base g n c (midL pre x rest j1) _ from HMS.out ▸ HP1.put (p := j1) (by rw [List.length_set, midL_length, HPL.out]; omega) x)
              have HI2 := Lib.hid (show insAt RowT.key pre x k = insAt RowT.key pre x j1 by rw [HI.out, hj, HIN.out, if_pos (by simpa [RowT.key] using HLT2.out)])
              clear HP1 HS2 HI HIN HMX HMY HMS HEND HLT HLT2
              go_region
              generalize hWW : World.setCell _ _ _ = W6 at HP2 ⊢
              have HP3 := Lib.hid (show SrtAt w0 base g n c (midL pre x rest j1) W6 from HP2.out)
              clear HP2 hWW
              go_wp2_with fail
              go_roundg j1
              case measure => omega
              case rel => exact ⟨by first | rfl | go_num, by omega, HI2.out, HP3.out.below (Below.refl _ _).drew⟩
theorem inssort_zero (A : Option Addr) (c : Nat) (w : World) :
    Calls Try.prog 88 #[.slice A 0 c, .int .i64 0, .int .i64 0, .func (.func 56) #[] #[]] w fun e w' => e = .returned (.tuple #[]) ∧ w = w' := by
  go_enter Try.func88, Try.ntmps88
  go_wp2_with fail
  go_loopg [8] 1 (fun gk x8 wr => x8 = .int .i64 1 ∧ w = wr)
  case atStart => exact ⟨rfl, rfl⟩
  case round =>
    obtain ⟨rfl, rfl⟩ := hrel
    go_wp2_with fail
    go_end0
    exact ⟨rfl, rfl⟩
set_option maxHeartbeats 2000000 in
theorem stable_any (base : Nat) (A : Option Addr) (n c : Nat) (L : List RowT) (w : World) (h : w.ownsRow base 85 3 (.slice A n c) n (rts L)) (hn : n ≤ 19) :
    Calls Try.prog 79 #[.slice A n c, .int .i64 n, .func (.func 56) #[] #[]] w fun e w' => e = .returned (.tuple #[]) ∧ w'.ownsRow base 85 3 (.slice A n c) n (rts (sortK RowT.key L)) ∧ w.grownBy w' (Value.slice A n c).ownBlock := by
  have hl : L.length = n := by have := h.1; rw [rts_length] at this; omega
  have HC : Hid (Calls Try.prog 88 #[.slice A n c, .int .i64 0, .int .i64 n, .func (.func 56) #[] #[]] w fun e w' => e = .returned (.tuple #[]) ∧ w'.ownsRow base 85 3 (.slice A n c) n (rts (sortK RowT.key L)) ∧ w.grownBy w' (Value.slice A n c).ownBlock) := Lib.hid (by
    rcases Nat.eq_zero_or_pos n with h0 | h0
    · subst h0
      have hL : L = [] := List.eq_nil_of_length_eq_zero hl
      subst hL
      exact (inssort_zero A c w).mono fun e w' hh => ⟨hh.1, by rw [← hh.2]; exact h, by rw [← hh.2]; exact World.grownBy.refl _ _⟩
    · obtain ⟨g, cap, hv, _, hlt⟩ := h.form h0
      injection hv with hv _ hc; subst hv; subst hc
      exact (inssort_any w base g n c L w ⟨h, World.grownBy.refl _ _⟩ h0 (by omega)).mono fun e w' hh => ⟨hh.1, hh.2.own, hh.2.gr⟩)
  clear h hl
  have hn2 : (n : Int) < 20 := by omega
  go_enter Try.func79, Try.ntmps79
  go_wp2_with fail
  go_loopg [7, 8] 1 (fun gk x7 x8 wr => x7 = .int .i64 0 ∧ x8 = .int .i64 20 ∧ w = wr)
  case atStart => exact ⟨rfl, rfl, rfl⟩
  case round =>
    obtain ⟨rfl, rfl, rfl⟩ := hrel
    go_wp2_with fail
    (with_reducible refine HC.out.mono ?_); rintro e w1 ⟨rfl, ho, hg⟩
    have HO := Lib.hid ho; have HG := Lib.hid hg
    clear ho hg HC
    go_wp2_with fail
    go_loopg [6] 1 (fun gk x6 wr => x6 = .int .i64 20 ∧ w1 = wr)
    case atStart => exact ⟨rfl, rfl⟩
    case round =>
      obtain ⟨rfl, rfl⟩ := hrel
      go_wp2_with fail
      go_end0
      exact ⟨rfl, HO.out, HG.out⟩
theorem sortStable_any (base : Nat) (A : Option Addr) (n c : Nat) (L : List RowT) (w : World) (h : w.ownsRow base 85 3 (.slice A n c) n (rts L)) (hn : n ≤ 19) :
    Calls Try.prog 55 #[.slice A n c, .func (.func 56) #[] #[]] w fun e w' => e = .returned (.tuple #[]) ∧ w'.ownsRow base 85 3 (.slice A n c) n (rts (sortK RowT.key L)) ∧ w.grownBy w' (Value.slice A n c).ownBlock := by
  have HC := Lib.hid (stable_any base A n c L w h hn)
  clear h
  go_enter Try.func55, Try.ntmps55
  go_wp2_with fail
  (with_reducible refine HC.out.mono ?_); rintro e w1 ⟨rfl, ho, hg⟩
  have HO := Lib.hid ho; have HG := Lib.hid hg
  clear ho hg HC
  go_wp2_with fail
  go_end0
  exact ⟨rfl, HO.out, HG.out⟩
end Go.Proofs.Ytbndmmfpoljeaaa

namespace Go.Proofs.Ytbndmmfpoljeaaa
open Go.ChangeShapes Go.WideShapes Go.ChangeAt Go.RowKit
set_option linter.unusedVariables false
set_option linter.unusedSimpArgs false
set_option maxRecDepth 100000
def nameB : ByteArray := ⟨#[110, 97, 109, 101]⟩
/-- A set without its name. -/
def bareL (l : List Lbl) : List Lbl := l.filter fun x => !hasS [nameB] x.1
set_option maxHeartbeats 1000000 in
theorem key_any (A : Option Addr) (n c : Nat) (l : List Lbl) (z : Int) (w : World) (h : Sees w w.heap.size 2 A n (lbls l)) (hn : n ≤ 100000) :
    Calls Try.prog 33 #[.agg #[.slice A n c, .int .i64 z]] w (OwnAns 53 2 (bareL l).length (lbls (bareL l)) w) := by
  have hb1 := (Below.refl w.heap.size w).alloc (Nat.le_refl _) (.cells #[.slice A n c, .int .i64 z] 28)
  have HB1 := Lib.hid hb1
  have HBX := Lib.hid (Blk.mk (heap_alloc_new w (.cells #[.slice A n c, .int .i64 z] 28)) : Blk _ w.heap.size 28 [.slice A n c, .int .i64 z])
  have HC := Lib.hid (fun (V : World) (hV : Below w.heap.size w V) (g : Nat) (hg : Blk V g 9 [.string nameB]) => drop_any A (some ⟨g, 0, none⟩) n c 1 1 w.heap.size V.heap.size l [nameB] V (h.below hV) hV.size hn (hg.sees rfl (List.prefix_refl _)) (Nat.le_refl _) (by omega))
  clear h hb1
  go_enter Try.func33, Try.ntmps33
  go_upto_region 1 with fail
  generalize w.alloc (.cells #[.slice A n c, .int .i64 z] 28) = W1 at *
  have z0 := HBX.out.cell 0
  simp only [List.getElem?_cons_zero] at z0
  have hs := HB1.out.size
  have HB2 := Lib.hid (HB1.out.alloc hs (.cells #[.string nameB] 9))
  have HN := Lib.hid (Blk.mk (heap_alloc_new W1 (.cells #[.string nameB] 9)) : Blk _ W1.heap.size 9 [.string nameB])
  have HD := Lib.hid (HC.out _ HB2.out _ HN.out)
  unfold nameB at HD
  go_wp2_with fail
  (with_reducible refine HD.out.mono ?_); rintro e w3 ⟨A', c', rfl, hown, hb, h1, h2⟩
  have HF : Hid (OwnAns 53 2 (bareL l).length (lbls (bareL l)) w (.returned (.slice A' (bareL l).length c')) w3) := Lib.hid ⟨A', c', rfl, own_mono hown HB2.out.size, HB2.out.trans (hb.mono HB2.out.size), h1, h2⟩
  clear hown hb h1 h2 HD HN HC z0
  go_wp2_with fail
  go_ret
  exact HF.out
set_option maxHeartbeats 1000000 in
theorem keyText_any (A : Option Addr) (n c : Nat) (l : List Lbl) (z : Int) (w : World) (h : Sees w w.heap.size 2 A n (lbls l)) (hn : n ≤ 100000) :
    Calls Try.prog 31 #[.agg #[.slice A n c, .int .i64 z]] w fun e w' => e = .returned (.string ⟨(printL (bareL l)).toArray⟩) ∧ Below w.heap.size w w' := by
  have hb1 := (Below.refl w.heap.size w).alloc (Nat.le_refl _) (.cells #[.slice A n c, .int .i64 z] 28)
  have HB1 := Lib.hid hb1
  have HBX := Lib.hid (Blk.mk (heap_alloc_new w (.cells #[.slice A n c, .int .i64 z] 28)) : Blk _ w.heap.size 28 [.slice A n c, .int .i64 z])
  have HC := Lib.hid (key_any A n c l z (w.alloc (.cells #[.slice A n c, .int .i64 z] 28)) ((h.below hb1).more hb1.size) hn)
  have hbl : (bareL l).length ≤ l.length := List.length_filter_le _ _
  have hll := h.lbl_len
  have HL := Lib.hid (show (bareL l).length ≤ 100000 by omega)
  clear h hb1 hbl hll
  go_enter Try.func31, Try.ntmps31
  go_upto_region 1 with fail
  generalize w.alloc (.cells #[.slice A n c, .int .i64 z] 28) = W1 at *
  have z0 := HBX.out.cell 0
  have z1 := HBX.out.cell 1
  simp only [List.getElem?_cons_zero, List.getElem?_cons_succ] at z0 z1
  go_wp2_with fail
  (with_reducible refine HC.out.mono ?_); rintro e w3 ⟨A', c', rfl, hown, hb, h1, h2⟩
  have HB3 := Lib.hid (HB1.out.trans (hb.mono HB1.out.size))
  have HP := Lib.hid (print_any A' (bareL l).length c' (bareL l) w3.heap.size w3 (Sees.of_own hown) (Nat.le_refl _) (by have := HL.out; omega))
  clear hown hb h1 h2 HC z0 z1
  go_wp2_with fail
  (with_reducible refine HP.out.mono ?_); rintro e w4 ⟨rfl, hb4⟩
  have HB4 := Lib.hid (HB3.out.trans (hb4.mono HB3.out.size))
  clear hb4 HP
  go_wp2_with fail
  go_ret
  exact ⟨rfl, HB4.out⟩
end Go.Proofs.Ytbndmmfpoljeaaa

namespace Go.Proofs.Ytbndmmfpoljeaaa
open Go.RowKit Go.Maps
set_option linter.unusedVariables false
set_option maxRecDepth 100000
theorem keyedSI : Keyed Try.prog 9 := string_keyed Try.underlying9
theorem zeroIS (w : World) : (zeroValue 3).run Try.prog w = .ok (.int .i64 0) w := by kernel_rfl
theorem keySI {t : ByteArray} (h : t.size ≤ maxLen) : keyOf Try.prog 9 (.string t) = some (.string t.data.toList) := Go.WideMaps.keyOf_string_mk Try.underlying9 h
theorem wf_i64' {t : Int} (h : I64 t) : (Lit.int .i64 t).wf = true := by
  simpa [Lit.wf, IntKind.min, IntKind.max, IntKind.signed, IntKind.bits, I64] using h
/-- Block b is a map that answers f, of m keys, put in at most n times. -/
def IMap (w : World) (b n : Nat) (f : List UInt8 → Option Int) (m : Nat) : Prop :=
  ∃ D : DataW Unit, w.ownsMap Try.prog 9 (plainElem Try.prog 3) b n D ∧ Tidy D ∧ (∀ t : List UInt8, D.atKey (.string t) (.lit (.int .i64 0)) = .lit (.int .i64 ((f t).getD 0))) ∧ (∀ t : List UInt8, has D (.string t) = (f t).isSome) ∧ size D = m
theorem IMap.made (w : World) : IMap (w.alloc (.map #[] 0)) w.heap.size 0 (fun _ => none) 0 :=
  ⟨.map [], World.ownsMap_made _ _ _ _, tidy_empty, fun t => rfl, fun t => rfl, rfl⟩
theorem IMap.lt {w : World} {b n m : Nat} {f : List UInt8 → Option Int} (h : IMap w b n f m) : b < w.heap.size := by obtain ⟨D, h, _⟩ := h; exact h.lt
theorem IMap.kept {w w' : World} {b n m : Nat} {f : List UInt8 → Option Int} {row : Option Nat} (h : IMap w b n f m) (hg : w.grownBy w' row) (hne : some b ≠ row) : IMap w' b n f m := by
  obtain ⟨D, h, h2⟩ := h; exact ⟨D, h.kept hg hne, h2⟩
theorem IMap.widen {w : World} {b n n' m : Nat} {f : List UInt8 → Option Int} (h : IMap w b n f m) (hn : n ≤ n') : IMap w b n' f m := by
  obtain ⟨D, ⟨es, clock, h1, F, hs, hD⟩, h2⟩ := h
  exact ⟨D, ⟨es, clock, h1, F, by omega, hD⟩, h2⟩
theorem IMap.below {w w' : World} {b n m : Nat} {f : List UInt8 → Option Int} (h : IMap w b n f m) (hb : Below w.heap.size w w') : IMap w' b n f m :=
  h.kept (row := none) ⟨hb.os, hb.tape, hb.output, hb.size, fun i hi _ => hb.block i hi⟩ (by simp)
theorem IMap.drewN {w : World} {b n m : Nat} {f : List UInt8 → Option Int} (h : IMap w b n f m) (q : Nat) : IMap (w.drewN q) b n f m := h
theorem IMap.look {w : World} {b n m : Nat} {f : List UInt8 → Option Int} (h : IMap w b n f m) {t : ByteArray} (ht : t.size ≤ maxLen) :
    (Instr.lookup 59 (.map (some b)) (.string t) true).run Try.prog w = .ok (.tuple #[.int .i64 ((f t.data.toList).getD 0), .bool (f t.data.toList).isSome]) w := by
  obtain ⟨D, h, _, hf, hh, _⟩ := h
  obtain ⟨v, ps, hrun, hv⟩ := h.look_ok keyedSI Try.underlying59 (zeroIS w) (plainElem_int Try.underlying3 (show (Lit.int .i64 0).wf = true by decide)) (keySI ht)
  rw [hf] at hv
  obtain ⟨c, rfl, hc, hwc⟩ := plainElem_int_inv Try.underlying3 hv
  simp only [Prod.mk.injEq, DataW.lit.injEq, Lit.int.injEq, true_and] at hc
  rw [hh, ← hc.1] at hrun
  exact hrun
theorem IMap.put {w : World} {b n m : Nat} {f : List UInt8 → Option Int} (h : IMap w b n f m) (hn : n < 1000000) {t : ByteArray} (ht : t.size ≤ maxLen) {v : Int} (hv : I64 v) :
    ∃ w', (Instr.mapUpdate 59 (.map (some b)) (.string t) (.int .i64 v)).run Try.prog w = .ok () w' ∧ IMap w' b (n + 1) (fun x => if x = t.data.toList then some v else f x) (if (f t.data.toList).isSome = true then m else m + 1) ∧ w.grownBy w' (some b) := by
  obtain ⟨D, h, hm, hf, hh, hsz⟩ := h
  obtain ⟨w', hrun, h2, h3⟩ := h.update keyedSI Try.underlying59 (by unfold maxLen; omega) (keySI ht) (plainElem_int Try.underlying3 (wf_i64' hv))
  refine ⟨w', hrun, ⟨_, h2, hm.put (show WideAt.IsKeyLit (.string t.data.toList) from trivial) _, fun x => ?_, fun x => ?_, ?_⟩, h3⟩
  · by_cases hx : x = t.data.toList
    · subst hx
      rw [atKey_put_same (k := .string t.data.toList) hm.isMap (show WideAt.IsKeyLit (.string t.data.toList) from trivial)]
      simp
    · rw [atKey_put_other (by intro e; injection e with e; exact hx e), hf]
      simp only [if_neg hx]
  · by_cases hx : x = t.data.toList
    · subst hx
      rw [has_put_same hm.isMap (show WideAt.IsKeyLit (.string t.data.toList) from trivial)]
      simp
    · rw [has_put_other (by intro e; injection e with e; exact hx e), hh]
      simp only [if_neg hx]
  · rw [size_put hm, hh, hsz]
theorem wpList_put_imap {P : Program} {w : World} {ops : Array Oper} {rest : List Oper} {o : Oper} {a : Act} {Q : Exit → Act → World → Prop} (hg : o.guard = none) (m x v : Operand) (t : TypeId) (hop : o.op = Op.mapUpdate t m x v)
    (vm vx vv : Value) (hm : a.eval m = vm) (hx : a.eval x = vx) (hv : a.eval v = vv) (w' : World) (hrun : (Instr.mapUpdate t vm vx vv).run P w = .ok () w') (hK : wpList P ops Q rest (a.put o.dst undef) w') : wpList P ops Q (o :: rest) a w := by
  refine wpList_plain hg fun K' hK' => ?_
  unfold Oper.wp
  simp [execOp, hop, hm, hx, hv, hrun, Result.andThen]
  exact hK' _ _ hK
theorem wpList_len_imap {w : World} {ops : Array Oper} {rest : List Oper} {o : Oper} {a : Act} {Q : Exit → Act → World → Prop} (hg : o.guard = none) (mo : Operand)
    (hop : o.op = Op.call { callee := Callee.builtin Builtin.len, args := #[mo], argTypes := #[59] }) (b n m : Nat) (f : List UInt8 → Option Int) (hm : a.eval mo = .map (some b)) (h : IMap w b n f m)
    (hK : wpList Try.prog ops Q rest (a.put o.dst (.int .i64 m)) w) : wpList Try.prog ops Q (o :: rest) a w := by
  obtain ⟨D, h1, _, _, _, hsz⟩ := h
  exact wpList_len_own w hg mo _ hop _ _ Try.underlying59 _ b n D hm h1 (by rw [hsz]; exact hK)
end Go.Proofs.Ytbndmmfpoljeaaa

namespace Go.Proofs.Ytbndmmfpoljeaaa
open Go.ChangeShapes Go.WideShapes Go.ChangeAt Go.RowKit
set_option linter.unusedVariables false
set_option linter.unusedSimpArgs false
set_option maxRecDepth 100000
/-- A point's key, as a text. -/
def keyT (l : List Lbl) : List UInt8 := printL (bareL l)
/-- Where each of the first k keys is first. -/
def placeN (ks : List (List UInt8)) : Nat → List UInt8 → Option Int
  | 0, _ => none
  | k + 1, t => if (placeN ks k (ks.getD k [])).isSome = true then placeN ks k t else if t = ks.getD k [] then some (k : Int) else placeN ks k t
/-- How many keys there are among the first k. -/
def placeC (ks : List (List UInt8)) : Nat → Nat
  | 0 => 0
  | k + 1 => if (placeN ks k (ks.getD k [])).isSome = true then placeC ks k else placeC ks k + 1
def keysOf (rows : List PtR) : List (List UInt8) := rows.map fun x => keyT x.set
theorem keysOf_get (rows : List PtR) (k : Nat) (h : k < rows.length) : (keysOf rows).getD k [] = keyT rows[k].set := by
  rw [List.getD_eq_getElem?_getD, List.getElem?_eq_getElem (by simpa [keysOf] using h)]
  simp [keysOf]
theorem printL_size (l : List Lbl) : (⟨(printL l).toArray⟩ : ByteArray).size ≤ 500 := by
  show (printL l).toArray.size ≤ 500
  rw [List.size_toArray]
  cases h : rightS l with
  | true => exact printL_length_le h
  | false => unfold printL; rw [h]; simp
theorem pt_get {base n c : Nat} {A : Option Addr} {rows : List PtR} {w : World} (h : PtsAt base (.slice A n c) rows w) {k : Nat} (hk : k < rows.length) :
    ∃ ad, A = some ad ∧ w.cell? (ad.add (k * 2)) = some rows[k].sv ∧ w.cell? ⟨(ad.add (k * 2)).block, (ad.add (k * 2)).off + 1, none⟩ = some (.int .i64 rows[k].val) ∧ HasL w rows[k].sv rows[k].set := by
  have hr := h.own
  obtain ⟨_, _, e, _⟩ := own_slice hr
  injection e with _ e _; subst e
  obtain ⟨h0, h1⟩ := pts_get rows k hk
  obtain ⟨ad, e, _, hc⟩ := (Sees.of_own hr).at_ (by omega)
  subst e
  exact ⟨ad, rfl, hc _ _ h0, by rw [add_spelt _ _ _ (by omega)]; exact hc _ _ h1, (h.each _ (List.getElem_mem _)).hasL⟩
theorem run_makeMap_hint (n : Nat) (w : World) : (Instr.makeMap 59 (some (.int .i64 n))).run Try.prog w = .ok (.map (some w.heap.size)) (w.alloc (.map #[] 0)) := by
  simp [Instr.makeMap, run_underlying Try.underlying59, asInt, asIntOf, Result.andThen]
set_option maxHeartbeats 4000000 in
theorem places_any (base : Nat) (A : Option Addr) (c : Nat) (rows : List PtR) (w : World) (h : PtsAt base (.slice A rows.length c) rows w) (hn : rows.length ≤ 1000) (hsl : ∀ x ∈ rows, x.set.length ≤ 1000) :
    Calls Try.prog 30 #[.slice A rows.length c] w fun e w' => e = .returned (.map (some w.heap.size)) ∧ IMap w' w.heap.size rows.length (placeN (keysOf rows) rows.length) (placeC (keysOf rows) rows.length) ∧ Below w.heap.size w w' := by
  have H := Lib.hid (fun (V : World) (hV : Below w.heap.size w V) => h.below hV)
  have HSL := Lib.hid hsl
  have HM0 := Lib.hid (IMap.made w)
  have HB0 := Lib.hid ((Below.refl w.heap.size w).alloc (Nat.le_refl _) (.map #[] 0))
  obtain ⟨b, hb⟩ : ∃ b, w.heap.size = b := ⟨_, rfl⟩
  have HB := Lib.hid hb
  rw [hb] at HM0
  have hmm := run_makeMap_hint rows.length w
  obtain ⟨ks, hks⟩ : ∃ k, keysOf rows = k := ⟨_, rfl⟩
  have HKS := Lib.hid (fun k (hk : k < rows.length) => hks ▸ keysOf_get rows k hk)
  rw [hks]
  clear h hsl hks
  obtain ⟨N, hN⟩ : ∃ N, rows.length = N := ⟨_, rfl⟩
  have HN := Lib.hid hN
  rw [hN] at H hn hmm ⊢
  clear hN hb
  go_enter Try.func30, Try.ntmps30
  go_upto_region 2 with fail
  rw [HB.out]
  have HBE0 := Lib.hid (show w.heap.size ≤ b by rw [HB.out]; exact Nat.le_refl _)
  generalize w.alloc (.map #[] 0) = W1 at *
  clear hmm
  go_wp2_with fail
  go_loopg [14] N (fun g x14 wr => ∃ k : Nat, k + g = N ∧ x14 = .int .i64 k ∧ IMap wr b k (placeN ks k) (placeC ks k) ∧ Below w.heap.size w wr)
  case atStart => exact ⟨0, by omega, rfl, HM0.out, HB0.out⟩
  case round =>
    obtain ⟨k, hkg, rfl, hmap, hbel⟩ := hrel
    have HM := Lib.hid hmap; have HBE := Lib.hid hbel
    clear hmap hbel HM0 HB0
    cases gk with
    | zero =>
      obtain rfl : k = N := by omega
      go_wp2_with fail
      go_ret
      exact ⟨by rw [HB.out]; rfl, by rw [HB.out]; exact HM.out, HBE.out⟩
    | succ g =>
      have hlt : k < rows.length := by have := HN.out; omega
      obtain ⟨ad, hA, e0, e1, A2, c2, hsv, hss, _, _⟩ := pt_get (H.out wr HBE.out) hlt
      have hl := HSL.out rows[k] (List.getElem_mem hlt)
      have hkk := HKS.out k hlt
      subst hA
      generalize rows[k] = q at *
      obtain ⟨sv, l, val⟩ := q
      simp only at e0 e1 hsv hss hl hkk
      subst hsv
      obtain ⟨sl, hsl⟩ : ∃ n, l.length = n := ⟨_, rfl⟩
      rw [hsl] at e0 hss hl
      have ha := (Below.refl wr.heap.size wr).alloc (Nat.le_refl _) (.cells #[.slice A2 sl c2, .int .i64 val] 28)
      have HC := Lib.hid (keyText_any A2 sl c2 l val (wr.alloc (.cells #[.slice A2 sl c2, .int .i64 val] 28)) ((hss.below ha).more ha.size) (by omega))
      have HM2 := Lib.hid (HM.out.below ha)
      have HBE2 := Lib.hid (HBE.out.trans (ha.mono HBE.out.size))
      have hts := printL_size (bareL l)
      obtain ⟨tx, htx⟩ : ∃ t, (⟨(printL (bareL l)).toArray⟩ : ByteArray) = t := ⟨_, rfl⟩
      have HTX := Lib.hid (show tx.data.toList = ks.getD k [] by rw [hkk, ← htx]; simp [keyT])
      rw [htx] at HC hts
      have htm : tx.size ≤ maxLen := by unfold maxLen; omega
      clear hss hl hsl htx ha hkk HM HBE hts
      go_wp2_with fail
      (with_reducible refine HC.out.mono ?_); rintro e w3 ⟨rfl, hb3⟩
      have HM3 := Lib.hid (HM2.out.below hb3)
      have HBE3 := Lib.hid (HBE2.out.trans (hb3.mono HBE2.out.size))
      have hlk := HM3.out.look htm
      rw [HTX.out] at hlk
      have HNF : Hid (∀ t, placeN ks (k + 1) t = if (placeN ks k (ks.getD k [])).isSome = true then placeN ks k t else if t = ks.getD k [] then some (k : Int) else placeN ks k t) := Lib.hid (fun t => rfl)
      have HNC : Hid (placeC ks (k + 1) = if (placeN ks k (ks.getD k [])).isSome = true then placeC ks k else placeC ks k + 1) := Lib.hid rfl
      obtain ⟨w8, hrun8, hm8, hg8⟩ := HM3.out.put (by omega) htm (show I64 (k : Int) by unfold I64; omega)
      rw [HTX.out] at hm8
      have HRUN8 := Lib.hid hrun8; have HM8 := Lib.hid hm8; have HG8 := Lib.hid hg8
      clear hb3 HC HM2 HBE2 hrun8 hm8 hg8
      cases hq : placeN ks k (ks.getD k []) with
      | some x =>
        rw [hq] at hlk
        have HF := Lib.hid (show placeN ks (k + 1) = placeN ks k from funext fun t => by rw [HNF.out, if_pos (by rw [hq]; rfl)])
        have HFC := Lib.hid (show placeC ks (k + 1) = placeC ks k by rw [HNC.out, if_pos (by rw [hq]; rfl)])
        clear hq HM8 HG8 HRUN8
        go_wp2_with fail
        go_roundg g
        case measure => omega
        case rel => exact ⟨k + 1, by omega, by first | rfl | go_num, by rw [HF.out, HFC.out]; exact HM3.out.widen (Nat.le_succ _), HBE3.out⟩
      | none =>
        rw [hq] at hlk
        have HF := Lib.hid (show placeN ks (k + 1) = fun t => if t = ks.getD k [] then some (k : Int) else placeN ks k t from funext fun t => by rw [HNF.out, if_neg (by rw [hq]; simp)])
        have HFC := Lib.hid (show placeC ks (k + 1) = placeC ks k + 1 by rw [HNC.out, if_neg (by rw [hq]; simp)])
        have HM9 := Lib.hid (show IMap w8 b (k + 1) (placeN ks (k + 1)) (placeC ks (k + 1)) by rw [HF.out, HFC.out]; have h := HM8.out; rw [hq, if_neg (by simp)] at h; exact h)
        have HBE9 := Lib.hid (HBE3.out.grown HG8.out HBE3.out.size (fun g e => by injection e with e; have := HBE0.out; omega))
        clear hq HM8 HG8 HF HFC
        go_wp2_with (at_mapUpdate; refine wpList_put_imap rfl (.tmp 29) (.tmp 30) (.tmp 31) 59 rfl (.map (some b)) (.string tx) (.int .i64 k) rfl rfl rfl w8 HRUN8.out ?_)
        go_roundg g
        case measure => omega
        case rel => exact ⟨k + 1, by omega, by first | rfl | go_num, HM9.out, HBE9.out⟩
end Go.Proofs.Ytbndmmfpoljeaaa

namespace Go.Proofs.Ytbndmmfpoljeaaa
open Go.ChangeShapes Go.WideShapes Go.ChangeAt Go.RowKit
set_option linter.unusedVariables false
set_option linter.unusedSimpArgs false
set_option maxRecDepth 100000
/-- A call answers a point whose set lies in new memory. -/
def PtAns (l : List Lbl) (z : Int) (w : World) (e : Ending) (w' : World) : Prop := ∃ A c, e = .returned (.agg #[.slice A l.length c, .int .i64 z]) ∧ OwnL w' (.slice A l.length c) l ∧ Below w.heap.size w w'
structure CpAt (w0 : World) (b1 b2 : Nat) (sv : Value) (z : Int) (W : World) : Prop where
  bel : Below w0.heap.size w0 W
  bx : Blk W b1 28 [sv, .int .i64 z]
  bz : Blk W b2 28 [.slice none 0 0, .int .i64 0]
  l1 : w0.heap.size ≤ b1
  l2 : w0.heap.size ≤ b2
  ne : b1 ≠ b2
theorem CpAt.below {w0 W W' : World} {b1 b2 : Nat} {sv : Value} {z : Int} (h : CpAt w0 b1 b2 sv z W) (hb : Below W.heap.size W W') : CpAt w0 b1 b2 sv z W' :=
  ⟨h.bel.trans (hb.mono h.bel.size), h.bx.below hb h.bx.lt, h.bz.below hb h.bz.lt, h.l1, h.l2, h.ne⟩
theorem CpAt.set0 {w0 W : World} {b1 b2 : Nat} {sv : Value} {z : Int} (h : CpAt w0 b1 b2 sv z W) (u : Value) : CpAt w0 b1 b2 u z (W.setCell ⟨b1, 0, none⟩ u) :=
  ⟨h.bel.setCell (p := ⟨b1, 0, none⟩) h.l1 u, h.bx.set 0 u, h.bz.far (p := ⟨b1, 0, none⟩) h.ne.symm u, h.l1, h.l2, h.ne⟩
theorem ownL_setCell {W : World} {v : Value} {l : List Lbl} {b t o : Nat} {cs : List Value} (h : OwnL W v l) (hb : Blk W b t cs) (ht : t ≠ 53) (u : Value) : OwnL (W.setCell ⟨b, o, none⟩ u) v l := by
  obtain ⟨A, c, rfl, h2⟩ := h
  refine ⟨A, c, rfl, ownsRow_setCell_other h2 (fun e => ?_) u⟩
  rcases h2.2 with ⟨e2, _⟩ | ⟨g, cap, cur, hv, _, hh, _⟩
  · rw [e2] at e; simp [Value.ownBlock] at e
  · rw [hv] at e
    simp [Value.ownBlock] at e
    subst e
    rw [hb.eq] at hh
    injection hh with hh; injection hh with _ hh _
    exact ht hh
set_option maxHeartbeats 4000000 in
theorem cpoint_any (A : Option Addr) (n c : Nat) (l : List Lbl) (z : Int) (w : World) (h : Sees w w.heap.size 2 A n (lbls l)) (hn : n ≤ 1000000) :
    Calls Try.prog 78 #[.agg #[.slice A n c, .int .i64 z]] w (PtAns l z w) := by
  have hl := h.lbl_len
  have hsz : (w.alloc (.cells #[.slice A n c, .int .i64 z] 28)).heap.size = w.heap.size + 1 := by simp
  have hb : Below w.heap.size w ((w.alloc (.cells #[.slice A n c, .int .i64 z] 28)).alloc (.cells #[.slice none 0 0, .int .i64 0] 28)) := ((Below.refl _ _).alloc (Nat.le_refl _) _).alloc (by simp) _
  have HC0 : Hid (CpAt w w.heap.size (w.heap.size + 1) (.slice A n c) z ((w.alloc (.cells #[.slice A n c, .int .i64 z] 28)).alloc (.cells #[.slice none 0 0, .int .i64 0] 28))) := Lib.hid ⟨hb, (Blk.mk (heap_alloc_new w _)).alloc _, (by have hh := (Blk.mk (heap_alloc_new (w.alloc (.cells #[.slice A n c, .int .i64 z] 28)) (.cells #[.slice none 0 0, .int .i64 0] 28)) : Blk _ (w.alloc (.cells #[.slice A n c, .int .i64 z] 28)).heap.size 28 [.slice none 0 0, .int .i64 0]); rw [hsz] at hh; exact hh), Nat.le_refl _, Nat.le_succ _, by omega⟩
  have HCL := Lib.hid (clone_lbl A n c _ l ((w.alloc (.cells #[.slice A n c, .int .i64 z] 28)).alloc (.cells #[.slice none 0 0, .int .i64 0] 28)) (h.below hb) (by simp; omega) hn)
  have HLN := Lib.hid hl
  have HG := Lib.hid (show ∃ g, w.heap.size = g from ⟨_, rfl⟩)
  have HG1 := Lib.hid (show ∃ g, w.heap.size + 1 = g from ⟨_, rfl⟩)
  have HWS : Hid (∃ W, ((w.alloc (.cells #[.slice A n c, .int .i64 z] 28)).alloc (.cells #[.slice none 0 0, .int .i64 0] 28)) = W) := Lib.hid ⟨_, rfl⟩
  clear hb h hsz hl
  go_enter Try.func78, Try.ntmps78
  go_upto_region 1 with fail
  obtain ⟨b2, hb2⟩ := HG1.out
  obtain ⟨b1, hb1⟩ := HG.out
  obtain ⟨W1, hW1⟩ := HWS.out
  have HC := HC0
  rw [hb2, hb1, hW1] at HC
  rw [hW1] at HCL
  rw [hW1, hb2, hb1]
  clear HG HG1 HWS HC0 hb1 hb2 hW1
  have x0 := HC.out.bx.cell 0
  have x1 := HC.out.bx.cell 1
  simp only [List.getElem?_cons_zero, List.getElem?_cons_succ] at x0 x1
  have f0 := HC.out.bx.frozen 0
  go_wp2_with fail
  (with_reducible refine HCL.out.mono ?_); rintro e w2 ⟨E1, e1, rfl, hown, hb, hc1, hc2⟩
  have HO : Hid (OwnL w2 (.slice E1 n e1) l) := Lib.hid ⟨E1, e1, by rw [HLN.out], by rw [HLN.out]; exact own_mono hown (Nat.zero_le _)⟩
  have HC2 := Lib.hid (HC.out.below hb)
  clear hown hb HCL x0 x1 f0 HC
  have x0 := HC2.out.bx.cell 0
  have x1 := HC2.out.bx.cell 1
  simp only [List.getElem?_cons_zero, List.getElem?_cons_succ] at x0 x1
  have f0 := HC2.out.bx.frozen 0
  have HC3 := Lib.hid (HC2.out.set0 (.slice E1 n e1))
  have HO3 := Lib.hid (ownL_setCell (o := 0) HO.out HC2.out.bx (by decide) (.slice E1 n e1))
  go_upto_region 2 with fail
  obtain ⟨W3, hW3⟩ : ∃ W, w2.setCell ⟨b1, 0, none⟩ (.slice E1 n e1) = W := ⟨_, rfl⟩
  rw [hW3] at HC3 HO3 ⊢
  clear hW3 HC2 HO x0 x1 f0
  have x0 := HC3.out.bx.cell 0
  have x1 := HC3.out.bx.cell 1
  have y0 := HC3.out.bz.cell 0
  have y1 := HC3.out.bz.cell 1
  simp only [List.getElem?_cons_zero, List.getElem?_cons_succ] at x0 x1 y0 y1
  have f0 := HC3.out.bz.frozen 0
  have f1 := HC3.out.bz.frozen 1
  have HQ := Lib.hid ((HC3.out.bz.set 0 (.slice E1 n e1)).set 1 (.int .i64 z))
  have HO4 := Lib.hid (ownL_setCell (o := 1) (ownL_setCell (o := 0) HO3.out HC3.out.bz (by decide) (.slice E1 n e1)) (HC3.out.bz.set 0 (.slice E1 n e1)) (by decide) (.int .i64 z))
  have HB4 := Lib.hid ((HC3.out.bel.setCell (p := ⟨b2, 0, none⟩) HC3.out.l2 (.slice E1 n e1)).setCell (p := ⟨b2, 1, none⟩) HC3.out.l2 (.int .i64 z))
  go_wp2_with fail
  have q0 := HQ.out.cell 0
  have q1 := HQ.out.cell 1
  simp only [List.set_cons_zero, List.set_cons_succ, List.getElem?_cons_zero, List.getElem?_cons_succ] at q0 q1
  refine bodyPost_ret (v := .agg #[.slice E1 n e1, .int .i64 z]) (by simp [results, Try.results78, go_sem, q0, q1]) rfl ?_
  exact ⟨E1, e1, by rw [HLN.out], by rw [HLN.out]; exact HO4.out, HB4.out⟩
set_option maxHeartbeats 4000000 in
theorem ceach_any (b1 : Nat) (A : Option Addr) (c : Nat) (ra : List PtR) (w : World) (h : PtsAt b1 (.slice A ra.length c) ra w) (hn : ra.length ≤ 1000) (hsl : ∀ x ∈ ra, x.set.length ≤ 1000) :
    Calls Try.prog 77 #[.slice A ra.length c, .func (.func 78) #[] #[]] w (PtsAns (ptsOf ra) w) := by
  obtain ⟨i0, hi, hz0, hz1, hz2⟩ := info_parts Try.infoPt
  have HI := Lib.hid hi; have HZ0 := Lib.hid hz0; have HZ1 := Lib.hid hz1; have HZ2 := Lib.hid hz2
  have H := Lib.hid (fun (V : World) (hV : Below w.heap.size w V) => h.below hV)
  have HSL := Lib.hid hsl
  have HTK := Lib.hid (fun k (hk : k < ra.length) => show ptsOf (ra.take (k + 1)) = ptsOf (ra.take k) ++ [(ra[k].set, ra[k].val)] by rw [List.take_succ_eq_append_getElem hk]; unfold ptsOf; rw [List.map_append]; rfl)
  have HR := Lib.hid (Below.refl w.heap.size w)
  clear h hsl
  obtain ⟨N, hN⟩ : ∃ N, ra.length = N := ⟨_, rfl⟩
  have HN := Lib.hid hN
  rw [hN] at H hn ⊢
  clear hN
  go_enter Try.func77, Try.ntmps77
  go_wp2_with (at_make; refine wpList_make_own _ rfl _ _ 22 rfl w.heap.size 28 i0 (.agg #[.slice none 0 0, .int .i64 0]) 2 Try.underlying22 hi hz0 hz1 _ _ _ N rfl rfl rfl (by rw [hz2]; omega) (by unfold maxLen; omega) (Nat.le_refl _) ?_)
  intro w1 hown hg
  have HB := Lib.hid (HR.out.grown hg (Nat.le_refl _) (fun k h => by cases h))
  have HW : Hid (PtsAt w.heap.size _ [] w1) := Lib.hid ⟨hown, fun x hx => absurd hx List.not_mem_nil⟩
  clear hown hg hi hz0 hz1 hz2
  go_wp2_with fail
  go_loopg [5, 7, 13] N (fun g x5 x7 x13 wr => ∃ (k : Nat) (X : Option Addr) (cx : Nat) (rows : List PtR), k + g = N ∧ x13 = .int .i64 k ∧ x5 = .slice X k cx ∧ rows.length = k ∧ ptsOf rows = ptsOf (ra.take k) ∧ PtsAt w.heap.size (.slice X k cx) rows wr ∧ Below w.heap.size w wr)
  case atStart => exact ⟨0, _, _, [], by omega, rfl, rfl, rfl, rfl, HW.out, HB.out⟩
  case round =>
    obtain ⟨k, X, cx, rows, hkg, rfl, rfl, hrl, hpt, hps, hbel⟩ := hrel
    have HPT := Lib.hid hpt; have HPS := Lib.hid hps; have HBE := Lib.hid hbel; have HRL := Lib.hid hrl
    clear hpt hps hbel HW HB hrl
    cases gk with
    | zero =>
      obtain rfl : k = N := by omega
      have hcx : k ≤ cx ∧ cx ≤ 9223372036854775807 := by
        have ho := HPS.out.own
        rw [HRL.out] at ho
        obtain ⟨A', c', e, h1, h2⟩ := own_slice ho
        injection e with _ _ e; subst e
        exact ⟨h1, h2⟩
      have HF : Hid (PtsAns (ptsOf ra) w (.returned (.slice X k cx)) wr) := Lib.hid ⟨X, cx, rows, by rw [HPT.out, List.take_of_length_le (by rw [HN.out]; exact Nat.le_refl _)], by rw [HRL.out], by rw [HRL.out]; exact HPS.out, HBE.out, by rw [HRL.out]; exact hcx.1, hcx.2⟩
      go_wp2_with fail
      go_ret
      exact HF.out
    | succ gg =>
      have hlt : k < ra.length := by have := HN.out; omega
      have HR2 := H.out wr HBE.out
      rw [← HN.out] at HR2
      obtain ⟨ad, hA, e0, e1, _⟩ := pt_get HR2 hlt
      have hol := HR2.each ra[k] (List.getElem_mem hlt)
      have hl := HSL.out ra[k] (List.getElem_mem hlt)
      have HNX := Lib.hid (HTK.out k hlt)
      subst hA
      generalize ra[k] = q at *
      obtain ⟨sv, l, val⟩ := q
      simp only at e0 e1 hol hl
      obtain ⟨A2, c2, hsv, hss, _, _⟩ := hol.hasL
      subst hsv
      obtain ⟨sl, hsl⟩ : ∃ n, l.length = n := ⟨_, rfl⟩
      rw [hsl] at e0 hss hl hol
      have ha := (Below.refl wr.heap.size wr).alloc (Nat.le_refl _) (.cells #[.slice A2 sl c2, .int .i64 val] 28)
      have HC := Lib.hid (cpoint_any A2 sl c2 l val (wr.alloc (.cells #[.slice A2 sl c2, .int .i64 val] 28)) ((hss.below ha).more ha.size) (by omega))
      have HPS2 := Lib.hid (HPS.out.below ha)
      have HBE2 := Lib.hid (HBE.out.trans (ha.mono HBE.out.size))
      have HSL2 := Lib.hid hsl
      clear hss hl hol ha HPS HBE HR2 hsl
      go_wp2_with fail
      (with_reducible refine HC.out.mono ?_); rintro e w3 ⟨C2, d2, rfl, hol3, hb3⟩
      rw [HSL2.out] at hol3 ⊢
      have hb4 := (Below.refl w3.heap.size w3).alloc (Nat.le_refl _) (.cells #[.slice C2 sl d2, .int .i64 val] 28)
      have HPS4 := Lib.hid ((HPS2.out.below hb3).below hb4)
      have HOL4 := Lib.hid (hol3.below hb4)
      have HBE4 := Lib.hid ((HBE2.out.trans (hb3.mono HBE2.out.size)).trans (hb4.mono (Nat.le_trans HBE2.out.size hb3.size)))
      have HX4 := Lib.hid ((Blk.mk (heap_alloc_new w3 (.cells #[.slice C2 sl d2, .int .i64 val] 28)) : Blk _ w3.heap.size 28 [.slice C2 sl d2, .int .i64 val]).sees (size := 2) (n := 1) rfl (List.prefix_refl _))
      have HNF := Lib.hid (show ptsOf (rows ++ [⟨.slice C2 sl d2, l, val⟩]) = ptsOf (ra.take (k + 1)) by rw [HNX.out, ptsOf_push, HPT.out])
      have HPO : Hid ((w3.alloc (.cells #[.slice C2 sl d2, .int .i64 val] 28)).ownsRow w.heap.size 28 2 (.slice X k cx) k (pts rows)) := Lib.hid (by have := HPS4.out.own; rwa [HRL.out] at this)
      clear hol3 hb3 hb4 HC HPS2 HBE2 HNX
      go_wp2_with (at_builtin; refine wpList_append_at rfl (.tmp 17) (.tmp 21) 22 rfl w.heap.size 28 i0 (.agg #[.slice none 0 0, .int .i64 0]) 2 32 Try.underlying22 HI.out HZ0.out HZ1.out HZ2.out rfl (by decide) (.slice X k cx) k (pts rows) rfl HPO.out _ (some ⟨w3.heap.size, 0, none⟩) 1 _ [.slice C2 sl d2, .int .i64 val] rfl HX4.out (by intro u hu; simp at hu; rcases hu with rfl | rfl <;> rfl) (by unfold maxLen; omega) (by omega) HBE4.out.size ?_)
      intro v' w5 hown hgr hwh
      have HPS5 := Lib.hid (HPS4.out.push (l := l) (z := val) HOL4.out (by rw [HRL.out]; exact hown) hgr)
      have HBE5 := Lib.hid (HBE4.out.grown hgr HBE4.out.size (fun g e => (HPO.out.lt g e).1))
      obtain ⟨A5, c5, rfl, _, _⟩ := own_slice hown
      have HL5 := Lib.hid (show (rows ++ [(⟨.slice C2 sl d2, l, val⟩ : PtR)]).length = k + 1 by simp [HRL.out])
      clear hown hgr hwh HPS4 HOL4 HBE4 HX4 HPO
      go_wp2_with fail
      go_roundg gg
      case measure => omega
      case rel => exact ⟨k + 1, A5, c5, _, by omega, by first | rfl | go_num, rfl, HL5.out, HNF.out, HPS5.out, HBE5.out⟩
theorem cpoints_any (b1 : Nat) (A : Option Addr) (c : Nat) (ra : List PtR) (w : World) (h : PtsAt b1 (.slice A ra.length c) ra w) (hn : ra.length ≤ 1000) (hsl : ∀ x ∈ ra, x.set.length ≤ 1000) :
    Calls Try.prog 54 #[.slice A ra.length c] w (PtsAns (ptsOf ra) w) := by
  have HC := Lib.hid (ceach_any b1 A c ra w h hn hsl)
  clear h hn hsl
  generalize ra.length = n at *
  go_enter Try.func54, Try.ntmps54
  go_wp2_with fail
  (with_reducible refine HC.out.mono ?_); rintro e w2 hans
  obtain ⟨X, cx, rows, h1, rfl, h3, h4, h5, h6⟩ := hans
  have HF : Hid (PtsAns (ptsOf ra) w (.returned (.slice X rows.length cx)) w2) := Lib.hid ⟨X, cx, rows, h1, rfl, h3, h4, h5, h6⟩
  clear h1 h3 h4 h5 h6 HC
  go_wp2_with fail
  go_ret
  exact HF.out
end Go.Proofs.Ytbndmmfpoljeaaa

namespace Go.Proofs.Ytbndmmfpoljeaaa
open Go Go.RowKit
set_option linter.unusedVariables false
section
variable {P : Program} {ops : Array Oper} {Q : Exit → Act → World → Prop} {R : World → World → Prop} {G : World → Prop} {V : Nat → Value → World → Prop} {a0 : Act}
theorem wpAny_more {md : Region.Mode} : ∀ (fuel : Nat) (listed : Array Bool) (a : Act) (w : World), wpAny P md ops Q fuel listed a w → wpAny P md ops Q (fuel + 1) listed a w
  | 0, listed, a, w, h => ⟨fun _ => h.2, fun i hi => by rw [h.1] at hi; cases hi⟩
  | fuel + 1, listed, a, w, h => ⟨h.1, fun i hi => wpOp_mono (fun a' w' h' => wpAny_more fuel _ a' w' h') (h.2 i hi)⟩
theorem wpAny_le {md : Region.Mode} {m n : Nat} {listed : Array Bool} {a : Act} {w : World} (h : wpAny P md ops Q m listed a w) (hmn : m ≤ n) : wpAny P md ops Q n listed a w := by
  obtain ⟨k, rfl⟩ : ∃ k, n = m + k := ⟨n - m, by omega⟩
  clear hmn
  induction k with
  | zero => exact h
  | succ k ih => exact wpAny_more _ _ _ _ ih
/-- The first n of m are done. -/
def headN (n m : Nat) : Array Bool := (List.replicate n true ++ List.replicate (m - n) false).toArray
theorem headN_eq {n m : Nat} {listed : Array Bool} (hn : n ≤ m) (hs : listed.size = m) (h1 : ∀ i, i < n → listed.getD i true = true) (h2 : ∀ i, n ≤ i → i < m → listed.getD i true = false) : listed = headN n m := by
  refine Array.ext (by rw [hs]; simp [headN]; omega) fun i hi hi2 => ?_
  by_cases h : i < n
  · have := h1 i h
    simp [hi] at this
    rw [this]
    simp [headN, h]
  · have := h2 i (by omega) (by omega)
    simp [hi] at this
    rw [this]
    simp [headN, List.getElem_append, h]
def leftH (n : Nat) (listed : Array Bool) : Nat := ((List.range n).filter fun i => !listed.getD i true).length
theorem leftH_set {n : Nat} {listed : Array Bool} {i : Nat} (hin : i < n) (hi : listed.getD i true = false) : leftH n (listed.setIfInBounds i true) < leftH n listed := by
  have hlt : i < listed.size := by
    rcases Nat.lt_or_ge i listed.size with h | h
    · exact h
    · simp [Array.getElem?_eq_none h] at hi
  refine filter_less (fun x hx hq => ?_) (List.mem_range.2 hin) (by simp [hi]) (by simp [hlt])
  by_cases h : i = x
  · subst h; simp [hlt] at hq
  · rw [getD_set_ne true h] at hq; exact hq
theorem wpAny_facts_tail (n : Nat) (hback : backB 0 ops.toList = true) (hr0 : ∀ w, R w w) (ht : ∀ a b c, R a b → R b c → R a c) (hb : apartB a0.tmps.size ops.toList = true) (hs : Region.sinkB .any ops n = true) (hc : Region.chainB .any ops n = true) (hn : n < ops.size)
    (hseq : Region.seqB .any ops (ops.size - n) n (headN n ops.size) = true) (hall : AllOps P ops Q R G V a0 0 (ops.toList.take n))
    (hend : ∀ a w, FrameOk ops a0 a → (∀ k, (∀ j, j < n → slotOf ops j ≠ some k) → a.tmps.getD k undef = a0.tmps.getD k undef) → Hold R G w → (∀ i, i < n → Hold R (V i (slotV ops a i)) w) → wpList P ops Q (ops.toList.drop n) a w) :
    ∀ (fuel : Nat) (listed : Array Bool) (a : Act) (w : World), HeadInv .any ops n listed → leftH n listed + (ops.size - n) ≤ fuel → RInv P ops R G V a0 listed a w → wpAny P .any ops Q fuel listed a w := by
  intro fuel
  induction fuel with
  | zero => intro listed a w inv hl hI; omega
  | succ fuel ih =>
    intro listed a w inv hl hI
    by_cases h0 : ∃ i, i < n ∧ listed.getD i true = false
    · obtain ⟨i0, hi0, hu0⟩ := h0
      have hready : ∀ i ∈ Region.ready .any ops listed, i < n := fun i hi => by
        rcases Nat.lt_or_ge i n with h | h
        · exact h
        · exact absurd hi (tail_waits hs hc hn inv (n - i0) i0 rfl hi0 hu0 i h)
      have hne : Region.ready .any ops listed ≠ [] := fun hr => by
        have key : ∀ m, m ≤ n → ∀ i, i < m → listed.getD i true = true := by
          intro m
          induction m with
          | zero => intro _ i hi; omega
          | succ m ihm =>
            intro hm i hi
            by_cases him : i < m
            · exact ihm (by omega) i him
            · have hie : i = m := by omega
              subst hie
              cases hli : listed.getD i true with
              | true => rfl
              | false =>
                exfalso
                have hio : i < ops.size := by omega
                have : i ∈ Region.ready .any ops listed := mem_ready.2 ⟨hli, ops[i], Array.getElem?_eq_getElem hio, fun e he hbb => by
                  have hb3 := backB_at hback i ops[i] (by simp [hio]) e (by simpa using he)
                  have h3 := ihm (by omega) e.on (by omega)
                  have hlt : e.on < listed.size := by rw [inv.size]; omega
                  simp [hlt] at h3 ⊢
                  exact h3⟩
                rw [hr] at this; cases this
        rw [key n (Nat.le_refl _) i0 hi0] at hu0
        cases hu0
      refine ⟨fun h => absurd h hne, fun i hi => ?_⟩
      have hin := hready i hi
      obtain ⟨h1, o, ho, hdone⟩ := mem_ready.1 hi
      have hlt : i < ops.size := (Array.getElem?_eq_some_iff.1 ho).1
      have hok : OpOk P ops Q R G V a0 i o := by
        have := allOps_at hall i o (by rw [List.getElem?_take, if_pos hin]; simpa using ho)
        rwa [Nat.zero_add] at this
      have hdst : o.dst = slotOf ops i := by unfold slotOf; rw [ho]; rfl
      have hlt2 : i < listed.size := by rw [inv.size]; exact hlt
      have hfa : FrameAt ops a0 a i := ⟨hI.fr, fun k hk => hI.early k fun j hj => by
        have hj2 := hj
        unfold slotOf at hj2
        cases hoj : ops[j]? with
        | none => rw [hoj] at hj2; cases hj2
        | some oj =>
          rw [hoj] at hj2
          obtain ⟨e, he, heq, hbb⟩ := hk j oj hoj hj2
          cases hlj : listed.getD j false with
          | false => rfl
          | true =>
            have h5 := hI.closed j oj hoj hlj e he hbb
            rw [heq] at h5
            simp [hlt2] at h1 h5
            rw [h5] at h1; cases h1⟩
      obtain ⟨hw, hno⟩ := hok a w hfa hI.g (deps_of hI.facts _ fun e he hbb => hdone e (by simpa using he) hbb)
      have go : ∀ v w', R w w' → Hold R (V i (match slotOf ops i with | some _ => v | none => undef)) w' → wpAny P .any ops Q fuel (listed.setIfInBounds i true) (a.put (slotOf ops i) v) w' := fun v w' hrw hv => by
        refine ih _ _ _ (inv.set hi hin) (by have := leftH_set hin h1; omega) ⟨hI.fr.put hb i v, fun k hk => ?_, fun j oj hoj hlj e he hbb => ?_, hI.g.trans ht hrw, fun j hj => ?_⟩
        · have hne : slotOf ops i ≠ some k := fun h => by have := hk i h; simp [hlt2] at this
          have h6 := hI.early k fun j hj => by
            have h7 := hk j hj
            by_cases hij : i = j
            · subst hij; simp [hlt2] at h7
            · rwa [getD_set_ne false hij] at h7
          rw [← h6]
          cases hsl : slotOf ops i with
          | none => rfl
          | some d =>
            have hdk : d ≠ k := fun h => hne (by rw [hsl, h])
            simp [Act.put, Array.getElem?_setIfInBounds_ne hdk]
        · by_cases hij : i = j
          · subst hij
            rw [ho] at hoj; injection hoj with hoj; subst hoj
            have h8 := hdone e (by simpa using he) hbb
            by_cases hie : i = e.on
            · rw [← hie]; simp [hlt2]
            · rw [getD_set_ne false hie]; exact h8
          · rw [getD_set_ne false hij] at hlj
            have h8 := hI.closed j oj hoj hlj e he hbb
            by_cases hie : i = e.on
            · rw [← hie]; simp [hlt2]
            · rw [getD_set_ne false hie]; exact h8
        · by_cases hij : i = j
          · subst hij
            have e : slotV ops (a.put (slotOf ops i) v) i = match slotOf ops i with | some _ => v | none => undef := by
              unfold slotV
              cases hsl : slotOf ops i with
              | none => rfl
              | some d =>
                have hd := slotOf_lt hb hsl
                rw [← hI.fr.size] at hd
                simp [Act.put, hd]
            rw [e]
            exact hv
          · rw [slotV_put_other hb hij]
            refine (hI.facts j ?_).trans ht hrw
            rw [getD_set_ne false hij] at hj
            exact hj
      unfold wpOp
      rw [ho]
      simp only
      split
      · rename_i hwant
        refine .inl (Oper.wp_mono (fun a' w' h => ?_) (hw hwant))
        obtain ⟨hrw, v, rfl, hv⟩ := h
        rw [hdst] at hv ⊢
        exact go v w' hrw hv
      · rename_i hwant
        rw [hdst]
        exact go undef w (hr0 w) (by have := hno (by simpa using hwant); cases slotOf ops i <;> exact this)
    · have hall1 : ∀ i, i < n → listed.getD i true = true := fun i hi => by
        cases h : listed.getD i true with
        | true => rfl
        | false => exact absurd ⟨i, hi, h⟩ h0
      have hcan := headN_eq (Nat.le_of_lt hn) inv.size hall1 (fun i h1 h2 => inv.tail i h1 h2)
      have hfalse : ∀ i, i < n → listed.getD i false = true := fun i hi => by
        have h := hall1 i hi
        have hlt : i < listed.size := by rw [inv.size]; omega
        simp [hlt] at h ⊢
        exact h
      have hL := hend a w hI.fr (fun k hk => hI.early k fun j hj => by
        rcases Nat.lt_or_ge j n with h | h
        · exact absurd hj (hk j h)
        · rcases Nat.lt_or_ge j ops.size with h2 | h2
          · exact getD_both (inv.tail j h h2)
          · simp [show listed.size ≤ j by rw [inv.size]; exact h2]) hI.g (fun i hi => hI.facts i (hfalse i hi))
      have hdl : (ops.toList.drop n).length = ops.size - n := by simp
      have := wpAny_of_seq (md := .any) (Q' := Q) (ops.toList.drop n) n listed a w (fun j => by simp [List.getElem?_drop]) (by rw [hdl, hcan]; exact hseq) hL
      rw [hdl] at this
      exact wpAny_le this (by omega)
theorem wp_region_facts_tail {id : Nat} {w : World} (n : Nat) (hm : P.follows .mixedOrders = true) (hr0 : ∀ w, R w w) (ht : ∀ a b c, R a b → R b c → R a c) (hb : apartB a0.tmps.size ops.toList = true) (hback : backB 0 ops.toList = true)
    (hs : Region.sinkB .any ops n = true) (hc : Region.chainB .any ops n = true) (hn : n < ops.size) (hseq : Region.seqB .any ops (ops.size - n) n (headN n ops.size) = true)
    (hG : Hold R G { w with drawn := w.drawn + 1 }) (hall : AllOps P ops Q R G V a0 0 (ops.toList.take n))
    (hend : ∀ vs w', Hold R G w' → AllV R V vs w' 0 (ops.toList.take n) → wpList P ops Q (ops.toList.drop n) (putAll vs 0 (ops.toList.take n) a0) w') : (Code.region id ops true).wp P Q a0 w := by
  have hrep : ∀ j, (Array.replicate ops.size false).getD j false = false := fun j => by by_cases h : j < ops.size <;> simp [h]
  refine wp_region_any hm (wpAny_facts_tail n hback hr0 ht hb hs hc hn hseq hall (fun a w' hfr hea hg hf => ?_) ops.size _ a0 _ ⟨by simp, fun j oj _ hj => ?_, fun t _ h2 => getD_in (by simpa using h2) (hrep t)⟩ (by
    have h1 : leftH n (Array.replicate ops.size false) ≤ n := by unfold leftH; exact Nat.le_trans (List.length_filter_le _ _) (by simp)
    omega) ⟨⟨rfl, rfl, fun _ _ => rfl⟩, fun _ _ => rfl, fun j o _ hj => ?_, hG, fun i hi => ?_⟩)
  · have htl : (ops.toList.take n).length = n := by simp; omega
    have hget : ∀ i o, (ops.toList.take n)[i]? = some o → ops[i]? = some o ∧ i < n := fun i o h => by
      rw [List.getElem?_take] at h
      split at h
      · rename_i h2; exact ⟨by simpa using h, h2⟩
      · cases h
    have h1 := hend (slotV ops a) w' hg (allV_of _ 0 fun i hi => by rw [Nat.zero_add]; exact hf i (by rw [htl] at hi; exact hi))
    have h2 : putAll (slotV ops a) 0 (ops.toList.take n) a0 = a := by
      rw [putAll_congr (ops.toList.take n) 0 a0 a hfr.defers.symm hfr.size.symm fun t hno => (hea t fun j hj hsl => ?_).symm]
      · refine putAll_same _ 0 fun i o ho => ?_
        obtain ⟨ho2, hin⟩ := hget i o ho
        rw [Nat.zero_add]
        have hdst : o.dst = slotOf ops i := by unfold slotOf; rw [ho2]; rfl
        rw [hdst]
        unfold slotV
        cases hsl : slotOf ops i with
        | none => rfl
        | some d =>
          refine act_ext rfl (by simp [Act.put]) fun k => ?_
          by_cases he : d = k
          · subst he
            have hd := slotOf_lt hb hsl
            rw [← hfr.size] at hd
            simp [Act.put, hd]
          · simp [Act.put, Array.getElem?_setIfInBounds_ne he]
      · unfold slotOf at hsl
        cases ho : ops[j]? with
        | none => rw [ho] at hsl; cases hsl
        | some o =>
          rw [ho] at hsl
          have hmem : o ∈ ops.toList.take n := List.mem_of_getElem? (i := j) (by rw [List.getElem?_take, if_pos hj]; simpa using ho)
          exact hno o hmem hsl
    rwa [h2] at h1
  · rw [hrep] at hj; cases hj
  · rw [hrep] at hj; cases hj
  · rw [hrep] at hi; cases hi
end
end Go.Proofs.Ytbndmmfpoljeaaa

namespace Go.Proofs.Ytbndmmfpoljeaaa
open Go.ChangeShapes Go.WideShapes Go.ChangeAt Go.RowKit
set_option linter.unusedVariables false
set_option linter.unusedSimpArgs false
set_option maxRecDepth 100000
def svA : Value → Option Addr | .slice a _ _ => a | _ => none
def svL : Value → Nat | .slice _ n _ => n | _ => 0
def svC : Value → Nat | .slice _ _ c => c | _ => 0
def mkRow (p : PtR) : RowT := ⟨⟨(printL p.set).toArray⟩, svA p.sv, svL p.sv, svC p.sv, p.set, p.val⟩
theorem mkRow_key : (fun a => RowT.key (mkRow a)) = fun a : PtR => printL a.set := by
  funext a; simp [RowT.key, mkRow]
/-- The points in the order of their sets' texts. -/
def sortP (ps : List (List Lbl × Int)) : List (List Lbl × Int) := sortK (fun q => printL q.1) ps
def sortR (l : List PtR) : List PtR := sortK (fun q => printL q.set) l
theorem ptsOf_sortR (l : List PtR) : ptsOf (sortR l) = sortP (ptsOf l) := by
  unfold ptsOf sortR sortP
  rw [sortK_map]
theorem rts_sort (l : List PtR) : sortK RowT.key (l.map mkRow) = (sortR l).map mkRow := by
  rw [sortK_map, mkRow_key]; rfl
@[go_sem] theorem infoRowT_ : (Try.prog.info? 85).map (fun i => (i.zero, i.size, i.bytes)) = some (some (.agg #[.string ⟨#[]⟩, .slice none 0 0, .int .i64 0]), 3, 48) := by kernel_rfl
/-- Rows of texts and points, each set in a block of labels. -/
structure RtsAt (base : Nat) (v : Value) (l : List PtR) (W : World) : Prop where
  own : W.ownsRow base 85 3 v l.length (rts (l.map mkRow))
  each : ∀ x ∈ l, OwnL W x.sv x.set
theorem RtsAt.below {base : Nat} {v : Value} {l : List PtR} {w w' : World} (h : RtsAt base v l w) (hb : Below w.heap.size w w') : RtsAt base v l w' := ⟨own_below h.own hb (Nat.le_refl _), fun x hx => (h.each x hx).below hb⟩
theorem ownL_grown {base : Nat} {e : TypeId} {s n : Nat} {v : Value} {xs : List Value} {w w' : World} (h : w.ownsRow base e s v n xs) (he : 53 ≠ e) (hg : w.grownBy w' v.ownBlock) : ∀ y m, OwnL w y m → OwnL w' y m := by
  rintro y m ⟨A, c, rfl, h2⟩
  exact ⟨A, c, rfl, own_grown h2 hg (own_ne h2 h he)⟩
theorem mkRow_cells {w : World} {x : PtR} (h : OwnL w x.sv x.set) : (mkRow x).cells = [.string ⟨(printL x.set).toArray⟩, x.sv, .int .i64 x.val] := by
  obtain ⟨A, c, e, _⟩ := h
  unfold mkRow RowT.cells; rw [e]; rfl
theorem RtsAt.push {base : Nat} {v v' : Value} {x : PtR} {l : List PtR} {w w' : World} (h : RtsAt base v l w) (hx : OwnL w x.sv x.set) (hown : w'.ownsRow base 85 3 v' (l.length + 1) (rts (l.map mkRow) ++ [.string ⟨(printL x.set).toArray⟩, x.sv, .int .i64 x.val])) (hg : w.grownBy w' v.ownBlock) : RtsAt base v' (l ++ [x]) w' := by
  have key := ownL_grown h.own (by decide) hg
  refine ⟨?_, fun y hy => ?_⟩
  · rw [List.map_append, List.map_singleton, rts_append, show rts [mkRow x] = [.string ⟨(printL x.set).toArray⟩, x.sv, .int .i64 x.val] by rw [← mkRow_cells hx]; simp [rts]]
    simpa using hown
  · rcases List.mem_append.1 hy with hy | hy
    · exact key _ _ (h.each y hy)
    · rw [List.mem_singleton] at hy; subst hy; exact key _ _ hx
theorem RtsAt.sorted {base : Nat} {v : Value} {l : List PtR} {w w' : World} (h : RtsAt base v l w) (hown : w'.ownsRow base 85 3 v l.length (rts (sortK RowT.key (l.map mkRow)))) (hg : w.grownBy w' v.ownBlock) : RtsAt base v (sortR l) w' := by
  have hl : (sortR l).length = l.length := sortK_length _ _
  exact ⟨by rw [hl, ← rts_sort]; exact hown, fun x hx => ownL_grown h.own (by decide) hg _ _ (h.each x ((sortK_mem _ _ _).1 hx))⟩
theorem PtsAt.grownBy {base b : Nat} {e : TypeId} {sz n : Nat} {v u : Value} {xs : List Value} {rows : List PtR} {w w' : World} (h : PtsAt base v rows w) (hx : w.ownsRow b e sz u n xs) (h1 : 28 ≠ e) (h2 : 53 ≠ e) (hg : w.grownBy w' u.ownBlock) : PtsAt base v rows w' :=
  ⟨own_grown h.own hg (own_ne h.own hx h1), fun x hx2 => ownL_grown hx h2 hg _ _ (h.each x hx2)⟩
theorem rt_get {base n c : Nat} {A : Option Addr} {l : List PtR} {w : World} (h : RtsAt base (.slice A n c) l w) {k : Nat} (hk : k < l.length) :
    ∃ ad, A = some ad ∧ w.cell? (ad.add (k * 3)) = some (.string ⟨(printL l[k].set).toArray⟩) ∧ w.cell? ⟨(ad.add (k * 3)).block, (ad.add (k * 3)).off + 1, none⟩ = some l[k].sv ∧ w.cell? ⟨(ad.add (k * 3)).block, (ad.add (k * 3)).off + 2, none⟩ = some (.int .i64 l[k].val) ∧ OwnL w l[k].sv l[k].set := by
  have hr := h.own
  obtain ⟨_, _, e, _⟩ := own_slice hr
  injection e with _ e _; subst e
  have hm : k < (l.map mkRow).length := by rw [List.length_map]; exact hk
  obtain ⟨h0, h1, h2⟩ := rts_get (l.map mkRow) hm
  rw [List.getElem_map] at h0 h1 h2
  have hol := h.each _ (List.getElem_mem hk)
  have hc := mkRow_cells hol
  unfold RowT.cells at hc
  injection hc with c0 hc; injection hc with c1 hc; injection hc with c2 hc
  rw [c0] at h0; rw [c1] at h1; rw [c2] at h2
  obtain ⟨ad, e, _, hcl⟩ := (Sees.of_own hr).at_ (by omega)
  subst e
  exact ⟨ad, rfl, hcl _ _ h0, by rw [add_spelt _ _ _ (by omega)]; exact hcl _ _ h1, by rw [add_spelt _ _ _ (by omega)]; exact hcl _ _ h2, hol⟩
theorem RtsAt.grownBy {base b : Nat} {e : TypeId} {sz n : Nat} {v u : Value} {xs : List Value} {l : List PtR} {w w' : World} (h : RtsAt base v l w) (hx : w.ownsRow b e sz u n xs) (h1 : 85 ≠ e) (h2 : 53 ≠ e) (hg : w.grownBy w' u.ownBlock) : RtsAt base v l w' :=
  ⟨own_grown h.own hg (own_ne h.own hx h1), fun x hx2 => ownL_grown hx h2 hg _ _ (h.each x hx2)⟩
/-- Within vec.Sort: the rows so far; the clone. -/
structure SvAt (w0 : World) (b3 : Nat) (X : Option Addr) (k cx : Nat) (l : List PtR) (C : Option Addr) (N cc : Nat) (cl : List PtR) (W : World) : Prop where
  rows : RtsAt b3 (.slice X k cx) l W
  src : PtsAt b3 (.slice C N cc) cl W
  bel : Below w0.heap.size w0 W
theorem SvAt.below {w0 W W' : World} {b3 k cx N cc : Nat} {X C : Option Addr} {l cl : List PtR} (h : SvAt w0 b3 X k cx l C N cc cl W) (hb : Below W.heap.size W W') : SvAt w0 b3 X k cx l C N cc cl W' :=
  ⟨h.rows.below hb, h.src.below hb, h.bel.trans (hb.mono h.bel.size)⟩
set_option maxHeartbeats 8000000 in
theorem sort_any (b1 : Nat) (A : Option Addr) (c : Nat) (ra : List PtR) (w : World) (h : PtsAt b1 (.slice A ra.length c) ra w) (hn : ra.length ≤ 19) (hsl : ∀ x ∈ ra, x.set.length ≤ 1000) :
    Calls Try.prog 23 #[.slice A ra.length c] w (PtsAns (sortP (ptsOf ra)) w) := by
  obtain ⟨i0, hi, hz0, hz1, hz2⟩ := info_parts Try.infoPt
  obtain ⟨j0, hj, hy0, hy1, hy2⟩ := info_parts infoRowT_
  have HI := Lib.hid hi; have HZ0 := Lib.hid hz0; have HZ1 := Lib.hid hz1; have HZ2 := Lib.hid hz2
  have HJ := Lib.hid hj; have HY0 := Lib.hid hy0; have HY1 := Lib.hid hy1; have HY2 := Lib.hid hy2
  have HCP := Lib.hid (fun (V : World) (hV : Below w.heap.size w V) => cpoints_any b1 A c ra V (h.below hV) (by omega) hsl)
  have HSL : Hid (∀ p ∈ ptsOf ra, p.1.length ≤ 1000) := Lib.hid (fun p hp => by
    unfold ptsOf at hp; rw [List.mem_map] at hp; obtain ⟨x, hx, rfl⟩ := hp; exact hsl x hx)
  have HR := Lib.hid (Below.refl w.heap.size w)
  have HRL : Hid (∀ cl : List PtR, ptsOf cl = ptsOf ra → cl.length = ra.length) := Lib.hid (fun cl hcl => by have := congrArg List.length hcl; simpa [ptsOf] using this)
  clear h hsl
  obtain ⟨N, hN⟩ : ∃ N, ra.length = N := ⟨_, rfl⟩
  obtain ⟨ps, hps⟩ : ∃ p, ptsOf ra = p := ⟨_, rfl⟩
  rw [hN] at HCP hn HRL ⊢
  rw [hps] at HCP HSL HRL ⊢
  clear hN hps
  go_enter Try.func23, Try.ntmps23
  go_wp2_with (at_make; refine wpList_make_own _ rfl _ _ 83 rfl w.heap.size 85 j0 (.agg #[.string ⟨#[]⟩, .slice none 0 0, .int .i64 0]) 3 Try.underlying83 hj hy0 hy1 _ _ _ N rfl rfl rfl (by rw [hy2]; omega) (by unfold maxLen; omega) (Nat.le_refl _) ?_)
  intro w1 hown hg
  have HB := Lib.hid (HR.out.grown hg (Nat.le_refl _) (fun k h => by cases h))
  have HW : Hid (RtsAt w.heap.size _ [] w1) := Lib.hid ⟨hown, fun x hx => absurd hx List.not_mem_nil⟩
  clear hown hg hj hy0 hy1 hy2 hi hz0 hz1 hz2
  go_wp2_with fail
  (with_reducible refine (HCP.out w1 HB.out).mono ?_); rintro e w2 ⟨C, cc, cl, hcl, rfl, hcs, hb2, hcc1, hcc2⟩
  have HCL := Lib.hid hcl
  have hln := HRL.out cl hcl
  have HB2 := Lib.hid (HB.out.trans (hb2.mono HB.out.size))
  have HW2 := Lib.hid (HW.out.below hb2)
  have HCS := Lib.hid (hcs.mono HB.out.size)
  have HTK := Lib.hid (fun k (hk : k < cl.length) => List.take_succ_eq_append_getElem hk)
  rw [hln] at HCS ⊢
  have HLN := Lib.hid hln
  have HTO : Hid (cl.take N = cl) := Lib.hid (List.take_of_length_le (by omega))
  have HSE := Lib.hid (show ∀ x ∈ cl, x.set.length ≤ 1000 from fun x hx => HSL.out (x.set, x.val) (by rw [← hcl]; unfold ptsOf; exact List.mem_map.2 ⟨x, hx, rfl⟩))
  clear hcl hcs hb2 HCP HRL HB HW HSL hln
  have HS0 : Hid (SvAt w w.heap.size (some ⟨w.heap.size, 0, none⟩) 0 N (cl.take 0) C N cc cl w2) := Lib.hid ⟨HW2.out, HCS.out, HB2.out⟩
  obtain ⟨b3, hb3⟩ : ∃ b, w.heap.size = b := ⟨_, rfl⟩
  have HB3 := Lib.hid hb3
  rw [hb3] at HS0 ⊢
  clear HW2 HCS HB2 hb3
  go_wp2_with fail
  go_loopg [3, 5, 15] N (fun g x3 x5 x15 wr => ∃ (k : Nat) (X : Option Addr) (cx : Nat), k + g = N ∧ x15 = .int .i64 k ∧ x3 = .slice X k cx ∧ SvAt w b3 X k cx (cl.take k) C N cc cl wr)
  case atStart => exact ⟨0, _, _, by omega, rfl, rfl, HS0.out⟩
  case round =>
    obtain ⟨k, X, cx, hkg, rfl, rfl, hsv⟩ := hrel
    have HS := Lib.hid hsv
    clear hsv HS0
    cases gk with
    | succ gq =>
      have hlt : k < cl.length := by have := HLN.out; omega
      have HR2 := HS.out.src
      rw [← HLN.out] at HR2
      obtain ⟨ad, hA, e0, e1, _⟩ := pt_get HR2 hlt
      have hol := HR2.each cl[k] (List.getElem_mem hlt)
      have hl := HSE.out cl[k] (List.getElem_mem hlt)
      have HNX := Lib.hid (HTK.out k hlt)
      subst hA
      generalize cl[k] = q at *
      obtain ⟨sv, l, val⟩ := q
      simp only at e0 e1 hol hl
      obtain ⟨A2, c2, hsv, hss, _, _⟩ := hol.hasL
      subst hsv
      obtain ⟨sl, hsl⟩ : ∃ n, l.length = n := ⟨_, rfl⟩
      rw [hsl] at e0 hss hl hol HNX
      have ha := (Below.refl wr.heap.size wr).alloc (Nat.le_refl _) (.cells #[.slice A2 sl c2, .int .i64 val] 28)
      obtain ⟨tx, htx⟩ : ∃ t, (⟨(printL l).toArray⟩ : ByteArray) = t := ⟨_, rfl⟩
      have HPR := Lib.hid (fun (V : World) (hV : Below wr.heap.size wr V) => htx ▸ print_any A2 sl c2 l V.heap.size V ((hss.below hV).more hV.size) (Nat.le_refl _) (by omega))
      have HTX := Lib.hid htx
      have HOL := Lib.hid (fun (V : World) (hV : Below wr.heap.size wr V) => hol.below hV)
      have HBR := Lib.hid (Below.refl wr.heap.size wr)
      have HX0 := Lib.hid (Blk.mk (heap_alloc_new wr (.cells #[.slice A2 sl c2, .int .i64 val] 28)) : Blk _ wr.heap.size 28 [.slice A2 sl c2, .int .i64 val])
      have HS1 := Lib.hid (HS.out.below ha)
      have HWA := Lib.hid ha
      have HBX := Lib.hid (show ∃ b, wr.heap.size = b from ⟨_, rfl⟩)
      clear hss hl hol ha HR2 hsl htx HS
      go_upto_region 5 with fail
      obtain ⟨bx, hbx⟩ := HBX.out
      have HBW := Lib.hid hbx
      rw [hbx] at HX0 HWA HPR HOL
      rw [hbx]
      clear hbx HBX e0 e1
      obtain ⟨W1, hW1⟩ : ∃ W, wr.alloc (.cells #[.slice A2 sl c2, .int .i64 val] 28) = W := ⟨_, rfl⟩
      rw [hW1] at HX0 HS1 HWA ⊢
      clear hW1
      refine wp_region_facts_tail 7 (R := fun a b => Below a.heap.size a b) (G := (fun W => SvAt w b3 X k cx (cl.take k) (some ad) N cc cl W ∧ Blk W bx 28 [.slice A2 sl c2, .int .i64 val] ∧ Below bx wr W)) (V := fun i' u' W => match i' with | 0 => u' = .slice X k cx | 1 => u' = .pointer (some ⟨bx, 0, none⟩) | 2 => u' = .slice A2 sl c2 | 3 => u' = .string tx | 4 => u' = .agg #[.slice A2 sl c2, .int .i64 val] | 5 => u' = .agg #[.string tx, .slice A2 sl c2, .int .i64 val] | 6 => ∃ b, u' = .slice (some ⟨b, 0, none⟩) 1 1 ∧ Blk W b 85 [.string tx, .slice A2 sl c2, .int .i64 val] | _ => True) (by kernel_rfl) (fun w => Below.refl _ _) (fun a b c h1 h2 => h1.trans (h2.mono h1.size)) (by kernel_rfl) (by kernel_rfl) (by kernel_rfl) (by kernel_rfl) (by decide) (by kernel_rfl) ?hG ⟨?o0, ?o1, ?o2, ?o3, ?o4, ?o5, ?o6, trivial⟩ ?hend
      case o0 =>
        intro a w hfr hG hd
        refine ⟨fun hw => ?_, fun hw => absurd hw (by simp [Region.wanted])⟩
        have s3 : a.tmps.getD 3 undef = .slice X k cx := hfr.at 3 (by kernel_rfl)
        refine op_yields (.slice X k cx) ?_ ?_ ?_
        · simp only [execOp, resolve, List.map_toArray, List.map_cons, List.map_nil, Act.eval, s3]; simp [go_sem, -Array.getD_eq_getD_getElem?, s3]
        · exact Below.refl _ _
        · exact (fun _ _ => rfl)
      case o1 =>
        intro a w hfr hG hd
        refine ⟨fun hw => ?_, fun hw => absurd hw (by simp [Region.wanted])⟩
        have s5 : a.tmps.getD 5 undef = .pointer (some ⟨bx, 0, none⟩) := hfr.at 5 (by kernel_rfl)
        refine op_yields (.pointer (some ⟨bx, 0, none⟩)) ?_ ?_ ?_
        · simp only [execOp, resolve, List.map_toArray, List.map_cons, List.map_nil, Act.eval, s5]; simp [go_sem, -Array.getD_eq_getD_getElem?, s5]
        · exact Below.refl _ _
        · exact (fun _ _ => rfl)
      case o2 =>
        intro a w hfr hG hd
        obtain ⟨d0, _⟩ := hd
        refine ⟨fun hw => ?_, fun hw => absurd hw (by simp [Region.wanted])⟩
        have s20 : a.tmps.getD 20 undef = .pointer (some ⟨bx, 0, none⟩) := (d0 rfl).now
        have z0 := hG.now.2.1.cell 0; simp only [List.getElem?_cons_zero] at z0
        refine op_yields (.slice A2 sl c2) ?_ ?_ ?_
        · simp only [execOp, resolve, List.map_toArray, List.map_cons, List.map_nil, Act.eval, s20]; simp [go_sem, -Array.getD_eq_getD_getElem?, s20, z0]
        · exact Below.refl _ _
        · exact (fun _ _ => rfl)
      case o3 =>
        intro a w hfr hG hd
        obtain ⟨d0, _⟩ := hd
        refine ⟨fun hw => ?_, fun hw => absurd hw (by simp [Region.wanted])⟩
        have s21 : a.tmps.getD 21 undef = .slice A2 sl c2 := (d0 rfl).now
        refine op_calls2 ((HPR.out w hG.now.2.2).mono fun e' w' hh => ⟨_, hh.1, hh.2, (fun _ _ => rfl)⟩) ?_
        simp only [execOp, resolve, List.map_toArray, List.map_cons, List.map_nil, Act.eval, s21]; simp [go_sem, -Array.getD_eq_getD_getElem?, s21]
      case o4 =>
        intro a w hfr hG hd
        refine ⟨fun hw => ?_, fun hw => absurd hw (by simp [Region.wanted])⟩
        have s5 : a.tmps.getD 5 undef = .pointer (some ⟨bx, 0, none⟩) := hfr.at 5 (by kernel_rfl)
        have z0 := hG.now.2.1.cell 0; have z1 := hG.now.2.1.cell 1; simp only [List.getElem?_cons_zero, List.getElem?_cons_succ] at z0 z1
        refine op_yields (.agg #[.slice A2 sl c2, .int .i64 val]) ?_ ?_ ?_
        · simp only [execOp, resolve, List.map_toArray, List.map_cons, List.map_nil, Act.eval, s5]; simp [go_sem, -Array.getD_eq_getD_getElem?, s5, z0, z1]
        · exact Below.refl _ _
        · exact (fun _ _ => rfl)
      case o5 =>
        intro a w hfr hG hd
        obtain ⟨d0, d1, _⟩ := hd
        refine ⟨fun hw => ?_, fun hw => absurd hw (by simp [Region.wanted])⟩
        have s22 : a.tmps.getD 22 undef = .string tx := (d0 rfl).now
        have s23 : a.tmps.getD 23 undef = .agg #[.slice A2 sl c2, .int .i64 val] := (d1 rfl).now
        refine op_yields (.agg #[.string tx, .slice A2 sl c2, .int .i64 val]) ?_ ?_ ?_
        · simp only [execOp, resolve, List.map_toArray, List.map_cons, List.map_nil, Act.eval, s22, s23]; simp [go_sem, -Array.getD_eq_getD_getElem?, s22, s23]
        · exact Below.refl _ _
        · exact (fun _ _ => rfl)
      case o6 =>
        intro a w hfr hG hd
        obtain ⟨d0, _⟩ := hd
        refine ⟨fun hw => ?_, fun hw => absurd hw (by simp [Region.wanted])⟩
        have s24 : a.tmps.getD 24 undef = .agg #[.string tx, .slice A2 sl c2, .int .i64 val] := (d0 rfl).now
        exact op_makes (.slice (some ⟨w.heap.size, 0, none⟩) 1 1) (w' := w.alloc (.cells #[.string tx, .slice A2 sl c2, .int .i64 val] 85)) (by simp only [execOp, resolve, List.map_toArray, List.map_cons, List.map_nil, Act.eval, s24]; simp [go_sem]) ((Below.refl _ _).alloc (Nat.le_refl _) _) (fun W' hW' => ⟨_, rfl, (Blk.mk (heap_alloc_new _ _) : Blk _ _ _ _).below hW' (by simp)⟩)
      case hG => exact fun w' hb => ⟨HS1.out.below ((Below.refl _ _).drew.trans (hb.mono (by simp))), HX0.out.below ((Below.refl _ _).drew.trans (hb.mono (by simp))) HX0.out.lt, HWA.out.drew.trans (hb.mono (by have h1 := HWA.out.size; have h2 := HBW.out; simp; omega))⟩
      case hend =>
        intro vs w' hG hv
        have key : vs 0 = .slice X k cx ∧ ∃ b, vs 6 = .slice (some ⟨b, 0, none⟩) 1 1 ∧ Blk w' b 85 [.string tx, .slice A2 sl c2, .int .i64 val] := by
          obtain ⟨h0, _, _, _, _, _, h6, _⟩ := hv
          exact ⟨h0.now, h6.now⟩
        obtain ⟨k0, b, k6, hbk⟩ := key
        have HS2 := Lib.hid hG.now.1
        have HOL2 := Lib.hid (HOL.out w' hG.now.2.2)
        have HXR := Lib.hid (hbk.sees (size := 3) (n := 1) rfl (List.prefix_refl _))
        clear hv hG hbk HS1 HX0 HWA HPR HOL
        have HPO : Hid (w'.ownsRow b3 85 3 (.slice X k cx) k (rts ((cl.take k).map mkRow))) := Lib.hid (by
          have h := HS2.out.rows.own
          rwa [show (cl.take k).length = k by rw [List.length_take, HLN.out]; omega] at h)
        obtain ⟨rs, hrs⟩ : ∃ r, rts ((cl.take k).map mkRow) = r := ⟨_, rfl⟩
        have HRS := Lib.hid hrs
        rw [hrs] at HPO
        clear hrs
        change wpList _ _ _ [_, _] (putAll vs 0 [_, _, _, _, _, _, _] _) _
        simp only [putAll, Act.put, k0, k6]
        clear k0 k6
        refine wpList_append_at (P := Try.prog) (hgd := rfl) (s := .tmp 19) (x := .tmp 25) (t := 83) (ho := rfl) (base := b3) (e := 85) (i := j0) (z := .agg #[.string ⟨#[]⟩, .slice none 0 0, .int .i64 0]) (size := 3) (bytes := 48) (ht := Try.underlying83) (hi := HJ.out) (hz := HY0.out) (hsize := HY1.out) (hby := HY2.out) (hzs := rfl) (hsz := by decide) (v := .slice X k cx) (n := k) (xs := rs) (hv := by simp [Act.eval]) (hown := HPO.out) (B := _) (A := some ⟨b, 0, none⟩) (m := 1) (c := 1) (news := [.string tx, .slice A2 sl c2, .int .i64 val]) (hx := by simp [Act.eval]) (hs := HXR.out) (h1 := by intro u hu; simp only [List.mem_cons, List.not_mem_nil, or_false] at hu; rcases hu with rfl | rfl | rfl <;> rfl) (h63 := by unfold maxLen; omega) (hbytes := by omega) (hbase := by have := HS2.out.bel.size; have := HB3.out; omega) (h := ?_)
        intro v' w5 hown hgr hwh
        have HS3 := Lib.hid (show SvAt w b3 (svA v') (k + 1) (svC v') (cl.take (k + 1)) (some ad) N cc cl w5 ∧ v' = .slice (svA v') (k + 1) (svC v') from by
          obtain ⟨A5, c5, rfl, _, _⟩ := own_slice hown
          have hk : (cl.take k).length = k := by rw [List.length_take, HLN.out]; omega
          refine ⟨⟨?_, HS2.out.src.grownBy HPO.out (by decide) (by decide) hgr, HS2.out.bel.grown hgr HS2.out.bel.size (fun g e => by have h1 := (HPO.out.lt g e).1; have := HB3.out; omega)⟩, rfl⟩
          rw [HNX.out]
          exact HS2.out.rows.push (x := ⟨.slice A2 sl c2, l, val⟩) HOL2.out (by rw [hk, HRS.out]; have h := hown; rw [← HTX.out] at h; exact h) hgr)
        have hv5 := HS3.out.2
        rw [hv5]
        generalize svA v' = A5 at *
        generalize svC v' = c5 at *
        clear hown hgr hwh hv5 HS2 HOL2 HXR HPO HRS HTX HNX
        go_wp2_with fail
        go_roundg gq
        case measure => omega
        case rel => exact ⟨k + 1, A5, c5, by omega, by first | rfl | go_num, rfl, HS3.out.1⟩
    | zero =>
      obtain rfl : k = N := by omega
      have HRT := Lib.hid (show RtsAt b3 (.slice X k cx) cl wr by have h := HS.out.rows; rwa [HTO.out] at h)
      have HBE := Lib.hid HS.out.bel
      have HLK := Lib.hid (show k ≤ 19 ∧ cl.length = k from ⟨hn, HLN.out⟩)
      have HC := Lib.hid (sortStable_any b3 X k cx (cl.map mkRow) wr (by have h := HRT.out.own; rwa [HLN.out] at h) hn)
      have HFIN : Hid (ptsOf (sortR cl) = sortP ps) := Lib.hid (by rw [ptsOf_sortR, HCL.out])
      clear HS
      go_wp2_with fail
      (with_reducible refine HC.out.mono ?_); rintro e w5 ⟨rfl, ho, hg⟩
      have HR5 := Lib.hid (show RtsAt b3 (.slice X k cx) (sortR cl) w5 from HRT.out.sorted (by rw [HLK.out.2]; exact ho) hg)
      have HB5 := Lib.hid (show Below w.heap.size w w5 from HBE.out.grown hg HBE.out.size (fun g e => by have h1 := (HRT.out.own.lt g e).1; have := HB3.out; omega))
      have HSL5 := Lib.hid (show (sortR cl).length = k from (sortK_length _ _).trans HLK.out.2)
      have hi := HI.out; have hz0 := HZ0.out; have hz1 := HZ1.out; have hz2 := HZ2.out
      clear ho hg HC HRT HBE HCL
      generalize sortR cl = sr at *
      go_wp2_with (at_make; refine wpList_make_own _ rfl _ _ 22 rfl b3 28 i0 (.agg #[.slice none 0 0, .int .i64 0]) 2 Try.underlying22 hi hz0 hz1 _ _ _ k rfl rfl rfl (by rw [hz2]; omega) (by unfold maxLen; omega) (by have h1 := HB5.out.size; have := HB3.out; omega) ?_)
      intro w6 hown hg
      have HR6 := Lib.hid (HR5.out.grownBy (World.ownsRow_nil w5 0 0 1) (by decide) (by decide) hg)
      have HB6 := Lib.hid (HB5.out.grown hg HB5.out.size (fun k h => by cases h))
      have HP6 : Hid (PtsAt b3 _ [] w6) := Lib.hid ⟨hown, fun x hx => absurd hx List.not_mem_nil⟩
      clear hown hg hi hz0 hz1 hz2 HR5 HB5
      have HTK2 := Lib.hid (fun q (hq : q < sr.length) => List.take_succ_eq_append_getElem hq)
      have HTO2 := Lib.hid (show sr.take k = sr from List.take_of_length_le (by rw [HSL5.out]; exact Nat.le_refl _))
      go_wp2_with fail
      go_loopg [6, 8, 35] k (fun g x6 x8 x35 wr => ∃ (q : Nat) (Y : Option Addr) (cy : Nat), q + g = k ∧ x35 = .int .i64 q ∧ x6 = .slice Y q cy ∧ PtsAt b3 (.slice Y q cy) (sr.take q) wr ∧ RtsAt b3 (.slice X k cx) sr wr ∧ Below w.heap.size w wr)
      case atStart => exact ⟨0, _, _, by omega, rfl, rfl, HP6.out, HR6.out, HB6.out⟩
      case round =>
        obtain ⟨q, Y, cy, hqg, rfl, rfl, hpt, hrt, hbel⟩ := hrel
        have HP := Lib.hid hpt; have HR := Lib.hid hrt; have HB := Lib.hid hbel
        clear hpt hrt hbel HP6 HR6 HB6
        cases gk with
        | zero =>
          obtain rfl : q = k := by omega
          have HF : Hid (PtsAns (sortP ps) w (.returned (.slice Y q cy)) wr) := Lib.hid (by
            have h := HP.out
            rw [HTO2.out] at h
            have ho := h.own
            rw [HSL5.out] at ho
            obtain ⟨A', c', e, h1, h2⟩ := own_slice ho
            injection e with _ _ e; subst e
            exact ⟨Y, cy, sr, HFIN.out, by rw [HSL5.out], by rw [HSL5.out, HB3.out]; exact h, HB.out, by rw [HSL5.out]; exact h1, h2⟩)
          go_wp2_with fail
          go_ret
          exact HF.out
        | succ gq =>
          have hlt : q < sr.length := by have := HSL5.out; omega
          obtain ⟨ad, hA, e0, e1, e2, hol⟩ := rt_get HR.out hlt
          have HNX := Lib.hid (HTK2.out q hlt)
          subst hA
          generalize sr[q] = y at *
          obtain ⟨sv, l, val⟩ := y
          simp only at e0 e1 e2 hol
          obtain ⟨A2, c2, hsv, hss⟩ := hol
          subst hsv
          obtain ⟨sl, hsl⟩ : ∃ n, l.length = n := ⟨_, rfl⟩
          rw [hsl] at e1 HNX
          obtain ⟨tx, htx⟩ : ∃ t, (⟨(printL l).toArray⟩ : ByteArray) = t := ⟨_, rfl⟩
          rw [htx] at e0
          have ha := (Below.refl wr.heap.size wr).alloc (Nat.le_refl _) (.cells #[.string tx, .slice A2 sl c2, .int .i64 val] 85)
          have HP1 := Lib.hid (HP.out.below ha)
          have HR1 := Lib.hid (HR.out.below ha)
          have HB1 := Lib.hid (HB.out.trans (ha.mono HB.out.size))
          have HOL1 := Lib.hid (show OwnL (wr.alloc (.cells #[.string tx, .slice A2 sl c2, .int .i64 val] 85)) (.slice A2 sl c2) l from OwnL.below ⟨A2, c2, by rw [hsl], hss⟩ ha)
          have HX0 := Lib.hid (Blk.mk (heap_alloc_new wr (.cells #[.string tx, .slice A2 sl c2, .int .i64 val] 85)) : Blk _ wr.heap.size 85 [.string tx, .slice A2 sl c2, .int .i64 val])
          have hql : (sr.take q).length = q := by rw [List.length_take]; omega
          have HQL := Lib.hid hql
          clear hss ha HP HR HB hsl htx hql
          go_upto_region 12 with fail
          have HBX := Lib.hid (show ∃ b, wr.heap.size = b from ⟨_, rfl⟩)
          obtain ⟨bx, hbx⟩ := HBX.out
          rw [hbx] at HX0
          rw [hbx]
          clear hbx HBX e0 e1 e2
          obtain ⟨W1, hW1⟩ : ∃ W, wr.alloc (.cells #[.string tx, .slice A2 sl c2, .int .i64 val] 85) = W := ⟨_, rfl⟩
          rw [hW1] at HX0 HP1 HR1 HB1 HOL1 ⊢
          clear hW1
          have z1 := HX0.out.cell 1
          have z2 := HX0.out.cell 2
          simp only [List.getElem?_cons_zero, List.getElem?_cons_succ] at z1 z2
          have hb4 := (Below.refl W1.heap.size W1).alloc (Nat.le_refl _) (.cells #[.slice A2 sl c2, .int .i64 val] 28)
          have HP4 := Lib.hid (HP1.out.below hb4)
          have HR4 := Lib.hid (HR1.out.below hb4)
          have HB4 := Lib.hid (HB1.out.trans (hb4.mono HB1.out.size))
          have HOL4 := Lib.hid (HOL1.out.below hb4)
          have HX4 := Lib.hid ((Blk.mk (heap_alloc_new W1 (.cells #[.slice A2 sl c2, .int .i64 val] 28)) : Blk _ W1.heap.size 28 [.slice A2 sl c2, .int .i64 val]).sees (size := 2) (n := 1) rfl (List.prefix_refl _))
          have HPO : Hid ((W1.alloc (.cells #[.slice A2 sl c2, .int .i64 val] 28)).ownsRow b3 28 2 (.slice Y q cy) q (pts (sr.take q))) := Lib.hid (by have h := HP4.out.own; rwa [HQL.out] at h)
          clear hb4 HP1 HR1 HB1 HOL1
          go_wp2_with (at_builtin; refine wpList_append_at rfl (.tmp 39) (.tmp 42) 22 rfl b3 28 i0 (.agg #[.slice none 0 0, .int .i64 0]) 2 32 Try.underlying22 HI.out HZ0.out HZ1.out HZ2.out rfl (by decide) (.slice Y q cy) q (pts (sr.take q)) rfl HPO.out _ (some ⟨W1.heap.size, 0, none⟩) 1 _ [.slice A2 sl c2, .int .i64 val] rfl HX4.out (by intro u hu; simp at hu; rcases hu with rfl | rfl <;> rfl) (by unfold maxLen; omega) (by omega) (by have h1 := HB4.out.size; have := HB3.out; omega) ?_)
          intro v' w5 hown hgr hwh
          have HP5 := Lib.hid (HP4.out.push (l := l) (z := val) HOL4.out (by rw [HQL.out]; exact hown) hgr)
          have HR5 := Lib.hid (HR4.out.grownBy HPO.out (by decide) (by decide) hgr)
          have HB5 := Lib.hid (HB4.out.grown hgr HB4.out.size (fun g e => by have h1 := (HPO.out.lt g e).1; have := HB3.out; omega))
          obtain ⟨A5, c5, rfl, _, _⟩ := own_slice hown
          clear hown hgr hwh HP4 HR4 HB4 HOL4 HX4 HPO HX0 z1 z2
          go_wp2_with fail
          go_roundg gq
          case measure => omega
          case rel => exact ⟨q + 1, A5, c5, by omega, by first | rfl | go_num, rfl, by rw [HNX.out]; exact HP5.out, HR5.out, HB5.out⟩
end Go.Proofs.Ytbndmmfpoljeaaa

namespace Go.Proofs.Ytbndmmfpoljeaaa
open Go.ChangeShapes Go.WideShapes Go.ChangeAt Go.RowKit
set_option linter.unusedVariables false
set_option linter.unusedSimpArgs false
set_option maxRecDepth 100000
def twiceF (ks : List (List UInt8)) : Bool := decide (placeC ks ks.length < ks.length)
set_option maxHeartbeats 1000000 in
theorem twice_any (base : Nat) (A : Option Addr) (c : Nat) (rows : List PtR) (w : World) (h : PtsAt base (.slice A rows.length c) rows w) (hn : rows.length ≤ 1000) (hsl : ∀ x ∈ rows, x.set.length ≤ 1000) :
    Calls Try.prog 25 #[.slice A rows.length c] w fun e w' => e = .returned (.bool (twiceF (keysOf rows))) ∧ Below w.heap.size w w' := by
  have HC := Lib.hid (places_any base A c rows w h hn hsl)
  have HT : Hid (twiceF (keysOf rows) = decide (placeC (keysOf rows) rows.length < rows.length)) := Lib.hid (by
    unfold twiceF
    rw [show (keysOf rows).length = rows.length by simp [keysOf]])
  clear h hsl
  go_enter Try.func25, Try.ntmps25
  go_wp2_with fail
  (with_reducible refine HC.out.mono ?_); rintro e w2 ⟨rfl, hm, hb⟩
  have HM := Lib.hid hm; have HB := Lib.hid hb
  clear hm hb HC
  go_wp2_with (at_len; refine wpList_len_imap rfl (.tmp 4) rfl w.heap.size _ _ _ rfl HM.out ?_)
  go_ret
  exact ⟨by rw [HT.out]; rfl, HB.out⟩
end Go.Proofs.Ytbndmmfpoljeaaa

namespace Go.Proofs.Ytbndmmfpoljeaaa
open Go.ChangeShapes Go.WideShapes Go.ChangeAt Go.RowKit
set_option linter.unusedVariables false
set_option linter.unusedSimpArgs false
set_option maxRecDepth 100000
/-- Those of a whose key is among these, or is not. -/
def amongF (ks : List (List UInt8)) (there : Bool) (ps : List (List Lbl × Int)) : List (List Lbl × Int) := ps.filter fun x => (placeN ks ks.length (keyT x.1)).isSome == there
theorem amongF_next (ks : List (List UInt8)) (b : Bool) (rows : List PtR) (k : Nat) (h : k < rows.length) : amongF ks b (ptsOf (rows.take (k + 1))) = amongF ks b (ptsOf (rows.take k)) ++ (if ((placeN ks ks.length (keyT rows[k].set)).isSome == b) = true then [(rows[k].set, rows[k].val)] else []) := by
  unfold amongF ptsOf
  rw [List.take_succ_eq_append_getElem h, List.map_append, List.filter_append]
  congr 1
  by_cases hq : ((placeN ks ks.length (keyT rows[k].set)).isSome == b) = true
  · rw [if_pos hq]; simp [hq]
  · rw [if_neg hq]; simp [hq]
set_option maxHeartbeats 4000000 in
theorem among_any (b1 b2 : Nat) (A B : Option Addr) (c cB : Nat) (ra rb : List PtR) (there : Bool) (w : World) (h : PtsAt b1 (.slice A ra.length c) ra w) (hB : PtsAt b2 (.slice B rb.length cB) rb w) (hn : ra.length ≤ 1000) (hnB : rb.length ≤ 1000) (hsl : ∀ x ∈ ra, x.set.length ≤ 1000) (hslB : ∀ x ∈ rb, x.set.length ≤ 1000) :
    Calls Try.prog 50 #[.slice A ra.length c, .slice B rb.length cB, .bool there] w (PtsAns (amongF (keysOf rb) there (ptsOf ra)) w) := by
  obtain ⟨i0, hi, hz0, hz1, hz2⟩ := info_parts Try.infoPt
  have HI := Lib.hid hi; have HZ0 := Lib.hid hz0; have HZ1 := Lib.hid hz1; have HZ2 := Lib.hid hz2
  have HC := Lib.hid (places_any b2 B cB rb w hB hnB hslB)
  have H := Lib.hid (fun (V : World) (hV : Below w.heap.size w V) => h.below hV)
  have HSL := Lib.hid hsl
  obtain ⟨ks, hks⟩ : ∃ k, keysOf rb = k := ⟨_, rfl⟩
  have hkl : rb.length = ks.length := by rw [← hks]; simp [keysOf]
  rw [hks, hkl] at HC
  rw [hks]
  have HAN := Lib.hid (amongF_next ks there ra)
  clear h hB hsl hslB hi hz0 hz1 hz2 hks
  obtain ⟨N, hN⟩ : ∃ N, ra.length = N := ⟨_, rfl⟩
  have HN := Lib.hid hN
  rw [hN] at H hn ⊢
  clear hN
  go_enter Try.func50, Try.ntmps50
  go_wp2_with fail
  (with_reducible refine HC.out.mono ?_); rintro e w2 ⟨rfl, hm, hb⟩
  have HM := Lib.hid hm; have HB := Lib.hid hb
  obtain ⟨bm, hbm⟩ : ∃ b, w.heap.size = b := ⟨_, rfl⟩
  have HBM := Lib.hid (show bm < w2.heap.size ∧ w.heap.size ≤ w2.heap.size by rw [← hbm]; exact ⟨hm.lt, hb.size⟩)
  rw [hbm] at HM ⊢
  clear hm hb HC hbm
  go_wp2_with fail
  go_loopg [8, 17] N (fun g x8 x17 wr => ∃ (k : Nat) (X : Option Addr) (cx : Nat) (rows : List PtR), k + g = N ∧ x17 = .int .i64 k ∧ x8 = .slice X rows.length cx ∧ rows.length ≤ k ∧ ptsOf rows = amongF ks there (ptsOf (ra.take k)) ∧ PtsAt w2.heap.size (.slice X rows.length cx) rows wr ∧ IMap wr bm ks.length (placeN ks ks.length) (placeC ks ks.length) ∧ Below w2.heap.size w2 wr)
  case atStart => exact ⟨0, none, 0, [], by omega, rfl, rfl, Nat.zero_le _, rfl, PtsAt.nil _ _, HM.out, Below.refl _ _⟩
  case round =>
    obtain ⟨k, X, cx, rows, hkg, rfl, rfl, hrl, hpt, hps, hmap, hbel⟩ := hrel
    have HPT := Lib.hid hpt; have HPS := Lib.hid hps; have HMP := Lib.hid hmap; have HBE := Lib.hid hbel
    clear hpt hps hmap hbel HM
    cases gk with
    | zero =>
      obtain rfl : k = N := by omega
      have hcx : rows.length ≤ cx ∧ cx ≤ 9223372036854775807 := by
        obtain ⟨A', c', e, h1, h2⟩ := own_slice HPS.out.own
        injection e with _ _ e; subst e
        exact ⟨h1, h2⟩
      have HF : Hid (PtsAns (amongF ks there (ptsOf ra)) w (.returned (.slice X rows.length cx)) wr) := Lib.hid ⟨X, cx, rows, by rw [HPT.out, List.take_of_length_le (by rw [HN.out]; exact Nat.le_refl _)], rfl, HPS.out.mono HBM.out.2, HB.out.trans (HBE.out.mono HBM.out.2), by omega⟩
      go_wp2_with fail
      go_ret
      exact HF.out
    | succ g =>
      have hlt : k < ra.length := by have := HN.out; omega
      have HR := H.out wr (HB.out.trans (HBE.out.mono HBM.out.2))
      obtain ⟨ad, hA, e0, e1, _⟩ := pt_get HR hlt
      have hol := HR.each ra[k] (List.getElem_mem hlt)
      have hl := HSL.out ra[k] (List.getElem_mem hlt)
      have HNX := Lib.hid (HAN.out k hlt)
      subst hA
      generalize ra[k] = q at *
      obtain ⟨sv, l, val⟩ := q
      simp only at e0 e1 hol hl
      obtain ⟨A2, c2, hsv, hss, _, _⟩ := hol.hasL
      subst hsv
      obtain ⟨sl, hsl⟩ : ∃ n, l.length = n := ⟨_, rfl⟩
      rw [hsl] at e0 hss hl hol
      have ha := (Below.refl wr.heap.size wr).alloc (Nat.le_refl _) (.cells #[.slice A2 sl c2, .int .i64 val] 28)
      have HC := Lib.hid (keyText_any A2 sl c2 l val (wr.alloc (.cells #[.slice A2 sl c2, .int .i64 val] 28)) ((hss.below ha).more ha.size) (by omega))
      have HMP2 := Lib.hid (HMP.out.below ha)
      have HPS2 := Lib.hid (HPS.out.below ha)
      have HOL2 := Lib.hid (hol.below ha)
      have HBE2 := Lib.hid (HBE.out.trans (ha.mono HBE.out.size))
      have HX2 := Lib.hid (Blk.mk (heap_alloc_new wr (.cells #[.slice A2 sl c2, .int .i64 val] 28)) : Blk _ wr.heap.size 28 [.slice A2 sl c2, .int .i64 val])
      have hts := printL_size (bareL l)
      obtain ⟨tx, htx⟩ : ∃ t, (⟨(printL (bareL l)).toArray⟩ : ByteArray) = t := ⟨_, rfl⟩
      have HTX := Lib.hid (show tx.data.toList = keyT l by rw [← htx]; simp [keyT])
      rw [htx] at HC hts
      have htm : tx.size ≤ maxLen := by unfold maxLen; omega
      clear hss hl hol htx ha HMP HPS HBE hts HR
      go_wp2_with fail
      (with_reducible refine HC.out.mono ?_); rintro e w3 ⟨rfl, hb3⟩
      have HMP3 := Lib.hid (HMP2.out.below hb3)
      have HPS3 := Lib.hid (HPS2.out.below hb3)
      have HOL3 := Lib.hid (HOL2.out.below hb3)
      have HX3 := Lib.hid (HX2.out.below hb3 HX2.out.lt)
      have HBE3 := Lib.hid (HBE2.out.trans (hb3.mono HBE2.out.size))
      have hlk := HMP3.out.look htm
      rw [HTX.out] at hlk
      obtain ⟨o, ho⟩ : ∃ o, placeN ks ks.length (keyT l) = o := ⟨_, rfl⟩
      rw [ho] at hlk HNX
      obtain ⟨x0, x1⟩ : w3.cell? ⟨wr.heap.size, 0, none⟩ = some (.slice A2 sl c2) ∧ w3.cell? ⟨wr.heap.size, 1, none⟩ = some (.int .i64 val) := ⟨HX3.out.cell 0, HX3.out.cell 1⟩
      clear hb3 HC HMP2 HPS2 HOL2 HBE2 HX2 ho HTX
      obtain ⟨s, hs⟩ : ∃ s, o.isSome = s := ⟨_, rfl⟩
      rw [hs] at hlk HNX
      cases hq : (s == there) with
      | false =>
        have HNF := Lib.hid (show ptsOf rows = amongF ks there (ptsOf (ra.take (k + 1))) by rw [HNX.out, if_neg (by rw [hq]; simp), List.append_nil]; exact HPT.out)
        clear HNX
        go_wp2_with fail
        go_roundg g
        case measure => omega
        case rel => exact ⟨k + 1, X, cx, rows, by omega, by first | rfl | go_num, rfl, by omega, HNF.out, HPS3.out, HMP3.out, HBE3.out⟩
      | true =>
        have HNF := Lib.hid (show ptsOf (rows ++ [⟨.slice A2 sl c2, l, val⟩]) = amongF ks there (ptsOf (ra.take (k + 1))) by rw [HNX.out, if_pos hq, ptsOf_push, HPT.out])
        have hb4 := (Below.refl w3.heap.size w3).alloc (Nat.le_refl _) (.cells #[.slice A2 sl c2, .int .i64 val] 28)
        have HMP4 := Lib.hid (HMP3.out.below hb4)
        have HPS4 := Lib.hid (HPS3.out.below hb4)
        have HOL4 := Lib.hid (HOL3.out.below hb4)
        have HBE4 := Lib.hid (HBE3.out.trans (hb4.mono HBE3.out.size))
        have HX4 := Lib.hid ((Blk.mk (heap_alloc_new w3 (.cells #[.slice A2 sl c2, .int .i64 val] 28)) : Blk _ w3.heap.size 28 [.slice A2 sl c2, .int .i64 val]).sees (size := 2) (n := 1) rfl (List.prefix_refl _))
        clear HNX hb4 HMP3 HPS3 HOL3 HBE3
        go_wp2_with (at_builtin; refine wpList_append_at rfl (.tmp 31) (.tmp 33) 22 rfl w2.heap.size 28 i0 (.agg #[.slice none 0 0, .int .i64 0]) 2 32 Try.underlying22 HI.out HZ0.out HZ1.out HZ2.out rfl (by decide) (.slice X rows.length cx) rows.length (pts rows) rfl HPS4.out.own _ (some ⟨w3.heap.size, 0, none⟩) 1 _ [.slice A2 sl c2, .int .i64 val] rfl HX4.out (by intro u hu; simp at hu; rcases hu with rfl | rfl <;> rfl) (by unfold maxLen; omega) (by omega) HBE4.out.size ?_)
        intro v' w5 hown hgr hwh
        have HMP5 := Lib.hid (HMP4.out.kept hgr (fun e => by have h1 := (HPS4.out.own.lt bm e.symm).1; have := HBM.out.1; omega))
        have HPS5 := Lib.hid (HPS4.out.push (l := l) (z := val) HOL4.out hown hgr)
        have HBE5 := Lib.hid (HBE4.out.grown hgr HBE4.out.size (fun g e => (HPS4.out.own.lt g e).1))
        obtain ⟨A5, c5, rfl, _, _⟩ := own_slice hown
        have HL5 := Lib.hid (show (rows ++ [(⟨.slice A2 sl c2, l, val⟩ : PtR)]).length = rows.length + 1 by simp)
        clear hown hgr hwh HMP4 HPS4 HOL4 HBE4 HX4
        go_wp2_with fail
        go_roundg g
        case measure => omega
        case rel => exact ⟨k + 1, A5, c5, _, by omega, by first | rfl | go_num, by rw [HL5.out], by rw [HL5.out]; omega, HNF.out, by rw [HL5.out]; exact HPS5.out, HMP5.out, HBE5.out⟩
end Go.Proofs.Ytbndmmfpoljeaaa

namespace Go.Proofs.Ytbndmmfpoljeaaa
open Go.ChangeShapes Go.WideShapes Go.ChangeAt Go.RowKit
set_option linter.unusedVariables false

theorem num_add_any (a b : Int) (w : World) (wa : I64 a) (wb : I64 b) :
    Calls Try.prog 59 #[.int .i64 a, .int .i64 b] w fun e w' => e = .returned (.tuple #[.int .i64 (nV (a + b)), .int .i64 (nE (a + b))]) ∧ w = w' := by
  by_cases h : I64 (a + b)
  · rw [nV_in h, nE_in h]
    unfold I64 at *
    by_cases hb : 0 < b
    · have h1 : a < a + b := by omega
      go_enter Try.func59, Try.ntmps59
      go_wp2
      go_ret2
      exact ⟨rfl, rfl⟩
    · have h1 : ¬ a < a + b := by omega
      go_enter Try.func59, Try.ntmps59
      go_wp2
      go_ret2
      exact ⟨rfl, rfl⟩
  · rw [nV_out h, nE_out h]
    rcases out_cases h with h | h
    · obtain ⟨h1, h2⟩ := sum_ge wa wb h
      clear h wa wb
      go_enter Try.func59, Try.ntmps59
      go_wp2
      go_ret2
      exact ⟨rfl, rfl⟩
    · obtain ⟨h1, h2⟩ := sum_le wa wb h
      clear h wa wb
      go_enter Try.func59, Try.ntmps59
      go_wp2
      go_ret2
      exact ⟨rfl, rfl⟩

theorem num_sub_any (a b : Int) (w : World) (wa : I64 a) (wb : I64 b) :
    Calls Try.prog 60 #[.int .i64 a, .int .i64 b] w fun e w' => e = .returned (.tuple #[.int .i64 (nV (a - b)), .int .i64 (nE (a - b))]) ∧ w = w' := by
  by_cases h : I64 (a - b)
  · rw [nV_in h, nE_in h]
    unfold I64 at *
    by_cases hb : 0 < b
    · have h1 : a - b < a := by omega
      go_enter Try.func60, Try.ntmps60
      go_wp2
      go_ret2
      exact ⟨rfl, rfl⟩
    · have h1 : ¬ a - b < a := by omega
      go_enter Try.func60, Try.ntmps60
      go_wp2
      go_ret2
      exact ⟨rfl, rfl⟩
  · rw [nV_out h, nE_out h]
    rcases out_cases h with h | h
    · obtain ⟨h1, h2⟩ := sub_ge wa wb h
      clear h wa wb
      go_enter Try.func60, Try.ntmps60
      go_wp2
      go_ret2
      exact ⟨rfl, rfl⟩
    · obtain ⟨h1, h2⟩ := sub_le wa wb h
      clear h wa wb
      go_enter Try.func60, Try.ntmps60
      go_wp2
      go_ret2
      exact ⟨rfl, rfl⟩
theorem num_mul_any (a b : Int) (w : World) (wa : I64 a) (wb : I64 b) :
    Calls Try.prog 61 #[.int .i64 a, .int .i64 b] w fun e w' => e = .returned (.tuple #[.int .i64 (nV (a * b)), .int .i64 (nE (a * b))]) ∧ w = w' := by
  by_cases hb : b = 0
  · subst hb
    have h : I64 (a * 0) := by rw [Int.mul_zero]; exact ⟨by omega, by omega⟩
    rw [nV_in h, nE_in h, Int.mul_zero]
    clear h wa wb
    go_enter Try.func61, Try.ntmps61
    go_wp2
    go_ret2
    exact ⟨rfl, rfl⟩
  · have hb0 : (b == 0) = false := by simpa using hb
    by_cases h : I64 (a * b)
    · have h2 := mul_stays wa hb h
      rw [nV_in h, nE_in h]
      have HW := Lib.hid (wrap64_of h)
      have HM := Lib.hid h2
      clear h h2 wa wb
      go_enter Try.func61, Try.ntmps61
      go_wp2
      all_goals first
        | (go_ret2; exact ⟨ret_int1 HW.out, rfl⟩)
        | (have hb1 : b = -1 := ‹_›; subst hb1; go_ret2; exact ⟨ret_int1 (by simpa using HW.out), rfl⟩)
        | (exfalso; obtain ⟨h1, h2⟩ := HM.out; first | exact absurd h1 ‹_› | exact h2 ⟨‹b = -1›, by simpa using ‹(a == _) = true›⟩)
    · have h2 := mul_wraps wa wb hb h
      rw [nV_out h, nE_out h]
      have HM := Lib.hid h2
      clear h h2 wa wb
      go_enter Try.func61, Try.ntmps61
      go_wp2
      all_goals first
        | (go_ret2; exact ⟨rfl, rfl⟩)
        | (exfalso; rcases HM.out with h1 | ⟨h1, h2⟩; exact h1 ‹_›; first | exact absurd h1 ‹_› | exact absurd h2 (by simpa using ‹(a == _) = false›))
theorem num_div_zero (a : Int) (w : World) :
    Calls Try.prog 62 #[.int .i64 a, .int .i64 0] w fun e w' => e = .returned (.tuple #[.int .i64 0, .int .i64 4]) ∧ w = w' := by
  go_enter Try.func62, Try.ntmps62
  go_wp2
  go_ret2
  exact ⟨rfl, rfl⟩
theorem num_div_over (w : World) :
    Calls Try.prog 62 #[.int .i64 (-9223372036854775808), .int .i64 (-1)] w fun e w' => e = .returned (.tuple #[.int .i64 0, .int .i64 3]) ∧ w = w' := by
  go_enter Try.func62, Try.ntmps62
  go_wp2
  go_ret2
  exact ⟨rfl, rfl⟩
theorem num_div_any (a b : Int) (w : World) (wa : I64 a) (hb : b ≠ 0) (ho : ¬ (a = -9223372036854775808 ∧ b = -1)) :
    Calls Try.prog 62 #[.int .i64 a, .int .i64 b] w fun e w' => e = .returned (.tuple #[.int .i64 (a.tdiv b), .int .i64 0]) ∧ w = w' := by
  have hb0 : (b == 0) = false := by simpa using hb
  have HD := Lib.hid (wrap64_of (tdiv_in wa ho))
  have HO := Lib.hid ho
  clear wa ho hb
  go_enter Try.func62, Try.ntmps62
  go_wp2
  all_goals first
    | (go_ret2; exact ⟨ret_int1 HD.out, rfl⟩)
    | (have hb1 : b = -1 := ‹_›; subst hb1; go_ret2; exact ⟨ret_int1 (by simpa using HD.out), rfl⟩)
    | (exfalso; first | exact HO.out ⟨by simpa using ‹(a == _) = true›, ‹b = -1›⟩ | (simp at hb0; exact hb0 ‹b = 0›))
theorem num_mod_zero (a : Int) (w : World) :
    Calls Try.prog 63 #[.int .i64 a, .int .i64 0] w fun e w' => e = .returned (.tuple #[.int .i64 0, .int .i64 4]) ∧ w = w' := by
  go_enter Try.func63, Try.ntmps63
  go_wp2
  go_ret2
  exact ⟨rfl, rfl⟩
theorem num_mod_any (a b : Int) (w : World) (hb : b ≠ 0) :
    Calls Try.prog 63 #[.int .i64 a, .int .i64 b] w fun e w' => e = .returned (.tuple #[.int .i64 (a.tmod b), .int .i64 0]) ∧ w = w' := by
  have hb0 : (b == 0) = false := by simpa using hb
  go_enter Try.func63, Try.ntmps63
  go_wp2
  all_goals first
    | (go_ret2; exact ⟨rfl, rfl⟩)
    | (exfalso; simp at hb0; exact hb0 ‹b = 0›)
end Go.Proofs.Ytbndmmfpoljeaaa

namespace Go.Proofs.Ytbndmmfpoljeaaa
open Go.ChangeShapes Go.WideShapes Go.ChangeAt Go.RowKit
set_option linter.unusedVariables false
set_option maxRecDepth 100000
/-- Do two ints compare so. -/
def holdsF (k a b : Int) : Bool := if k = 8 then a == b else if k = 9 then a != b else if k = 10 then decide (a < b) else if k = 11 then decide (a ≤ b) else if k = 12 then decide (b < a) else if k = 13 then decide (b ≤ a) else false
theorem int_ne9 {a b : Int} (h : ¬ a = b) : (a == b) = false := by rw [beq_eq_false_iff_ne]; exact h
set_option maxHeartbeats 2000000 in
theorem holds_v (k a b : Int) (w : World) : Calls Try.prog 49 #[.int .i64 k, .int .i64 a, .int .i64 b] w fun e w' => e = .returned (.bool (holdsF k a b)) ∧ w = w' := by
  by_cases k8 : k = 8
  · have HE := Lib.hid (show holdsF k a b = (a == b) by unfold holdsF; rw [if_pos k8])
    subst k8
    go_enter Try.func49, Try.ntmps49
    go_wp2_with fail
    go_ret
    exact ⟨by rw [HE.out]; rfl, rfl⟩
  by_cases k9 : k = 9
  · have HE := Lib.hid (show holdsF k a b = (a != b) by unfold holdsF; rw [if_neg k8, if_pos k9])
    subst k9
    go_enter Try.func49, Try.ntmps49
    go_wp2_with fail
    go_ret
    exact ⟨by rw [HE.out]; rfl, rfl⟩
  by_cases k10 : k = 10
  · have HE := Lib.hid (show holdsF k a b = (decide (a < b)) by unfold holdsF; rw [if_neg k8, if_neg k9, if_pos k10])
    subst k10
    go_enter Try.func49, Try.ntmps49
    go_wp2_with fail
    go_ret
    exact ⟨by rw [HE.out]; rfl, rfl⟩
  by_cases k11 : k = 11
  · have HE := Lib.hid (show holdsF k a b = (decide (a ≤ b)) by unfold holdsF; rw [if_neg k8, if_neg k9, if_neg k10, if_pos k11])
    subst k11
    go_enter Try.func49, Try.ntmps49
    go_wp2_with fail
    go_ret
    exact ⟨by rw [HE.out]; rfl, rfl⟩
  by_cases k12 : k = 12
  · have HE := Lib.hid (show holdsF k a b = (decide (b < a)) by unfold holdsF; rw [if_neg k8, if_neg k9, if_neg k10, if_neg k11, if_pos k12])
    subst k12
    go_enter Try.func49, Try.ntmps49
    go_wp2_with fail
    go_ret
    exact ⟨by rw [HE.out]; rfl, rfl⟩
  by_cases k13 : k = 13
  · have HE := Lib.hid (show holdsF k a b = (decide (b ≤ a)) by unfold holdsF; rw [if_neg k8, if_neg k9, if_neg k10, if_neg k11, if_neg k12, if_pos k13])
    subst k13
    go_enter Try.func49, Try.ntmps49
    go_wp2_with fail
    go_ret
    exact ⟨by rw [HE.out]; rfl, rfl⟩
  have HE := Lib.hid (show holdsF k a b = false by unfold holdsF; rw [if_neg k8, if_neg k9, if_neg k10, if_neg k11, if_neg k12, if_neg k13])
  have t8 := int_ne9 k8
  have t9 := int_ne9 k9
  have t10 := int_ne9 k10
  have t11 := int_ne9 k11
  have t12 := int_ne9 k12
  have t13 := int_ne9 k13
  go_enter Try.func49, Try.ntmps49
  go_wp2_with fail
  go_ret
  exact ⟨by rw [HE.out]; rfl, rfl⟩
set_option maxHeartbeats 2000000 in
theorem holds_r (k a b : Int) (w : World) (h1 : 8 ≤ k) (h2 : k ≤ 13) : Calls Try.prog 48 #[.int .i64 k, .int .i64 a, .int .i64 b] w fun e w' => e = .returned (.bool (holdsF k a b)) ∧ w = w' := by
  by_cases k8 : k = 8
  · have HE := Lib.hid (show holdsF k a b = (a == b) by unfold holdsF; rw [if_pos k8])
    subst k8
    go_enter Try.func48, Try.ntmps48
    go_wp2_with fail
    go_ret
    exact ⟨by rw [HE.out]; rfl, rfl⟩
  by_cases k9 : k = 9
  · have HE := Lib.hid (show holdsF k a b = (a != b) by unfold holdsF; rw [if_neg k8, if_pos k9])
    subst k9
    go_enter Try.func48, Try.ntmps48
    go_wp2_with fail
    go_ret
    exact ⟨by rw [HE.out]; rfl, rfl⟩
  by_cases k10 : k = 10
  · have HE := Lib.hid (show holdsF k a b = (decide (a < b)) by unfold holdsF; rw [if_neg k8, if_neg k9, if_pos k10])
    subst k10
    go_enter Try.func48, Try.ntmps48
    go_wp2_with fail
    go_ret
    exact ⟨by rw [HE.out]; rfl, rfl⟩
  by_cases k11 : k = 11
  · have HE := Lib.hid (show holdsF k a b = (decide (a ≤ b)) by unfold holdsF; rw [if_neg k8, if_neg k9, if_neg k10, if_pos k11])
    subst k11
    go_enter Try.func48, Try.ntmps48
    go_wp2_with fail
    go_ret
    exact ⟨by rw [HE.out]; rfl, rfl⟩
  by_cases k12 : k = 12
  · have HE := Lib.hid (show holdsF k a b = (decide (b < a)) by unfold holdsF; rw [if_neg k8, if_neg k9, if_neg k10, if_neg k11, if_pos k12])
    subst k12
    go_enter Try.func48, Try.ntmps48
    go_wp2_with fail
    go_ret
    exact ⟨by rw [HE.out]; rfl, rfl⟩
  obtain rfl : k = 13 := by omega
  have HE := Lib.hid (show holdsF 13 a b = decide (b ≤ a) from rfl)
  go_enter Try.func48, Try.ntmps48
  go_wp2_with fail
  go_ret
  exact ⟨by rw [HE.out]; rfl, rfl⟩
end Go.Proofs.Ytbndmmfpoljeaaa

namespace Go.Proofs.Ytbndmmfpoljeaaa
open Go.ChangeShapes Go.WideShapes Go.ChangeAt Go.RowKit
set_option linter.unusedVariables false
set_option maxRecDepth 100000
def divF (a b : Int) : Int × Int := if b = 0 then (0, 4) else if a = -9223372036854775808 ∧ b = -1 then (0, 3) else (a.tdiv b, 0)
def modF (a b : Int) : Int × Int := if b = 0 then (0, 4) else (a.tmod b, 0)
/-- Two ints reckoned: what comes, and the fault (0: none). -/
def reckonF (k a b : Int) : Int × Int := if k = 3 then (nV (a + b), nE (a + b)) else if k = 4 then (nV (a - b), nE (a - b)) else if k = 5 then (nV (a * b), nE (a * b)) else if k = 6 then divF a b else if k = 7 then modF a b else (0, 7)
theorem div_any (a b : Int) (w : World) (wa : I64 a) (wb : I64 b) :
    Calls Try.prog 62 #[.int .i64 a, .int .i64 b] w fun e w' => e = .returned (.tuple #[.int .i64 (divF a b).1, .int .i64 (divF a b).2]) ∧ w = w' := by
  unfold divF
  by_cases hb : b = 0
  · subst hb; rw [if_pos rfl]; exact num_div_zero a w
  · rw [if_neg hb]
    by_cases h : a = -9223372036854775808 ∧ b = -1
    · obtain ⟨rfl, rfl⟩ := h; rw [if_pos ⟨rfl, rfl⟩]; exact num_div_over w
    · rw [if_neg h]; exact num_div_any a b w wa hb h
theorem mod_any (a b : Int) (w : World) :
    Calls Try.prog 63 #[.int .i64 a, .int .i64 b] w fun e w' => e = .returned (.tuple #[.int .i64 (modF a b).1, .int .i64 (modF a b).2]) ∧ w = w' := by
  unfold modF
  by_cases hb : b = 0
  · subst hb; rw [if_pos rfl]; exact num_mod_zero a w
  · rw [if_neg hb]; exact num_mod_any a b w hb
set_option maxHeartbeats 2000000 in
theorem reckon_any (k a b : Int) (w : World) (wa : I64 a) (wb : I64 b) :
    Calls Try.prog 32 #[.int .i64 k, .int .i64 a, .int .i64 b] w fun e w' => e = .returned (.tuple #[.int .i64 (reckonF k a b).1, .int .i64 (reckonF k a b).2]) ∧ w = w' := by
  have HA := Lib.hid (num_add_any a b w wa wb)
  have HS := Lib.hid (num_sub_any a b w wa wb)
  have HM := Lib.hid (num_mul_any a b w wa wb)
  have HD := Lib.hid (div_any a b w wa wb)
  have HO := Lib.hid (mod_any a b w)
  by_cases k3 : k = 3
  · have HE := Lib.hid (show reckonF k a b = (nV (a + b), nE (a + b)) by unfold reckonF; rw [if_pos k3])
    subst k3
    go_enter Try.func32, Try.ntmps32
    go_wp2_with fail
    (with_reducible refine HA.out.mono ?_); rintro e w' ⟨rfl, rfl⟩
    go_wp2_with fail
    go_ret2
    exact ⟨by rw [HE.out]; rfl, rfl⟩
  · by_cases k4 : k = 4
    · have HE := Lib.hid (show reckonF k a b = (nV (a - b), nE (a - b)) by unfold reckonF; rw [if_neg k3, if_pos k4])
      subst k4
      go_enter Try.func32, Try.ntmps32
      go_wp2_with fail
      (with_reducible refine HS.out.mono ?_); rintro e w' ⟨rfl, rfl⟩
      go_wp2_with fail
      go_ret2
      exact ⟨by rw [HE.out]; rfl, rfl⟩
    · by_cases k5 : k = 5
      · have HE := Lib.hid (show reckonF k a b = (nV (a * b), nE (a * b)) by unfold reckonF; rw [if_neg k3, if_neg k4, if_pos k5])
        subst k5
        go_enter Try.func32, Try.ntmps32
        go_wp2_with fail
        (with_reducible refine HM.out.mono ?_); rintro e w' ⟨rfl, rfl⟩
        go_wp2_with fail
        go_ret2
        exact ⟨by rw [HE.out]; rfl, rfl⟩
      · by_cases k6 : k = 6
        · have HE := Lib.hid (show reckonF k a b = divF a b by unfold reckonF; rw [if_neg k3, if_neg k4, if_neg k5, if_pos k6])
          subst k6
          go_enter Try.func32, Try.ntmps32
          go_wp2_with fail
          (with_reducible refine HD.out.mono ?_); rintro e w' ⟨rfl, rfl⟩
          go_wp2_with fail
          go_ret2
          exact ⟨by rw [HE.out]; rfl, rfl⟩
        · by_cases k7 : k = 7
          · have HE := Lib.hid (show reckonF k a b = modF a b by unfold reckonF; rw [if_neg k3, if_neg k4, if_neg k5, if_neg k6, if_pos k7])
            subst k7
            go_enter Try.func32, Try.ntmps32
            go_wp2_with fail
            (with_reducible refine HO.out.mono ?_); rintro e w' ⟨rfl, rfl⟩
            go_wp2_with fail
            go_ret2
            exact ⟨by rw [HE.out]; rfl, rfl⟩
          · have HE := Lib.hid (show reckonF k a b = (0, 7) by unfold reckonF; rw [if_neg k3, if_neg k4, if_neg k5, if_neg k6, if_neg k7])
            have t3 := int_ne9 k3; have t4 := int_ne9 k4; have t5 := int_ne9 k5; have t6 := int_ne9 k6; have t7 := int_ne9 k7
            go_enter Try.func32, Try.ntmps32
            go_wp2_with fail
            go_ret2
            exact ⟨by rw [HE.out]; rfl, rfl⟩
end Go.Proofs.Ytbndmmfpoljeaaa

namespace Go.Proofs.Ytbndmmfpoljeaaa
open Go.ChangeShapes Go.WideShapes Go.ChangeAt Go.RowKit
set_option linter.unusedVariables false
set_option maxRecDepth 100000
def begunF (k v : Int) : Int := if k = 20 then 1 else v
/-- What a group comes to with one value more; the fault. -/
def gatherF (k a b : Int) : Int × Int := if k = 17 then (nV (a + b), nE (a + b)) else if k = 18 then (min a b, 0) else if k = 19 then (max a b, 0) else if k = 20 then (a + 1, 0) else (0, 7)
theorem begun_any (k v : Int) (w : World) : Calls Try.prog 36 #[.int .i64 k, .int .i64 v] w fun e w' => e = .returned (.int .i64 (begunF k v)) ∧ w = w' := by
  by_cases h : k = 20
  · have HE := Lib.hid (show begunF k v = 1 by unfold begunF; rw [if_pos h])
    subst h
    go_enter Try.func36, Try.ntmps36
    go_wp2_with fail
    go_ret
    exact ⟨by rw [HE.out]; rfl, rfl⟩
  · have HE := Lib.hid (show begunF k v = v by unfold begunF; rw [if_neg h])
    have t := int_ne9 h
    go_enter Try.func36, Try.ntmps36
    go_wp2_with fail
    go_ret
    exact ⟨by rw [HE.out]; rfl, rfl⟩
set_option maxHeartbeats 2000000 in
theorem gathered_any (k a b : Int) (w : World) (wa : I64 a) (wb : I64 b) (hc : k = 20 → a + 1 ≤ 9223372036854775807) :
    Calls Try.prog 37 #[.int .i64 k, .int .i64 a, .int .i64 b] w fun e w' => e = .returned (.tuple #[.int .i64 (gatherF k a b).1, .int .i64 (gatherF k a b).2]) ∧ w = w' := by
  have HA := Lib.hid (num_add_any a b w wa wb)
  by_cases k3 : k = 17
  · have HE := Lib.hid (show gatherF k a b = (nV (a + b), nE (a + b)) by unfold gatherF; rw [if_pos k3])
    subst k3
    go_enter Try.func37, Try.ntmps37
    go_wp2_with fail
    (with_reducible refine HA.out.mono ?_); rintro e w' ⟨rfl, rfl⟩
    go_wp2_with fail
    go_ret2
    exact ⟨by rw [HE.out]; rfl, rfl⟩
  · by_cases k4 : k = 18
    · obtain ⟨m, hm⟩ : ∃ m, min a b = m := ⟨_, rfl⟩
      have HE := Lib.hid (show gatherF k a b = (m, 0) by unfold gatherF; rw [if_neg k3, if_pos k4, hm])
      subst k4
      go_enter Try.func37, Try.ntmps37
      go_wp2_with fail
      all_goals
        go_ret2
        refine ⟨?_, rfl⟩
        rw [HE.out]
        first | rfl | (show Ending.returned (.tuple #[.int .i64 a, .int .i64 0]) = .returned (.tuple #[.int .i64 m, .int .i64 0]); rw [show a = m by omega]; done) | (show Ending.returned (.tuple #[.int .i64 b, .int .i64 0]) = .returned (.tuple #[.int .i64 m, .int .i64 0]); rw [show b = m by omega]; done)
    · by_cases k5 : k = 19
      · obtain ⟨m, hm⟩ : ∃ m, max a b = m := ⟨_, rfl⟩
        have HE := Lib.hid (show gatherF k a b = (m, 0) by unfold gatherF; rw [if_neg k3, if_neg k4, if_pos k5, hm])
        subst k5
        go_enter Try.func37, Try.ntmps37
        go_wp2_with fail
        all_goals
          go_ret2
          refine ⟨?_, rfl⟩
          rw [HE.out]
          first | rfl | (show Ending.returned (.tuple #[.int .i64 a, .int .i64 0]) = .returned (.tuple #[.int .i64 m, .int .i64 0]); rw [show a = m by omega]; done) | (show Ending.returned (.tuple #[.int .i64 b, .int .i64 0]) = .returned (.tuple #[.int .i64 m, .int .i64 0]); rw [show b = m by omega]; done)
      · by_cases k6 : k = 20
        · have HE := Lib.hid (show gatherF k a b = (a + 1, 0) by unfold gatherF; rw [if_neg k3, if_neg k4, if_neg k5, if_pos k6])
          have hw : IntKind.i64.wrap (a + 1) = a + 1 := by have := hc k6; unfold I64 at wa; rw [IntKind.wrap_i64]; omega
          subst k6
          go_enter Try.func37, Try.ntmps37
          go_wp2_with fail
          go_ret2
          exact ⟨by rw [HE.out]; first | rfl | (simp [hw]; done), rfl⟩
        · have HE := Lib.hid (show gatherF k a b = (0, 7) by unfold gatherF; rw [if_neg k3, if_neg k4, if_neg k5, if_neg k6])
          have t3 := int_ne9 k3; have t4 := int_ne9 k4; have t5 := int_ne9 k5; have t6 := int_ne9 k6
          go_enter Try.func37, Try.ntmps37
          go_wp2_with fail
          go_ret2
          exact ⟨by rw [HE.out]; rfl, rfl⟩
end Go.Proofs.Ytbndmmfpoljeaaa

namespace Go.Proofs.Ytbndmmfpoljeaaa
open Go.ChangeShapes Go.WideShapes Go.ChangeAt Go.RowKit
set_option linter.unusedVariables false
set_option linter.unusedSimpArgs false
set_option maxRecDepth 100000
/-- A point: its set, its value. -/
abbrev Pt := List Lbl × Int
/-- What each of l comes to (none: nothing): its set, its value, its fault. -/
def outF (f : Pt → Option (List Lbl × (Int × Int))) (l : List Pt) : List Pt := l.filterMap fun p => (f p).map fun r => (r.1, r.2.1)
/-- The first fault; 0: none. -/
def errF (f : Pt → Option (List Lbl × (Int × Int))) : List Pt → Int
  | [] => 0
  | p :: l => match f p with
    | none => errF f l
    | some r => if r.2.2 = 0 then errF f l else r.2.2
def resF (f : Pt → Option (List Lbl × (Int × Int))) (l : List Pt) : List Pt × Int := if errF f l = 0 then (sortP (outF f l), 0) else ([], errF f l)
theorem errF_cons (f : Pt → Option (List Lbl × (Int × Int))) (p : Pt) (l : List Pt) : errF f (p :: l) = match f p with
    | none => errF f l
    | some r => if r.2.2 = 0 then errF f l else r.2.2 := rfl
theorem errF_append (f : Pt → Option (List Lbl × (Int × Int))) (l m : List Pt) : errF f (l ++ m) = if errF f l = 0 then errF f m else errF f l := by
  induction l with
  | nil => rfl
  | cons p l ih =>
    rw [List.cons_append, errF_cons, errF_cons]
    cases f p with
    | none => exact ih
    | some r =>
      simp only
      by_cases h : r.2.2 = 0
      · rw [if_pos h, if_pos h]; exact ih
      · rw [if_neg h, if_neg h, if_neg h]
theorem outF_next (f : Pt → Option (List Lbl × (Int × Int))) (l : List PtR) (k : Nat) (h : k < l.length) :
    outF f (ptsOf (l.take (k + 1))) = outF f (ptsOf (l.take k)) ++ (match f (l[k].set, l[k].val) with | none => [] | some r => [(r.1, r.2.1)]) := by
  unfold outF ptsOf
  rw [List.take_succ_eq_append_getElem h, List.map_append, List.filterMap_append]
  congr 1
  cases e : f (l[k].set, l[k].val) with
  | none => simp [e]
  | some r => simp [e]
theorem errF_next (f : Pt → Option (List Lbl × (Int × Int))) (l : List PtR) (k : Nat) (h : k < l.length) (h0 : errF f (ptsOf (l.take k)) = 0) :
    errF f (ptsOf (l.take (k + 1))) = (match f (l[k].set, l[k].val) with | none => 0 | some r => r.2.2) := by
  unfold ptsOf at h0 ⊢
  rw [List.take_succ_eq_append_getElem h, List.map_append, errF_append, if_pos h0]
  show errF f [(l[k].set, l[k].val)] = _
  rw [errF_cons]
  cases f (l[k].set, l[k].val) with
  | none => rfl
  | some r => by_cases h : r.2.2 = 0 <;> simp [errF, h]
theorem errF_hit (f : Pt → Option (List Lbl × (Int × Int))) (l : List PtR) (k : Nat) (h : k < l.length) (h0 : errF f (ptsOf (l.take (k + 1))) ≠ 0) : errF f (ptsOf l) = errF f (ptsOf (l.take (k + 1))) := by
  have e : ptsOf l = ptsOf (l.take (k + 1)) ++ ptsOf (l.drop (k + 1)) := by unfold ptsOf; rw [← List.map_append, List.take_append_drop]
  rw [e, errF_append, if_neg h0]
/-- Points put so far. -/
structure OutAt (base : Nat) (v : Value) (rows : List PtR) (k : Nat) (ps : List Pt) (W : World) : Prop where
  at_ : PtsAt base v rows W
  len : rows.length ≤ k
  sets : ∀ x ∈ rows, x.set.length ≤ 1000
  eq : ptsOf rows = ps
theorem OutAt.below {base k : Nat} {v : Value} {rows : List PtR} {ps : List Pt} {W W' : World} (h : OutAt base v rows k ps W) (hb : Below W.heap.size W W') : OutAt base v rows k ps W' := ⟨h.at_.below hb, h.len, h.sets, h.eq⟩
theorem OutAt.nil (base : Nat) (W : World) : OutAt base (.slice none 0 0) [] 0 [] W := ⟨PtsAt.nil _ _, Nat.le_refl _, (fun x hx => absurd hx List.not_mem_nil), rfl⟩
theorem OutAt.next {base k : Nat} {v : Value} {rows : List PtR} {ps ps' : List Pt} {W : World} (h : OutAt base v rows k ps W) (e : ps' = ps) : OutAt base v rows (k + 1) ps' W := ⟨h.at_, Nat.le_succ_of_le h.len, h.sets, by rw [e]; exact h.eq⟩
theorem OutAt.push {base k : Nat} {v v' x : Value} {l : List Lbl} {z : Int} {rows : List PtR} {ps ps' : List Pt} {W W' : World} (h : OutAt base v rows k ps W) (hx : OwnL W x l) (hl : l.length ≤ 1000) (hown : W'.ownsRow base 28 2 v' (rows.length + 1) (pts rows ++ [x, .int .i64 z])) (hg : W.grownBy W' v.ownBlock) (e : ps' = ps ++ [(l, z)]) : OutAt base v' (rows ++ [⟨x, l, z⟩]) (k + 1) ps' W' := by
  refine ⟨h.at_.push hx hown hg, by have := h.len; simp; omega, fun y hy => ?_, by rw [ptsOf_push, h.eq, e]⟩
  rcases List.mem_append.1 hy with hy | hy
  · exact h.sets y hy
  · rw [List.mem_singleton] at hy; subst hy; exact hl
theorem OutAt.cap {base k c : Nat} {X : Option Addr} {rows : List PtR} {ps : List Pt} {W : World} (h : OutAt base (.slice X rows.length c) rows k ps W) : rows.length ≤ c ∧ c ≤ 9223372036854775807 := by
  obtain ⟨A', c', e, h1, h2⟩ := own_slice h.at_.own
  injection e with _ _ e; subst e
  exact ⟨h1, h2⟩
/-- A call answers new points and a fault. -/
def PtsAnsE (r : List Pt × Int) (w : World) (e : Ending) (w' : World) : Prop := ∃ A c rows, ptsOf rows = r.1 ∧ e = .returned (.tuple #[.slice A rows.length c, .int .i64 r.2]) ∧ PtsAt w.heap.size (.slice A rows.length c) rows w' ∧ Below w.heap.size w w' ∧ rows.length ≤ c ∧ c ≤ 9223372036854775807
theorem PtsAnsE.fault {r : List Pt × Int} {e : Int} {w w' : World} (h : r = ([], e)) (hb : Below w.heap.size w w') : PtsAnsE r w (.returned (.tuple #[.slice none 0 0, .int .i64 e])) w' :=
  ⟨none, 0, [], by rw [h]; rfl, by rw [h]; rfl, PtsAt.nil _ _, hb, Nat.le_refl _, by omega⟩
theorem PtsAnsE.ok {r : List Pt × Int} {ps : List Pt} {A : Option Addr} {c : Nat} {rows : List PtR} {w w1 w' : World} (h : r = (ps, 0)) (hp : ptsOf rows = ps) (h1 : PtsAt w1.heap.size (.slice A rows.length c) rows w') (hs : w.heap.size ≤ w1.heap.size) (hb : Below w.heap.size w w') (hc : rows.length ≤ c ∧ c ≤ 9223372036854775807) : PtsAnsE r w (.returned (.tuple #[.slice A rows.length c, .int .i64 0])) w' :=
  ⟨A, c, rows, by rw [h]; exact hp, by rw [h], h1.mono hs, hb, hc.1, hc.2⟩
theorem bare_len (l : List Lbl) : (bareL l).length ≤ l.length := List.length_filter_le _ _
end Go.Proofs.Ytbndmmfpoljeaaa

namespace Go.Proofs.Ytbndmmfpoljeaaa
open Go.ChangeShapes Go.WideShapes Go.ChangeAt Go.RowKit
set_option linter.unusedVariables false
set_option linter.unusedSimpArgs false
set_option maxRecDepth 100000
/-- Where a text is first. -/
def idxG : List (List UInt8) → List UInt8 → Option Nat
  | [], _ => none
  | k :: ks, t => if k = t then some 0 else (idxG ks t).map (· + 1)
theorem idxG_append (ks : List (List UInt8)) (t0 x : List UInt8) : idxG (ks ++ [t0]) x = match idxG ks x with | some i => some i | none => if t0 = x then some ks.length else none := by
  induction ks with
  | nil => simp [idxG]
  | cons k ks ih =>
    rw [List.cons_append]
    unfold idxG
    by_cases h : k = x
    · rw [if_pos h, if_pos h]
    · rw [if_neg h, if_neg h, ih]
      cases idxG ks x with
      | some i => rfl
      | none => by_cases h2 : t0 = x <;> simp [h2]
theorem idxG_some {ks : List (List UInt8)} {t : List UInt8} : ∀ {i : Nat}, idxG ks t = some i → i < ks.length ∧ ks[i]? = some t := by
  induction ks with
  | nil => intro i h; cases h
  | cons k ks ih =>
    intro i h
    unfold idxG at h
    by_cases hk : k = t
    · rw [if_pos hk] at h; injection h with h; subst h; subst hk; exact ⟨by simp, rfl⟩
    · rw [if_neg hk] at h
      cases e : idxG ks t with
      | none => rw [e] at h; cases h
      | some j =>
        rw [e] at h
        simp only [Option.map_some, Option.some.injEq] at h
        subst h
        obtain ⟨h1, h2⟩ := ih e
        exact ⟨by simp; omega, by simpa using h2⟩
theorem idxG_none {ks : List (List UInt8)} {t : List UInt8} : idxG ks t = none ↔ t ∉ ks := by
  induction ks with
  | nil => simp [idxG]
  | cons k ks ih =>
    unfold idxG
    by_cases hk : k = t
    · rw [if_pos hk]; simp [hk]
    · rw [if_neg hk]
      rw [Option.map_eq_none_iff, ih]
      simp [Ne.symm hk, hk]
/-- vec.places in the same words. -/
theorem placeN_idx (ks : List (List UInt8)) (t : List UInt8) : ∀ k, k ≤ ks.length → placeN ks k t = (idxG (ks.take k) t).map fun i => (i : Int)
  | 0, _ => by simp [placeN, idxG]
  | k + 1, hk => by
    have hlt : k < ks.length := by omega
    have hg : ks.getD k [] = ks[k] := by rw [List.getD_eq_getElem?_getD, List.getElem?_eq_getElem hlt]; rfl
    have ih := placeN_idx ks t k (by omega)
    have ih2 := placeN_idx ks ks[k] k (by omega)
    unfold placeN
    rw [hg, List.take_succ_eq_append_getElem hlt, idxG_append, ih, ih2]
    have hl : (ks.take k).length = k := by rw [List.length_take]; omega
    by_cases ht : t = ks[k]
    · rw [← ht]
      cases e : idxG (ks.take k) t with
      | some i => simp
      | none => simp [hl]
    · cases e : idxG (ks.take k) t with
      | some i => simp [ht]
      | none => simp [ht, Ne.symm ht]
/-- The groups so far and the fault, with one point more. -/
def keepL (ns : List ByteArray) (l : List Lbl) : List Lbl := l.filter fun x => hasS ns x.1
def txtG (gs : List Pt) : List (List UInt8) := gs.map fun g => printL g.1
def stepG (kd : Int) (ns : List ByteArray) (s : List Pt × Int) (p : Pt) : List Pt × Int :=
  if s.2 ≠ 0 then s
  else match idxG (txtG s.1) (printL (keepL ns p.1)) with
    | none => (s.1 ++ [(keepL ns p.1, begunF kd p.2)], 0)
    | some i => match s.1[i]? with
      | none => s
      | some g => if (gatherF kd g.2 p.2).2 = 0 then (s.1.set i (g.1, (gatherF kd g.2 p.2).1), 0) else ([], (gatherF kd g.2 p.2).2)
def groupF (kd : Int) (ns : List ByteArray) (ps : List Pt) : List Pt × Int := ps.foldl (stepG kd ns) ([], 0)
def groupR (kd : Int) (ns : List ByteArray) (ps : List Pt) : List Pt × Int := if (groupF kd ns ps).2 = 0 then (sortP (groupF kd ns ps).1, 0) else ([], (groupF kd ns ps).2)
theorem stepG_stop (kd : Int) (ns : List ByteArray) (s : List Pt × Int) (h : s.2 ≠ 0) (ps : List Pt) : ps.foldl (stepG kd ns) s = s := by
  induction ps with
  | nil => rfl
  | cons p ps ih => rw [List.foldl_cons, show stepG kd ns s p = s by unfold stepG; rw [if_pos h]]; exact ih
theorem groupF_snoc (kd : Int) (ns : List ByteArray) (ps : List Pt) (p : Pt) : groupF kd ns (ps ++ [p]) = stepG kd ns (groupF kd ns ps) p := by unfold groupF; rw [List.foldl_append]; rfl
theorem groupF_next (kd : Int) (ns : List ByteArray) (l : List PtR) (k : Nat) (h : k < l.length) : groupF kd ns (ptsOf (l.take (k + 1))) = stepG kd ns (groupF kd ns (ptsOf (l.take k))) (l[k].set, l[k].val) := by
  unfold ptsOf
  rw [List.take_succ_eq_append_getElem h, List.map_append, List.map_singleton, groupF_snoc]
theorem groupF_hit (kd : Int) (ns : List ByteArray) (l : List PtR) (k : Nat) (h : k < l.length) (h0 : (groupF kd ns (ptsOf (l.take (k + 1)))).2 ≠ 0) : groupF kd ns (ptsOf l) = groupF kd ns (ptsOf (l.take (k + 1))) := by
  have e : ptsOf l = ptsOf (l.take (k + 1)) ++ ptsOf (l.drop (k + 1)) := by unfold ptsOf; rw [← List.map_append, List.take_append_drop]
  rw [e]
  show List.foldl _ _ _ = _
  rw [List.foldl_append]
  exact stepG_stop kd ns _ h0 _
theorem stepG_none {kd : Int} {ns : List ByteArray} {gs : List Pt} {p : Pt} (h : idxG (txtG gs) (printL (keepL ns p.1)) = none) : stepG kd ns (gs, 0) p = (gs ++ [(keepL ns p.1, begunF kd p.2)], 0) := by
  unfold stepG; rw [if_neg (by simp), h]
theorem stepG_some {kd : Int} {ns : List ByteArray} {gs : List Pt} {p g : Pt} {i : Nat} (h : idxG (txtG gs) (printL (keepL ns p.1)) = some i) (hg : gs[i]? = some g) : stepG kd ns (gs, 0) p = if (gatherF kd g.2 p.2).2 = 0 then (gs.set i (g.1, (gatherF kd g.2 p.2).1), 0) else ([], (gatherF kd g.2 p.2).2) := by
  unfold stepG; rw [if_neg (by simp), h]; simp only [hg]
theorem txtG_set {gs : List Pt} {i : Nat} {g : Pt} (hg : gs[i]? = some g) (v : Int) : txtG (gs.set i (g.1, v)) = txtG gs := by
  unfold txtG
  rw [List.map_set]
  apply List.ext_getElem?
  intro j
  by_cases hj : i = j
  · subst hj
    rw [List.getElem?_set]
    obtain ⟨hl, e⟩ := List.getElem?_eq_some_iff.1 hg
    simp [hl, e]
  · rw [List.getElem?_set_ne hj]
theorem I64_nV (n : Int) : I64 (nV n) := by
  by_cases h : I64 n
  · rw [nV_in h]; exact h
  · rw [nV_out h]; unfold I64; omega
theorem gather_in {k a b : Int} (wa : I64 a) (wb : I64 b) (hc : k = 20 → a + 1 ≤ 9223372036854775807) : I64 (gatherF k a b).1 := by
  unfold gatherF
  split
  · exact I64_nV _
  · split
    · unfold I64 at *; dsimp only; omega
    · split
      · unfold I64 at *; dsimp only; omega
      · split
        · rename_i h; have := hc h; unfold I64 at *; dsimp only; omega
        · unfold I64; dsimp only; omega
theorem begun_in {k v : Int} (wv : I64 v) : I64 (begunF k v) := by
  unfold begunF; split
  · unfold I64; omega
  · exact wv
end Go.Proofs.Ytbndmmfpoljeaaa

namespace Go.Proofs.Ytbndmmfpoljeaaa
open Go.ChangeShapes Go.WideShapes Go.ChangeAt Go.RowKit
set_option linter.unusedVariables false
set_option maxRecDepth 100000
theorem Try.infoPts : (Try.prog.info? 28).map (fun i => (i.zero, i.size, i.bytes)) = some (some (.agg #[.slice none 0 0, .int .i64 0]), 2, 32) := by kernel_rfl
theorem grow_Pts_none (w : World) : Calls Try.prog 74 #[.slice none 0 0, .int .i64 0] w fun e w' => e = .returned (.slice none 0 0) ∧ w = w' := by
  go_enter Try.func74, Try.ntmps74
  go_wp2
  go_ret
  exact ⟨rfl, rfl⟩
theorem grow_Pts_some (n : Nat) (w : World) (h0 : 0 < n) (hn : n ≤ 1000000) :
    Calls Try.prog 74 #[.slice none 0 0, .int .i64 n] w (OwnAns 28 2 0 [] w) := by
  obtain ⟨i0, hi, hz0, hz1, hz2⟩ := info_parts Try.infoPts
  have hzr : ∀ ty, (Builtin.append_ #[22, 3] ty #[.slice none 0 0, .int .i64 (n : Int)]).run Try.prog w =
      .ok (.slice (some ⟨w.heap.size, 0, none⟩) (0 + n) (grownCap w (0 + n) 0 28)) (w.drew.alloc (.cells (#[] ++ Builtin.zeroCells (.agg #[.slice none 0 0, .int .i64 0] : Value).cells n ++ Builtin.zeroCells (.agg #[.slice none 0 0, .int .i64 0] : Value).cells (grownCap w (0 + n) 0 28 - (0 + n))) 28)) := fun ty =>
    Lib.run_append_grow_zeros w 22 3 ty 28 i0 (.agg #[.slice none 0 0, .int .i64 0]) .i64 .i64 Try.underlying22 Try.underlying3 hi hz0 none 0 0 [] (run_firstCells_none w.drew i0.size 0 0 0) n h0 (by rw [hz1]; decide) (by omega) (by omega) (by rw [hz2]; omega)
      (growslice_fits (by omega) (by rw [hz2]; omega))
  have hG := grownCap_ge w (0 + n) 0 28
  have hG2 := grownCap_le_maxLen w (0 + n) 0 28 (by unfold maxLen; omega)
  have hsz : (#[] ++ Builtin.zeroCells (.agg #[.slice none 0 0, .int .i64 0] : Value).cells n ++ Builtin.zeroCells (.agg #[.slice none 0 0, .int .i64 0] : Value).cells (grownCap w (0 + n) 0 28 - (0 + n))).size = grownCap w (0 + n) 0 28 * 2 := by
    have hzs : (.agg #[.slice none 0 0, .int .i64 0] : Value).cells.size = 2 := rfl
    rw [Array.size_append, Array.size_append, size_zeroCells, size_zeroCells, hzs]; simp only [List.size_toArray, List.length_nil]; omega
  generalize grownCap w (0 + n) 0 28 = G at *
  rw [Nat.zero_add] at hG hsz
  simp only [Nat.zero_add] at hzr
  generalize (#[] ++ Builtin.zeroCells (.agg #[.slice none 0 0, .int .i64 0] : Value).cells n ++ Builtin.zeroCells (.agg #[.slice none 0 0, .int .i64 0] : Value).cells (G - n)) = X at *
  have hown : (w.drew.alloc (.cells X 28)).ownsRow w.heap.size 28 2 (.slice (some ⟨w.heap.size, 0, none⟩) 0 G) 0 [] := World.ownsRow_made w.drew X G (Nat.le_refl _) hG2 hsz
  have HO := Lib.hid hown; clear hown hsz hz0 hz1 hz2
  unfold maxLen at hG2
  go_enter Try.func74, Try.ntmps74
  go_wp2_with (at_builtin; refine Lib.wpList_append_run _ rfl _ _ _ _ rfl _ _ rfl rfl _ _ (hzr _) ?_)
  go_ret
  exact ownAns HO.out (((Below.refl _ w).drew).alloc (Nat.le_refl _) _) rfl (by omega) (by omega)
/-- A row of slices: what each of them reads as. -/
def PartsPts (w : World) (B : Nat) (P : Option Addr) (np : Nat) (ls : List (List (PtR))) : Prop :=
  ls.length = np ∧ ∀ j l, ls[j]? = some l → ∃ ad A n c, P = some ad ∧ ad.block < B ∧ w.cell? (ad.add j) = some (.slice A n c) ∧ Sees w B 2 A n (pts l) ∧ n = l.length ∧ n ≤ c ∧ c ≤ 9223372036854775807
theorem PartsPts.below {w w' : World} {B : Nat} {P : Option Addr} {np : Nat} {ls : List (List (PtR))} (h : PartsPts w B P np ls) (hb : Below B w w') : PartsPts w' B P np ls :=
  ⟨h.1, fun j l hj => by
    obtain ⟨ad, A, n, c, h1, h2, h3, h4, h5, h6, h7⟩ := h.2 j l hj
    exact ⟨ad, A, n, c, h1, h2, (hb.cell (by rw [add_block]; exact h2)).trans h3, h4.below hb, h5, h6, h7⟩⟩
theorem PartsPts.more {w : World} {B B' : Nat} {P : Option Addr} {np : Nat} {ls : List (List (PtR))} (h : PartsPts w B P np ls) (hb : B ≤ B') : PartsPts w B' P np ls :=
  ⟨h.1, fun j l hj => by
    obtain ⟨ad, A, n, c, h1, h2, h3, h4, h5, h6, h7⟩ := h.2 j l hj
    exact ⟨ad, A, n, c, h1, by omega, h3, h4.more hb, h5, h6, h7⟩⟩
theorem flat_takePts {ls : List (List (PtR))} {j : Nat} {l : List (PtR)} (h : ls[j]? = some l) : (ls.take (j + 1)).flatten = (ls.take j).flatten ++ l := by
  have hj := (List.getElem?_eq_some_iff.1 h).1
  rw [List.take_succ_eq_append_getElem hj, List.flatten_append]
  have := (List.getElem?_eq_some_iff.1 h).2
  simp [this]
theorem flat_lePts (ls : List (List (PtR))) (j : Nat) : ((ls.take j).flatten).length ≤ ls.flatten.length := by
  have h := congrArg List.flatten (List.take_append_drop j ls)
  rw [List.flatten_append] at h
  have := congrArg List.length h
  rw [List.length_append] at this
  omega
set_option maxHeartbeats 1000000 in
theorem concat_Pts (P : Option Addr) (np cp : Nat) (ls : List (List (PtR))) (w : World) (h : PartsPts w w.heap.size P np ls) (hn : np ≤ 1000000) (hN : ls.flatten.length ≤ 1000000) (hoc : ∀ l ∈ ls, ∀ u ∈ pts l, u.oneCell' = true) :
    Calls Try.prog 51 #[.slice P np cp] w (OwnAns 28 2 ls.flatten.length (pts ls.flatten) w) := by
  have H := Lib.hid h; clear h
  have HOC := Lib.hid hoc; clear hoc
  obtain ⟨i0, hi, hz0, hz1, hz2⟩ := info_parts Try.infoPts
  have HL := Lib.hid H.out.1
  generalize hNn : ls.flatten.length = N at *
  have HN := Lib.hid hNn; clear hNn
  go_enter Try.func51, Try.ntmps51
  go_wp2_with fail
  go_loop [3, 11] (fun s i => ∃ j m : Nat, j ≤ np ∧ i = .int .i64 j ∧ s = .int .i64 m ∧ m ≤ N ∧ m = (ls.take j).flatten.length) (fun _ i => np - (intOf i).toNat)
  case atStart => exact ⟨0, 0, Nat.zero_le _, rfl, rfl, Nat.zero_le _, by simp⟩
  case round =>
    obtain ⟨j, m, hj, rfl, rfl, hmN, hm⟩ := hrel
    have HM := Lib.hid hm; clear hm
    by_cases hlt : j < np
    · obtain ⟨l, hl⟩ : ∃ l, ls[j]? = some l := ⟨_, List.getElem?_eq_getElem (by have := HL.out; omega)⟩
      obtain ⟨ad, A, n, c, rfl, h2, h3, h4, h5, h6, h7⟩ := H.out.2 j l hl
      have hle : m + n ≤ N := by
        have h8 := flat_lePts ls (j + 1)
        rw [flat_takePts hl, List.length_append, HN.out] at h8
        have := HM.out; omega
      have HLL := Lib.hid hl; have H5 := Lib.hid h5; clear hl h4 h5
      go_wp2_with fail
      go_round
      case rel => exact ⟨j + 1, m + n, by omega, by go_num, by go_num, by omega, by rw [flat_takePts HLL.out, List.length_append, HM.out, H5.out]⟩
      case measure => simp [intOf]; omega
    · obtain rfl : j = np := by omega
      have hmn : m = N := by rw [HM.out, List.take_of_length_le (by rw [HL.out]; exact Nat.le_refl _), HN.out]
      subst hmn
      clear HM
      by_cases h0 : m = 0
      · have hfl : ls.flatten = [] := List.eq_nil_of_length_eq_zero (by rw [HN.out]; exact h0)
        have HF := Lib.hid hfl
        subst h0
        go_wp2_with fail
        refine (grow_Pts_none w).mono ?_; rintro e w' ⟨rfl, rfl⟩
        go_wp2_with fail
        go_loopw [6, 27] (fun v i wr => ∃ j' : Nat, j' ≤ j ∧ i = .int .i64 j' ∧ wr.ownsRow w.heap.size 28 2 v (ls.take j').flatten.length (pts (ls.take j').flatten) ∧ Below w.heap.size w wr) (fun _ i _ => j - (intOf i).toNat)
        case atStart => exact ⟨0, Nat.zero_le _, rfl, by simpa [pts] using World.ownsRow_nil w w.heap.size 28 2, Below.refl _ _⟩
        case round =>
          obtain ⟨j', hj', rfl, hown, hbel⟩ := hrel
          have HBW := Lib.hid hbel; have hsz := hbel.size; clear hbel
          by_cases hlt2 : j' < j
          · obtain ⟨l, hl⟩ : ∃ l, ls[j']? = some l := ⟨_, List.getElem?_eq_getElem (by have := HL.out; omega)⟩
            obtain ⟨ad, A, n, c, rfl, h2, h3, h4, h5, h6, h7⟩ := (H.out.below HBW.out).2 j' l hl
            have hle : (ls.take j').flatten.length + n ≤ 0 := by
              have h8 := flat_lePts ls (j' + 1)
              rw [flat_takePts hl, List.length_append, HN.out] at h8
              omega
            have HFT := Lib.hid (flat_takePts hl); have HLM := Lib.hid (List.mem_of_getElem? hl)
            have HS := Lib.hid h4; have H5 := Lib.hid h5; clear hl h4 h5
            have HLO := Lib.hid hown.lt
            have HO := Lib.hid hown; clear hown
            generalize (ls.take j').flatten = F at *
            go_wp2_with (at_builtin; refine wpList_append_sees rfl (.tmp 31) (.tmp 32) 22 rfl w.heap.size 28 i0 (.agg #[.slice none 0 0, .int .i64 0]) 2 32 Try.underlying22 hi hz0 hz1 hz2 rfl (by decide) _ _ _ rfl HO.out w.heap.size A n _ (pts l) rfl HS.out (HOC.out _ HLM.out) (by unfold maxLen; omega) (by omega) (by omega) ?_)
            intro v' w2 hown hg
            have hb := HBW.out.grown hg (by omega) (fun g hg => (HLO.out g hg).1)
            have H1 := Lib.hid hown; have H2 := Lib.hid hb; clear hown hb hg
            go_wp2_with fail
            go_roundw
            case rel => exact ⟨j' + 1, by omega, by go_num, by rw [HFT.out, List.length_append, ← H5.out, pts_append]; exact H1.out, H2.out⟩
            case measure => simp [intOf]; omega
          · obtain rfl : j' = j := by omega
            obtain ⟨A2, c2, rfl, hc3, hc4⟩ := own_slice hown
            rw [List.take_of_length_le (by rw [HL.out]; exact Nat.le_refl _)] at hown hc3
            rw [HN.out] at hown hc3
            rw [List.take_of_length_le (by rw [HL.out]; exact Nat.le_refl _), HN.out]
            have HO := Lib.hid hown; clear hown
            go_wp2_with fail
            go_ret
            exact ownAns HO.out HBW.out rfl hc3 hc4
      · have hpos : 0 < m := by omega
        clear h0
        go_wp2_with fail
        refine (grow_Pts_some m w hpos (by omega)).mono ?_; rintro e w1 ⟨A1, c1, rfl, hown1, hbel1, hc1, hc2⟩
        have HO1 := Lib.hid hown1; have HB1 := Lib.hid hbel1; clear hown1 hbel1
        go_wp2_with fail
        go_loopw [6, 27] (fun v i wr => ∃ j' : Nat, j' ≤ j ∧ i = .int .i64 j' ∧ wr.ownsRow w.heap.size 28 2 v (ls.take j').flatten.length (pts (ls.take j').flatten) ∧ Below w.heap.size w wr) (fun _ i _ => j - (intOf i).toNat)
        case atStart => exact ⟨0, Nat.zero_le _, rfl, by simpa [pts] using HO1.out, HB1.out⟩
        case round =>
          obtain ⟨j', hj', rfl, hown, hbel⟩ := hrel
          have HBW := Lib.hid hbel; have hsz := hbel.size; clear hbel
          by_cases hlt2 : j' < j
          · obtain ⟨l, hl⟩ : ∃ l, ls[j']? = some l := ⟨_, List.getElem?_eq_getElem (by have := HL.out; omega)⟩
            obtain ⟨ad, A, n, c, rfl, h2, h3, h4, h5, h6, h7⟩ := (H.out.below HBW.out).2 j' l hl
            have hle : (ls.take j').flatten.length + n ≤ m := by
              have h8 := flat_lePts ls (j' + 1)
              rw [flat_takePts hl, List.length_append, HN.out] at h8
              omega
            have HFT := Lib.hid (flat_takePts hl); have HLM := Lib.hid (List.mem_of_getElem? hl)
            have HS := Lib.hid h4; have H5 := Lib.hid h5; clear hl h4 h5
            have HLO := Lib.hid hown.lt
            have HO := Lib.hid hown; clear hown
            generalize (ls.take j').flatten = F at *
            go_wp2_with (at_builtin; refine wpList_append_sees rfl (.tmp 31) (.tmp 32) 22 rfl w.heap.size 28 i0 (.agg #[.slice none 0 0, .int .i64 0]) 2 32 Try.underlying22 hi hz0 hz1 hz2 rfl (by decide) _ _ _ rfl HO.out w.heap.size A n _ (pts l) rfl HS.out (HOC.out _ HLM.out) (by unfold maxLen; omega) (by omega) (by omega) ?_)
            intro v' w2 hown hg
            have hb := HBW.out.grown hg (by omega) (fun g hg => (HLO.out g hg).1)
            have H1 := Lib.hid hown; have H2 := Lib.hid hb; clear hown hb hg
            go_wp2_with fail
            go_roundw
            case rel => exact ⟨j' + 1, by omega, by go_num, by rw [HFT.out, List.length_append, ← H5.out, pts_append]; exact H1.out, H2.out⟩
            case measure => simp [intOf]; omega
          · obtain rfl : j' = j := by omega
            obtain ⟨A2, c2, rfl, hc3, hc4⟩ := own_slice hown
            rw [List.take_of_length_le (by rw [HL.out]; exact Nat.le_refl _)] at hown hc3
            rw [HN.out] at hown hc3
            rw [List.take_of_length_le (by rw [HL.out]; exact Nat.le_refl _), HN.out]
            have HO := Lib.hid hown; clear hown
            go_wp2_with fail
            go_ret
            exact ownAns HO.out HBW.out rfl hc3 hc4
end Go.Proofs.Ytbndmmfpoljeaaa

namespace Go.Proofs.Ytbndmmfpoljeaaa
open Go.ChangeShapes Go.WideShapes Go.ChangeAt Go.RowKit
set_option linter.unusedVariables false
set_option linter.unusedSimpArgs false
set_option maxRecDepth 100000
theorem PtsAt.get2 {base n c : Nat} {A : Option Addr} {rows : List PtR} {w : World} (h : PtsAt base (.slice A n c) rows w) {k : Nat} (hk : k < rows.length) :
    ∃ ad, A = some ad ∧ w.cell? (ad.add (k * 2)) = some rows[k].sv ∧ w.cell? ⟨(ad.add (k * 2)).block, (ad.add (k * 2)).off + 1, none⟩ = some (.int .i64 rows[k].val) ∧ HasL w rows[k].sv rows[k].set := by
  have hr := h.own
  obtain ⟨_, _, e, _⟩ := own_slice hr
  injection e with _ e _; subst e
  obtain ⟨h0, h1⟩ := pts_get rows k hk
  obtain ⟨ad, e, _, hc⟩ := (Sees.of_own hr).at_ (by omega)
  subst e
  exact ⟨ad, rfl, hc _ _ h0, by rw [add_spelt _ _ _ (by omega)]; exact hc _ _ h1, (h.each _ (List.getElem_mem _)).hasL⟩
structure PtC (w0 : World) (ad ad2 : Addr) (k : Nat) (p q : PtR) (W : World) : Prop where
  a0 : W.cell? (ad.add (k * 2)) = some p.sv
  a1 : W.cell? ⟨(ad.add (k * 2)).block, (ad.add (k * 2)).off + 1, none⟩ = some (.int .i64 p.val)
  b0 : W.cell? (ad2.add (k * 2)) = some q.sv
  b1 : W.cell? ⟨(ad2.add (k * 2)).block, (ad2.add (k * 2)).off + 1, none⟩ = some (.int .i64 q.val)
  la : HasL W p.sv p.set
  lb : HasL W q.sv q.set
  bel : Below w0.heap.size w0 W
theorem PtC.below {w0 W W' : World} {ad ad2 : Addr} {k : Nat} {p q : PtR} (h : PtC w0 ad ad2 k p q W) (hb : Below W.heap.size W W') : PtC w0 ad ad2 k p q W' :=
  ⟨(hb.cell (World.block_lt_of_cell? W _ h.a0)).trans h.a0, (hb.cell (World.block_lt_of_cell? W _ h.a1)).trans h.a1, (hb.cell (World.block_lt_of_cell? W _ h.b0)).trans h.b0, (hb.cell (World.block_lt_of_cell? W _ h.b1)).trans h.b1, h.la.below hb, h.lb.below hb, h.bel.trans (hb.mono h.bel.size)⟩
theorem ptsOf_get {rows : List PtR} {k : Nat} (h : k < rows.length) : (ptsOf rows)[k]'(by simp [ptsOf]; exact h) = (rows[k].set, rows[k].val) := by simp [ptsOf]
theorem ptsOf_len (rows : List PtR) : (ptsOf rows).length = rows.length := by simp [ptsOf]
set_option maxHeartbeats 4000000 in
theorem points_any (b1 b2 : Nat) (A A2 : Option Addr) (c c2 : Nat) (r1 r2 : List PtR) (w : World) (h1 : PtsAt b1 (.slice A r1.length c) r1 w) (h2 : PtsAt b2 (.slice A2 r2.length c2) r2 w) :
    Calls Try.prog 12 #[.slice A r1.length c, .slice A2 r2.length c2] w fun e w' => e = .returned (.bool (decide (ptsOf r1 = ptsOf r2))) ∧ Below w.heap.size w w' := by
  have H1 : Hid (∀ V, Below w.heap.size w V → PtsAt b1 (.slice A r1.length c) r1 V) := Lib.hid fun V hV => h1.below hV
  have H2 : Hid (∀ V, Below w.heap.size w V → PtsAt b2 (.slice A2 r2.length c2) r2 V) := Lib.hid fun V hV => h2.below hV
  obtain ⟨Ax, cx, e1, hc1, hm1⟩ := own_slice h1.own
  injection e1 with eA _ ec
  obtain ⟨Ay, cy, e1, hc2, hm2⟩ := own_slice h2.own
  injection e1 with eB _ ed
  rw [← ec] at hc1 hm1
  rw [← ed] at hc2 hm2
  clear eA ec eB ed
  clear h1 h2
  obtain ⟨ans, hans⟩ : ∃ a, decide (ptsOf r1 = ptsOf r2) = a := ⟨_, rfl⟩
  rw [hans]
  have HANS := Lib.hid hans
  clear hans
  obtain ⟨n, hn⟩ : ∃ n, r1.length = n := ⟨_, rfl⟩
  obtain ⟨n2, hn2⟩ : ∃ n, r2.length = n := ⟨_, rfl⟩
  have HN := Lib.hid hn; have HN2 := Lib.hid hn2
  rw [hn] at H1 hc1 ⊢
  rw [hn2] at H2 hc2 ⊢
  clear hn hn2
  go_enter Try.func12, Try.ntmps12
  by_cases hnn : n = n2
  · subst hnn
    go_wp2_with fail
    go_loopg [13] n (fun gg x13 wr => ∃ k : Nat, k + gg = n ∧ x13 = .int .i64 k ∧ (ptsOf r1).take k = (ptsOf r2).take k ∧ Below w.heap.size w wr)
    case atStart => exact ⟨0, by omega, rfl, by simp, Below.refl _ _⟩
    case round =>
      obtain ⟨k, hkg, rfl, htk, hbel⟩ := hrel
      have HT := Lib.hid htk; have HB := Lib.hid hbel
      clear htk hbel
      cases gk with
      | zero =>
        obtain rfl : k = n := by omega
        have HR : Hid (ans = true) := Lib.hid (by
          rw [← HANS.out]
          refine decide_eq_true ?_
          have h := HT.out
          rwa [List.take_of_length_le (by rw [ptsOf_len, HN.out]; exact Nat.le_refl _), List.take_of_length_le (by rw [ptsOf_len, HN2.out]; exact Nat.le_refl _)] at h)
        go_wp2_with fail
        go_ret
        exact ⟨by rw [HR.out]; try rfl, HB.out⟩
      | succ gg =>
        have hlt : k < n := by omega
        have hk1 : k < r1.length := by rw [HN.out]; exact hlt
        have hk2 : k < r2.length := by rw [HN2.out]; exact hlt
        obtain ⟨ad, hA, a0, a1, la⟩ := (H1.out _ HB.out).get2 hk1
        obtain ⟨ad2, hA2, b0, b1, lb⟩ := (H2.out _ HB.out).get2 hk2
        subst hA; subst hA2
        have HC : Hid (PtC w ad ad2 k r1[k] r2[k] wr) := Lib.hid ⟨a0, a1, b0, b1, la, lb, HB.out⟩
        have HTK := Lib.hid (show (ptsOf r1).take (k + 1) = (ptsOf r1).take k ++ [(r1[k].set, r1[k].val)] by rw [List.take_succ_eq_append_getElem (by rw [ptsOf_len]; exact hk1), ptsOf_get hk1])
        have HTK2 := Lib.hid (show (ptsOf r2).take (k + 1) = (ptsOf r2).take k ++ [(r2[k].set, r2[k].val)] by rw [List.take_succ_eq_append_getElem (by rw [ptsOf_len]; exact hk2), ptsOf_get hk2])
        have HNE : Hid ((r1[k].set, r1[k].val) ≠ (r2[k].set, r2[k].val) → ans = false) := Lib.hid fun hne => by
          rw [← HANS.out]
          refine decide_eq_false fun e => hne ?_
          have h1 := ptsOf_get hk1; have h2 := ptsOf_get hk2
          rw [← h1, ← h2]; congr 1
        clear a0 a1 b0 b1 la lb
        generalize r1[k] = p at *
        generalize r2[k] = q at *
        obtain ⟨B1, d1, hq1⟩ := HC.out.la.form
        obtain ⟨B2, d2, hq2⟩ := HC.out.lb.form
        have HSAME : Hid (∀ V, PtC w ad ad2 k p q V → Calls Try.prog 26 #[p.sv, q.sv] V fun e w' => e = .returned (.bool (decide (p.set = q.set))) ∧ Below V.heap.size V w') := Lib.hid fun V hV => by
          have ha := hV.la; have hb := hV.lb
          rw [hq1] at ha ⊢; rw [hq2] at hb ⊢
          refine (same_lbl B1 B2 _ d1 _ d2 _ _ p.set q.set V ha.slice.1 hb.slice.1 (by have := ha.slice.2.2; omega) (by have := hb.slice.2.2; omega)).mono ?_
          rintro e w' ⟨rfl, m, rfl⟩
          exact ⟨rfl, below_drewN3 (Below.refl _ _) m⟩
        clear hq1 hq2
        have hi0 : (0 : Int) ≤ k := by omega
        have hi1 : (k : Int) < n := by omega
        cases hr : decide (p.set = q.set) with
        | true =>
          rw [hr] at HSAME
          have HEQ := Lib.hid (of_decide_eq_true hr)
          clear hr
          go_upto_region 6 with fail
          go_cut [40] (fun x40 wx => x40 = .bool (p.val != q.val) ∧ Below w.heap.size w wx)
          case first =>
            refine wp_region_facts (R := fun a b => Below a.heap.size a b) (G := (fun W => PtC w ad ad2 k p q W)) (V := fun i' u' W => match i' with | 0 => u' = .slice (some ad) n c | 1 => u' = .int .i64 k | 2 => u' = .pointer (some (ad.add (k * 2))) | 3 => u' = .pointer (some (ad.add (k * 2))) | 4 => u' = p.sv | 5 => u' = .slice (some ad2) n c2 | 6 => u' = .int .i64 k | 7 => u' = .pointer (some (ad2.add (k * 2))) | 8 => u' = .pointer (some (ad2.add (k * 2))) | 9 => u' = q.sv | 10 => u' = .bool true | 11 => u' = .bool false | 12 => u' = .bool false | 13 => u' = .slice (some ad) n c | 14 => u' = .int .i64 k | 15 => u' = .pointer (some (ad.add (k * 2))) | 16 => u' = .pointer (some ⟨(ad.add (k * 2)).block, (ad.add (k * 2)).off + 1, none⟩) | 17 => u' = .int .i64 p.val | 18 => u' = .slice (some ad2) n c2 | 19 => u' = .int .i64 k | 20 => u' = .pointer (some (ad2.add (k * 2))) | 21 => u' = .pointer (some ⟨(ad2.add (k * 2)).block, (ad2.add (k * 2)).off + 1, none⟩) | 22 => u' = .int .i64 q.val | 23 => u' = .bool (p.val != q.val) | 24 => u' = .bool (p.val != q.val) | _ => True) (by kernel_rfl) (fun w => Below.refl _ _) (fun a b c h1 h2 => h1.trans (h2.mono h1.size)) (by kernel_rfl) (by kernel_rfl) ?hG ⟨?o0, ?o1, ?o2, ?o3, ?o4, ?o5, ?o6, ?o7, ?o8, ?o9, ?o10, ?o11, ?o12, ?o13, ?o14, ?o15, ?o16, ?o17, ?o18, ?o19, ?o20, ?o21, ?o22, ?o23, ?o24, trivial⟩ ?hend
            case o0 =>
              intro a w hfr hG hd
              refine ⟨fun hw => ?_, fun hw => absurd hw (by simp [Region.wanted])⟩
              have s0 : a.tmps.getD 0 undef = .slice (some ad) n c := hfr.at 0 (by kernel_rfl)
              refine op_yields (.slice (some ad) n c) ?_ ?_ ?_
              · simp only [execOp, resolve, List.map_toArray, List.map_cons, List.map_nil, Act.eval, s0]; simp [go_sem, -Array.getD_eq_getD_getElem?, s0]
              · exact Below.refl _ _
              · exact (fun _ _ => rfl)
            case o1 =>
              intro a w hfr hG hd
              refine ⟨fun hw => ?_, fun hw => absurd hw (by simp [Region.wanted])⟩
              have s5 : a.tmps.getD 5 undef = .int .i64 k := hfr.at 5 (by kernel_rfl)
              refine op_yields (.int .i64 k) ?_ ?_ ?_
              · simp only [execOp, resolve, List.map_toArray, List.map_cons, List.map_nil, Act.eval, s5]; simp [go_sem, -Array.getD_eq_getD_getElem?, s5]
              · exact Below.refl _ _
              · exact (fun _ _ => rfl)
            case o2 =>
              intro a w hfr hG hd
              obtain ⟨d0, d1, _⟩ := hd
              refine ⟨fun hw => ?_, fun hw => absurd hw (by simp [Region.wanted])⟩
              have s16 : a.tmps.getD 16 undef = .slice (some ad) n c := (d0 rfl).now
              have s17 : a.tmps.getD 17 undef = .int .i64 k := (d1 rfl).now
              refine op_yields (.pointer (some (ad.add (k * 2)))) ?_ ?_ ?_
              · simp only [execOp, resolve, List.map_toArray, List.map_cons, List.map_nil, Act.eval, s16, s17]; simp [go_sem, -Array.getD_eq_getD_getElem?, s16, s17, hlt, hi0, hi1]
              · exact Below.refl _ _
              · exact (fun _ _ => rfl)
            case o3 =>
              intro a w hfr hG hd
              obtain ⟨d0, _⟩ := hd
              refine ⟨fun hw => ?_, fun hw => absurd hw (by simp [Region.wanted])⟩
              have s18 : a.tmps.getD 18 undef = .pointer (some (ad.add (k * 2))) := (d0 rfl).now
              refine op_yields (.pointer (some (ad.add (k * 2)))) ?_ ?_ ?_
              · simp only [execOp, resolve, List.map_toArray, List.map_cons, List.map_nil, Act.eval, s18]; simp [go_sem, -Array.getD_eq_getD_getElem?, s18]
              · exact Below.refl _ _
              · exact (fun _ _ => rfl)
            case o4 =>
              intro a w hfr hG hd
              obtain ⟨d0, _⟩ := hd
              refine ⟨fun hw => ?_, fun hw => absurd hw (by simp [Region.wanted])⟩
              have s19 : a.tmps.getD 19 undef = .pointer (some (ad.add (k * 2))) := (d0 rfl).now
              have z0 := hG.now.a0
              refine op_yields (p.sv) ?_ ?_ ?_
              · simp only [execOp, resolve, List.map_toArray, List.map_cons, List.map_nil, Act.eval, s19]; simp [go_sem, -Array.getD_eq_getD_getElem?, s19, z0]
              · exact Below.refl _ _
              · exact (fun _ _ => rfl)
            case o5 =>
              intro a w hfr hG hd
              refine ⟨fun hw => ?_, fun hw => absurd hw (by simp [Region.wanted])⟩
              have s1 : a.tmps.getD 1 undef = .slice (some ad2) n c2 := hfr.at 1 (by kernel_rfl)
              refine op_yields (.slice (some ad2) n c2) ?_ ?_ ?_
              · simp only [execOp, resolve, List.map_toArray, List.map_cons, List.map_nil, Act.eval, s1]; simp [go_sem, -Array.getD_eq_getD_getElem?, s1]
              · exact Below.refl _ _
              · exact (fun _ _ => rfl)
            case o6 =>
              intro a w hfr hG hd
              refine ⟨fun hw => ?_, fun hw => absurd hw (by simp [Region.wanted])⟩
              have s5 : a.tmps.getD 5 undef = .int .i64 k := hfr.at 5 (by kernel_rfl)
              refine op_yields (.int .i64 k) ?_ ?_ ?_
              · simp only [execOp, resolve, List.map_toArray, List.map_cons, List.map_nil, Act.eval, s5]; simp [go_sem, -Array.getD_eq_getD_getElem?, s5]
              · exact Below.refl _ _
              · exact (fun _ _ => rfl)
            case o7 =>
              intro a w hfr hG hd
              obtain ⟨d0, d1, _⟩ := hd
              refine ⟨fun hw => ?_, fun hw => absurd hw (by simp [Region.wanted])⟩
              have s21 : a.tmps.getD 21 undef = .slice (some ad2) n c2 := (d0 rfl).now
              have s22 : a.tmps.getD 22 undef = .int .i64 k := (d1 rfl).now
              refine op_yields (.pointer (some (ad2.add (k * 2)))) ?_ ?_ ?_
              · simp only [execOp, resolve, List.map_toArray, List.map_cons, List.map_nil, Act.eval, s21, s22]; simp [go_sem, -Array.getD_eq_getD_getElem?, s21, s22, hlt, hi0, hi1]
              · exact Below.refl _ _
              · exact (fun _ _ => rfl)
            case o8 =>
              intro a w hfr hG hd
              obtain ⟨d0, _⟩ := hd
              refine ⟨fun hw => ?_, fun hw => absurd hw (by simp [Region.wanted])⟩
              have s23 : a.tmps.getD 23 undef = .pointer (some (ad2.add (k * 2))) := (d0 rfl).now
              refine op_yields (.pointer (some (ad2.add (k * 2)))) ?_ ?_ ?_
              · simp only [execOp, resolve, List.map_toArray, List.map_cons, List.map_nil, Act.eval, s23]; simp [go_sem, -Array.getD_eq_getD_getElem?, s23]
              · exact Below.refl _ _
              · exact (fun _ _ => rfl)
            case o9 =>
              intro a w hfr hG hd
              obtain ⟨d0, _⟩ := hd
              refine ⟨fun hw => ?_, fun hw => absurd hw (by simp [Region.wanted])⟩
              have s24 : a.tmps.getD 24 undef = .pointer (some (ad2.add (k * 2))) := (d0 rfl).now
              have z0 := hG.now.b0
              refine op_yields (q.sv) ?_ ?_ ?_
              · simp only [execOp, resolve, List.map_toArray, List.map_cons, List.map_nil, Act.eval, s24]; simp [go_sem, -Array.getD_eq_getD_getElem?, s24, z0]
              · exact Below.refl _ _
              · exact (fun _ _ => rfl)
            case o10 =>
              intro a w hfr hG hd
              obtain ⟨d0, d1, _⟩ := hd
              refine ⟨fun hw => ?_, fun hw => absurd hw (by simp [Region.wanted])⟩
              have s20 : a.tmps.getD 20 undef = p.sv := (d0 rfl).now
              have s25 : a.tmps.getD 25 undef = q.sv := (d1 rfl).now
              refine op_calls2 ((HSAME.out w hG.now).mono fun e' w' hh => ⟨_, hh.1, hh.2, (fun _ _ => rfl)⟩) ?_
              simp only [execOp, resolve, List.map_toArray, List.map_cons, List.map_nil, Act.eval, s20, s25]; simp [go_sem, -Array.getD_eq_getD_getElem?, s20, s25]
            case o11 =>
              intro a w hfr hG hd
              obtain ⟨d0, _⟩ := hd
              refine ⟨fun hw => ?_, fun hw => absurd hw (by simp [Region.wanted])⟩
              have s26 : a.tmps.getD 26 undef = .bool true := (d0 rfl).now
              refine op_yields (.bool false) ?_ ?_ ?_
              · simp only [execOp, resolve, List.map_toArray, List.map_cons, List.map_nil, Act.eval, s26]; simp [go_sem, -Array.getD_eq_getD_getElem?, s26]
              · exact Below.refl _ _
              · exact (fun _ _ => rfl)
            case o12 =>
              intro a w hfr hG hd
              obtain ⟨d0, d1, _⟩ := hd
              refine ⟨fun hw => ?_, fun hw => absurd hw (by simp [Region.wanted])⟩
              have s27 : a.tmps.getD 27 undef = .bool false := (d0 rfl).now
              refine op_yields (.bool false) ?_ ?_ ?_
              · simp only [execOp, resolve, List.map_toArray, List.map_cons, List.map_nil, Act.eval, s27]; simp [go_sem, -Array.getD_eq_getD_getElem?, s27]
              · exact Below.refl _ _
              · exact (fun _ _ => rfl)
            case o13 =>
              intro a w hfr hG hd
              obtain ⟨d0, _⟩ := hd
              have sg : a.tmps.getD 28 undef = .bool false := (d0 rfl).now
              refine ⟨fun hw => ?_, fun hw => by rw [wanted_of rfl (yielded_of rfl sg)] at hw; exact absurd hw (by decide)⟩
              have s0 : a.tmps.getD 0 undef = .slice (some ad) n c := hfr.at 0 (by kernel_rfl)
              refine op_yields (.slice (some ad) n c) ?_ ?_ ?_
              · simp only [execOp, resolve, List.map_toArray, List.map_cons, List.map_nil, Act.eval, s0]; simp [go_sem, -Array.getD_eq_getD_getElem?, s0]
              · exact Below.refl _ _
              · exact (fun _ _ => rfl)
            case o14 =>
              intro a w hfr hG hd
              obtain ⟨d0, _⟩ := hd
              have sg : a.tmps.getD 28 undef = .bool false := (d0 rfl).now
              refine ⟨fun hw => ?_, fun hw => by rw [wanted_of rfl (yielded_of rfl sg)] at hw; exact absurd hw (by decide)⟩
              have s5 : a.tmps.getD 5 undef = .int .i64 k := hfr.at 5 (by kernel_rfl)
              refine op_yields (.int .i64 k) ?_ ?_ ?_
              · simp only [execOp, resolve, List.map_toArray, List.map_cons, List.map_nil, Act.eval, s5]; simp [go_sem, -Array.getD_eq_getD_getElem?, s5]
              · exact Below.refl _ _
              · exact (fun _ _ => rfl)
            case o15 =>
              intro a w hfr hG hd
              obtain ⟨d0, d1, d2, _⟩ := hd
              have sg : a.tmps.getD 28 undef = .bool false := (d2 rfl).now
              refine ⟨fun hw => ?_, fun hw => by rw [wanted_of rfl (yielded_of rfl sg)] at hw; exact absurd hw (by decide)⟩
              have s29 : a.tmps.getD 29 undef = .slice (some ad) n c := (d0 rfl).now
              have s30 : a.tmps.getD 30 undef = .int .i64 k := (d1 rfl).now
              refine op_yields (.pointer (some (ad.add (k * 2)))) ?_ ?_ ?_
              · simp only [execOp, resolve, List.map_toArray, List.map_cons, List.map_nil, Act.eval, s29, s30]; simp [go_sem, -Array.getD_eq_getD_getElem?, s29, s30, hlt, hi0, hi1]
              · exact Below.refl _ _
              · exact (fun _ _ => rfl)
            case o16 =>
              intro a w hfr hG hd
              obtain ⟨d0, d1, _⟩ := hd
              have sg : a.tmps.getD 28 undef = .bool false := (d1 rfl).now
              refine ⟨fun hw => ?_, fun hw => by rw [wanted_of rfl (yielded_of rfl sg)] at hw; exact absurd hw (by decide)⟩
              have s31 : a.tmps.getD 31 undef = .pointer (some (ad.add (k * 2))) := (d0 rfl).now
              refine op_yields (.pointer (some ⟨(ad.add (k * 2)).block, (ad.add (k * 2)).off + 1, none⟩)) ?_ ?_ ?_
              · simp only [execOp, resolve, List.map_toArray, List.map_cons, List.map_nil, Act.eval, s31]; simp [go_sem, -Array.getD_eq_getD_getElem?, s31]
              · exact Below.refl _ _
              · exact (fun _ _ => rfl)
            case o17 =>
              intro a w hfr hG hd
              obtain ⟨d0, d1, _⟩ := hd
              have sg : a.tmps.getD 28 undef = .bool false := (d1 rfl).now
              refine ⟨fun hw => ?_, fun hw => by rw [wanted_of rfl (yielded_of rfl sg)] at hw; exact absurd hw (by decide)⟩
              have s32 : a.tmps.getD 32 undef = .pointer (some ⟨(ad.add (k * 2)).block, (ad.add (k * 2)).off + 1, none⟩) := (d0 rfl).now
              have z0 := hG.now.a1
              refine op_yields (.int .i64 p.val) ?_ ?_ ?_
              · simp only [execOp, resolve, List.map_toArray, List.map_cons, List.map_nil, Act.eval, s32]; simp [go_sem, -Array.getD_eq_getD_getElem?, s32, z0]
              · exact Below.refl _ _
              · exact (fun _ _ => rfl)
            case o18 =>
              intro a w hfr hG hd
              obtain ⟨d0, _⟩ := hd
              have sg : a.tmps.getD 28 undef = .bool false := (d0 rfl).now
              refine ⟨fun hw => ?_, fun hw => by rw [wanted_of rfl (yielded_of rfl sg)] at hw; exact absurd hw (by decide)⟩
              have s1 : a.tmps.getD 1 undef = .slice (some ad2) n c2 := hfr.at 1 (by kernel_rfl)
              refine op_yields (.slice (some ad2) n c2) ?_ ?_ ?_
              · simp only [execOp, resolve, List.map_toArray, List.map_cons, List.map_nil, Act.eval, s1]; simp [go_sem, -Array.getD_eq_getD_getElem?, s1]
              · exact Below.refl _ _
              · exact (fun _ _ => rfl)
            case o19 =>
              intro a w hfr hG hd
              obtain ⟨d0, _⟩ := hd
              have sg : a.tmps.getD 28 undef = .bool false := (d0 rfl).now
              refine ⟨fun hw => ?_, fun hw => by rw [wanted_of rfl (yielded_of rfl sg)] at hw; exact absurd hw (by decide)⟩
              have s5 : a.tmps.getD 5 undef = .int .i64 k := hfr.at 5 (by kernel_rfl)
              refine op_yields (.int .i64 k) ?_ ?_ ?_
              · simp only [execOp, resolve, List.map_toArray, List.map_cons, List.map_nil, Act.eval, s5]; simp [go_sem, -Array.getD_eq_getD_getElem?, s5]
              · exact Below.refl _ _
              · exact (fun _ _ => rfl)
            case o20 =>
              intro a w hfr hG hd
              obtain ⟨d0, d1, d2, _⟩ := hd
              have sg : a.tmps.getD 28 undef = .bool false := (d2 rfl).now
              refine ⟨fun hw => ?_, fun hw => by rw [wanted_of rfl (yielded_of rfl sg)] at hw; exact absurd hw (by decide)⟩
              have s34 : a.tmps.getD 34 undef = .slice (some ad2) n c2 := (d0 rfl).now
              have s35 : a.tmps.getD 35 undef = .int .i64 k := (d1 rfl).now
              refine op_yields (.pointer (some (ad2.add (k * 2)))) ?_ ?_ ?_
              · simp only [execOp, resolve, List.map_toArray, List.map_cons, List.map_nil, Act.eval, s34, s35]; simp [go_sem, -Array.getD_eq_getD_getElem?, s34, s35, hlt, hi0, hi1]
              · exact Below.refl _ _
              · exact (fun _ _ => rfl)
            case o21 =>
              intro a w hfr hG hd
              obtain ⟨d0, d1, _⟩ := hd
              have sg : a.tmps.getD 28 undef = .bool false := (d1 rfl).now
              refine ⟨fun hw => ?_, fun hw => by rw [wanted_of rfl (yielded_of rfl sg)] at hw; exact absurd hw (by decide)⟩
              have s36 : a.tmps.getD 36 undef = .pointer (some (ad2.add (k * 2))) := (d0 rfl).now
              refine op_yields (.pointer (some ⟨(ad2.add (k * 2)).block, (ad2.add (k * 2)).off + 1, none⟩)) ?_ ?_ ?_
              · simp only [execOp, resolve, List.map_toArray, List.map_cons, List.map_nil, Act.eval, s36]; simp [go_sem, -Array.getD_eq_getD_getElem?, s36]
              · exact Below.refl _ _
              · exact (fun _ _ => rfl)
            case o22 =>
              intro a w hfr hG hd
              obtain ⟨d0, d1, _⟩ := hd
              have sg : a.tmps.getD 28 undef = .bool false := (d1 rfl).now
              refine ⟨fun hw => ?_, fun hw => by rw [wanted_of rfl (yielded_of rfl sg)] at hw; exact absurd hw (by decide)⟩
              have s37 : a.tmps.getD 37 undef = .pointer (some ⟨(ad2.add (k * 2)).block, (ad2.add (k * 2)).off + 1, none⟩) := (d0 rfl).now
              have z0 := hG.now.b1
              refine op_yields (.int .i64 q.val) ?_ ?_ ?_
              · simp only [execOp, resolve, List.map_toArray, List.map_cons, List.map_nil, Act.eval, s37]; simp [go_sem, -Array.getD_eq_getD_getElem?, s37, z0]
              · exact Below.refl _ _
              · exact (fun _ _ => rfl)
            case o23 =>
              intro a w hfr hG hd
              obtain ⟨d0, d1, d2, _⟩ := hd
              have sg : a.tmps.getD 28 undef = .bool false := (d2 rfl).now
              refine ⟨fun hw => ?_, fun hw => by rw [wanted_of rfl (yielded_of rfl sg)] at hw; exact absurd hw (by decide)⟩
              have s33 : a.tmps.getD 33 undef = .int .i64 p.val := (d0 rfl).now
              have s38 : a.tmps.getD 38 undef = .int .i64 q.val := (d1 rfl).now
              refine op_yields (.bool (p.val != q.val)) ?_ ?_ ?_
              · simp only [execOp, resolve, List.map_toArray, List.map_cons, List.map_nil, Act.eval, s33, s38]; simp [go_sem, -Array.getD_eq_getD_getElem?, s33, s38]
              · exact Below.refl _ _
              · exact (fun _ _ => rfl)
            case o24 =>
              intro a w hfr hG hd
              obtain ⟨d0, d1, _⟩ := hd
              refine ⟨fun hw => ?_, fun hw => absurd hw (by simp [Region.wanted])⟩
              have s28 : a.tmps.getD 28 undef = .bool false := (d0 rfl).now
              have s39 : a.tmps.getD 39 undef = .bool (p.val != q.val) := (d1 rfl).now
              refine op_yields (.bool (p.val != q.val)) ?_ ?_ ?_
              · simp only [execOp, resolve, List.map_toArray, List.map_cons, List.map_nil, Act.eval, s28, s39]; simp [go_sem, -Array.getD_eq_getD_getElem?, s28, s39]
              · exact Below.refl _ _
              · exact (fun _ _ => rfl)
            case hG => exact fun w' hb => HC.out.below ((Below.refl _ _).drew.trans (hb.mono (by simp)))
            case hend =>
              intro vs w' hG hv
              have key : vs 24 = .bool (p.val != q.val) := by
                obtain ⟨_, _, _, _, _, _, _, _, _, _, _, _, _, _, _, _, _, _, _, _, _, _, _, _, h24, _⟩ := hv
                exact h24.now
              have HG := Lib.hid hG.now
              clear hv hG
              simp only [putAll, Act.put, key]
              clear key
              go_simp
              go_wp2_with fail
              go_meet
              exact ⟨rfl, HG.out.bel⟩
          case rest =>
            obtain ⟨rfl, hb⟩ := hcut
            have HB2 := Lib.hid hb
            clear hb HC HSAME
            by_cases hv : p.val = q.val
            · have hvb : (p.val != q.val) = false := by simp [hv]
              have HN3 := Lib.hid (show (ptsOf r1).take (k + 1) = (ptsOf r2).take (k + 1) by rw [HTK.out, HTK2.out, HT.out, HEQ.out, hv])
              rw [hvb]
              clear hvb hv HNE
              go_wp2_with fail
              go_roundg gg
              case measure => omega
              case rel => exact ⟨k + 1, by omega, by go_num, HN3.out, HB2.out⟩
            · have hvb : (p.val != q.val) = true := by simp [hv]
              have HR : Hid (ans = false) := Lib.hid (HNE.out fun e => hv (by injection e))
              rw [hvb]
              clear hvb HNE
              go_wp2_with fail
              go_ret
              exact ⟨by rw [HR.out]; try rfl, HB2.out⟩
        | false =>
          rw [hr] at HSAME
          have HR : Hid (ans = false) := Lib.hid (HNE.out fun e => of_decide_eq_false hr (by injection e))
          clear hr HNE
          go_upto_region 6 with fail
          go_cut [40] (fun x40 wx => x40 = .bool (true) ∧ Below w.heap.size w wx)
          case first =>
            refine wp_region_facts (R := fun a b => Below a.heap.size a b) (G := (fun W => PtC w ad ad2 k p q W)) (V := fun i' u' W => match i' with | 0 => u' = .slice (some ad) n c | 1 => u' = .int .i64 k | 2 => u' = .pointer (some (ad.add (k * 2))) | 3 => u' = .pointer (some (ad.add (k * 2))) | 4 => u' = p.sv | 5 => u' = .slice (some ad2) n c2 | 6 => u' = .int .i64 k | 7 => u' = .pointer (some (ad2.add (k * 2))) | 8 => u' = .pointer (some (ad2.add (k * 2))) | 9 => u' = q.sv | 10 => u' = .bool false | 11 => u' = .bool true | 12 => u' = .bool true | 13 => True | 14 => True | 15 => True | 16 => True | 17 => True | 18 => True | 19 => True | 20 => True | 21 => True | 22 => True | 23 => True | 24 => u' = .bool true | _ => True) (by kernel_rfl) (fun w => Below.refl _ _) (fun a b c h1 h2 => h1.trans (h2.mono h1.size)) (by kernel_rfl) (by kernel_rfl) ?hG ⟨?o0, ?o1, ?o2, ?o3, ?o4, ?o5, ?o6, ?o7, ?o8, ?o9, ?o10, ?o11, ?o12, ?o13, ?o14, ?o15, ?o16, ?o17, ?o18, ?o19, ?o20, ?o21, ?o22, ?o23, ?o24, trivial⟩ ?hend
            case o0 =>
              intro a w hfr hG hd
              refine ⟨fun hw => ?_, fun hw => absurd hw (by simp [Region.wanted])⟩
              have s0 : a.tmps.getD 0 undef = .slice (some ad) n c := hfr.at 0 (by kernel_rfl)
              refine op_yields (.slice (some ad) n c) ?_ ?_ ?_
              · simp only [execOp, resolve, List.map_toArray, List.map_cons, List.map_nil, Act.eval, s0]; simp [go_sem, -Array.getD_eq_getD_getElem?, s0]
              · exact Below.refl _ _
              · exact (fun _ _ => rfl)
            case o1 =>
              intro a w hfr hG hd
              refine ⟨fun hw => ?_, fun hw => absurd hw (by simp [Region.wanted])⟩
              have s5 : a.tmps.getD 5 undef = .int .i64 k := hfr.at 5 (by kernel_rfl)
              refine op_yields (.int .i64 k) ?_ ?_ ?_
              · simp only [execOp, resolve, List.map_toArray, List.map_cons, List.map_nil, Act.eval, s5]; simp [go_sem, -Array.getD_eq_getD_getElem?, s5]
              · exact Below.refl _ _
              · exact (fun _ _ => rfl)
            case o2 =>
              intro a w hfr hG hd
              obtain ⟨d0, d1, _⟩ := hd
              refine ⟨fun hw => ?_, fun hw => absurd hw (by simp [Region.wanted])⟩
              have s16 : a.tmps.getD 16 undef = .slice (some ad) n c := (d0 rfl).now
              have s17 : a.tmps.getD 17 undef = .int .i64 k := (d1 rfl).now
              refine op_yields (.pointer (some (ad.add (k * 2)))) ?_ ?_ ?_
              · simp only [execOp, resolve, List.map_toArray, List.map_cons, List.map_nil, Act.eval, s16, s17]; simp [go_sem, -Array.getD_eq_getD_getElem?, s16, s17, hlt, hi0, hi1]
              · exact Below.refl _ _
              · exact (fun _ _ => rfl)
            case o3 =>
              intro a w hfr hG hd
              obtain ⟨d0, _⟩ := hd
              refine ⟨fun hw => ?_, fun hw => absurd hw (by simp [Region.wanted])⟩
              have s18 : a.tmps.getD 18 undef = .pointer (some (ad.add (k * 2))) := (d0 rfl).now
              refine op_yields (.pointer (some (ad.add (k * 2)))) ?_ ?_ ?_
              · simp only [execOp, resolve, List.map_toArray, List.map_cons, List.map_nil, Act.eval, s18]; simp [go_sem, -Array.getD_eq_getD_getElem?, s18]
              · exact Below.refl _ _
              · exact (fun _ _ => rfl)
            case o4 =>
              intro a w hfr hG hd
              obtain ⟨d0, _⟩ := hd
              refine ⟨fun hw => ?_, fun hw => absurd hw (by simp [Region.wanted])⟩
              have s19 : a.tmps.getD 19 undef = .pointer (some (ad.add (k * 2))) := (d0 rfl).now
              have z0 := hG.now.a0
              refine op_yields (p.sv) ?_ ?_ ?_
              · simp only [execOp, resolve, List.map_toArray, List.map_cons, List.map_nil, Act.eval, s19]; simp [go_sem, -Array.getD_eq_getD_getElem?, s19, z0]
              · exact Below.refl _ _
              · exact (fun _ _ => rfl)
            case o5 =>
              intro a w hfr hG hd
              refine ⟨fun hw => ?_, fun hw => absurd hw (by simp [Region.wanted])⟩
              have s1 : a.tmps.getD 1 undef = .slice (some ad2) n c2 := hfr.at 1 (by kernel_rfl)
              refine op_yields (.slice (some ad2) n c2) ?_ ?_ ?_
              · simp only [execOp, resolve, List.map_toArray, List.map_cons, List.map_nil, Act.eval, s1]; simp [go_sem, -Array.getD_eq_getD_getElem?, s1]
              · exact Below.refl _ _
              · exact (fun _ _ => rfl)
            case o6 =>
              intro a w hfr hG hd
              refine ⟨fun hw => ?_, fun hw => absurd hw (by simp [Region.wanted])⟩
              have s5 : a.tmps.getD 5 undef = .int .i64 k := hfr.at 5 (by kernel_rfl)
              refine op_yields (.int .i64 k) ?_ ?_ ?_
              · simp only [execOp, resolve, List.map_toArray, List.map_cons, List.map_nil, Act.eval, s5]; simp [go_sem, -Array.getD_eq_getD_getElem?, s5]
              · exact Below.refl _ _
              · exact (fun _ _ => rfl)
            case o7 =>
              intro a w hfr hG hd
              obtain ⟨d0, d1, _⟩ := hd
              refine ⟨fun hw => ?_, fun hw => absurd hw (by simp [Region.wanted])⟩
              have s21 : a.tmps.getD 21 undef = .slice (some ad2) n c2 := (d0 rfl).now
              have s22 : a.tmps.getD 22 undef = .int .i64 k := (d1 rfl).now
              refine op_yields (.pointer (some (ad2.add (k * 2)))) ?_ ?_ ?_
              · simp only [execOp, resolve, List.map_toArray, List.map_cons, List.map_nil, Act.eval, s21, s22]; simp [go_sem, -Array.getD_eq_getD_getElem?, s21, s22, hlt, hi0, hi1]
              · exact Below.refl _ _
              · exact (fun _ _ => rfl)
            case o8 =>
              intro a w hfr hG hd
              obtain ⟨d0, _⟩ := hd
              refine ⟨fun hw => ?_, fun hw => absurd hw (by simp [Region.wanted])⟩
              have s23 : a.tmps.getD 23 undef = .pointer (some (ad2.add (k * 2))) := (d0 rfl).now
              refine op_yields (.pointer (some (ad2.add (k * 2)))) ?_ ?_ ?_
              · simp only [execOp, resolve, List.map_toArray, List.map_cons, List.map_nil, Act.eval, s23]; simp [go_sem, -Array.getD_eq_getD_getElem?, s23]
              · exact Below.refl _ _
              · exact (fun _ _ => rfl)
            case o9 =>
              intro a w hfr hG hd
              obtain ⟨d0, _⟩ := hd
              refine ⟨fun hw => ?_, fun hw => absurd hw (by simp [Region.wanted])⟩
              have s24 : a.tmps.getD 24 undef = .pointer (some (ad2.add (k * 2))) := (d0 rfl).now
              have z0 := hG.now.b0
              refine op_yields (q.sv) ?_ ?_ ?_
              · simp only [execOp, resolve, List.map_toArray, List.map_cons, List.map_nil, Act.eval, s24]; simp [go_sem, -Array.getD_eq_getD_getElem?, s24, z0]
              · exact Below.refl _ _
              · exact (fun _ _ => rfl)
            case o10 =>
              intro a w hfr hG hd
              obtain ⟨d0, d1, _⟩ := hd
              refine ⟨fun hw => ?_, fun hw => absurd hw (by simp [Region.wanted])⟩
              have s20 : a.tmps.getD 20 undef = p.sv := (d0 rfl).now
              have s25 : a.tmps.getD 25 undef = q.sv := (d1 rfl).now
              refine op_calls2 ((HSAME.out w hG.now).mono fun e' w' hh => ⟨_, hh.1, hh.2, (fun _ _ => rfl)⟩) ?_
              simp only [execOp, resolve, List.map_toArray, List.map_cons, List.map_nil, Act.eval, s20, s25]; simp [go_sem, -Array.getD_eq_getD_getElem?, s20, s25]
            case o11 =>
              intro a w hfr hG hd
              obtain ⟨d0, _⟩ := hd
              refine ⟨fun hw => ?_, fun hw => absurd hw (by simp [Region.wanted])⟩
              have s26 : a.tmps.getD 26 undef = .bool false := (d0 rfl).now
              refine op_yields (.bool true) ?_ ?_ ?_
              · simp only [execOp, resolve, List.map_toArray, List.map_cons, List.map_nil, Act.eval, s26]; simp [go_sem, -Array.getD_eq_getD_getElem?, s26]
              · exact Below.refl _ _
              · exact (fun _ _ => rfl)
            case o12 =>
              intro a w hfr hG hd
              obtain ⟨d0, d1, _⟩ := hd
              refine ⟨fun hw => ?_, fun hw => absurd hw (by simp [Region.wanted])⟩
              have s27 : a.tmps.getD 27 undef = .bool true := (d0 rfl).now
              refine op_yields (.bool true) ?_ ?_ ?_
              · simp only [execOp, resolve, List.map_toArray, List.map_cons, List.map_nil, Act.eval, s27]; simp [go_sem, -Array.getD_eq_getD_getElem?, s27]
              · exact Below.refl _ _
              · exact (fun _ _ => rfl)
            case o13 =>
              intro a w hfr hG hd
              obtain ⟨d0, _⟩ := hd
              have sg : a.tmps.getD 28 undef = .bool true := (d0 rfl).now
              refine ⟨fun hw => ?_, fun hw => fun _ _ => trivial⟩
              rw [wanted_of rfl (yielded_of rfl sg)] at hw; exact absurd hw (by decide)
            case o14 =>
              intro a w hfr hG hd
              obtain ⟨d0, _⟩ := hd
              have sg : a.tmps.getD 28 undef = .bool true := (d0 rfl).now
              refine ⟨fun hw => ?_, fun hw => fun _ _ => trivial⟩
              rw [wanted_of rfl (yielded_of rfl sg)] at hw; exact absurd hw (by decide)
            case o15 =>
              intro a w hfr hG hd
              obtain ⟨d0, d1, d2, _⟩ := hd
              have sg : a.tmps.getD 28 undef = .bool true := (d2 rfl).now
              refine ⟨fun hw => ?_, fun hw => fun _ _ => trivial⟩
              rw [wanted_of rfl (yielded_of rfl sg)] at hw; exact absurd hw (by decide)
            case o16 =>
              intro a w hfr hG hd
              obtain ⟨d0, d1, _⟩ := hd
              have sg : a.tmps.getD 28 undef = .bool true := (d1 rfl).now
              refine ⟨fun hw => ?_, fun hw => fun _ _ => trivial⟩
              rw [wanted_of rfl (yielded_of rfl sg)] at hw; exact absurd hw (by decide)
            case o17 =>
              intro a w hfr hG hd
              obtain ⟨d0, d1, _⟩ := hd
              have sg : a.tmps.getD 28 undef = .bool true := (d1 rfl).now
              refine ⟨fun hw => ?_, fun hw => fun _ _ => trivial⟩
              rw [wanted_of rfl (yielded_of rfl sg)] at hw; exact absurd hw (by decide)
            case o18 =>
              intro a w hfr hG hd
              obtain ⟨d0, _⟩ := hd
              have sg : a.tmps.getD 28 undef = .bool true := (d0 rfl).now
              refine ⟨fun hw => ?_, fun hw => fun _ _ => trivial⟩
              rw [wanted_of rfl (yielded_of rfl sg)] at hw; exact absurd hw (by decide)
            case o19 =>
              intro a w hfr hG hd
              obtain ⟨d0, _⟩ := hd
              have sg : a.tmps.getD 28 undef = .bool true := (d0 rfl).now
              refine ⟨fun hw => ?_, fun hw => fun _ _ => trivial⟩
              rw [wanted_of rfl (yielded_of rfl sg)] at hw; exact absurd hw (by decide)
            case o20 =>
              intro a w hfr hG hd
              obtain ⟨d0, d1, d2, _⟩ := hd
              have sg : a.tmps.getD 28 undef = .bool true := (d2 rfl).now
              refine ⟨fun hw => ?_, fun hw => fun _ _ => trivial⟩
              rw [wanted_of rfl (yielded_of rfl sg)] at hw; exact absurd hw (by decide)
            case o21 =>
              intro a w hfr hG hd
              obtain ⟨d0, d1, _⟩ := hd
              have sg : a.tmps.getD 28 undef = .bool true := (d1 rfl).now
              refine ⟨fun hw => ?_, fun hw => fun _ _ => trivial⟩
              rw [wanted_of rfl (yielded_of rfl sg)] at hw; exact absurd hw (by decide)
            case o22 =>
              intro a w hfr hG hd
              obtain ⟨d0, d1, _⟩ := hd
              have sg : a.tmps.getD 28 undef = .bool true := (d1 rfl).now
              refine ⟨fun hw => ?_, fun hw => fun _ _ => trivial⟩
              rw [wanted_of rfl (yielded_of rfl sg)] at hw; exact absurd hw (by decide)
            case o23 =>
              intro a w hfr hG hd
              obtain ⟨d0, d1, d2, _⟩ := hd
              have sg : a.tmps.getD 28 undef = .bool true := (d2 rfl).now
              refine ⟨fun hw => ?_, fun hw => fun _ _ => trivial⟩
              rw [wanted_of rfl (yielded_of rfl sg)] at hw; exact absurd hw (by decide)
            case o24 =>
              intro a w hfr hG hd
              obtain ⟨d0, d1, _⟩ := hd
              refine ⟨fun hw => ?_, fun hw => absurd hw (by simp [Region.wanted])⟩
              have s28 : a.tmps.getD 28 undef = .bool true := (d0 rfl).now
              refine op_yields (.bool true) ?_ ?_ ?_
              · simp only [execOp, resolve, List.map_toArray, List.map_cons, List.map_nil, Act.eval, s28]; simp [go_sem, -Array.getD_eq_getD_getElem?, s28]
              · exact Below.refl _ _
              · exact (fun _ _ => rfl)
            case hG => exact fun w' hb => HC.out.below ((Below.refl _ _).drew.trans (hb.mono (by simp)))
            case hend =>
              intro vs w' hG hv
              have key : vs 24 = .bool (true) := by
                obtain ⟨_, _, _, _, _, _, _, _, _, _, _, _, _, _, _, _, _, _, _, _, _, _, _, _, h24, _⟩ := hv
                exact h24.now
              have HG := Lib.hid hG.now
              clear hv hG
              simp only [putAll, Act.put, key]
              clear key
              go_simp
              go_wp2_with fail
              go_meet
              exact ⟨rfl, HG.out.bel⟩
          case rest =>
            obtain ⟨rfl, hb⟩ := hcut
            have HB2 := Lib.hid hb
            clear hb HC HSAME
            go_wp2_with fail
            go_ret
            exact ⟨by rw [HR.out]; try rfl, HB2.out⟩
  · have HR : Hid (ans = false) := Lib.hid (by
      rw [← HANS.out]
      refine decide_eq_false fun e => hnn ?_
      have := congrArg List.length e
      rwa [ptsOf_len, ptsOf_len, HN.out, HN2.out] at this)
    have hb : ((n : Int) == (n2 : Int)) = false := beq_eq_false_iff_ne.2 (by omega)
    have hb2 : ((n : Int) != (n2 : Int)) = true := by simp; omega
    go_wp2_with fail
    go_ret
    exact ⟨by rw [HR.out]; try rfl, Below.refl _ _⟩
end Go.Proofs.Ytbndmmfpoljeaaa
