/- Texts, merged in one. -/
import Derived.Test.YtlmakdclebbbkaaGreatBase5
namespace Go.Proofs.YtlmakdclebbbkaaGreat
set_option linter.unusedVariables false
/-- Where x goes in pre, from the back. -/
def insAtK {α : Type} (key : α → List UInt8) (pre : List α) (x : α) : Nat → Nat
  | 0 => 0
  | j + 1 => if (pre[j]?.map fun y => Op.bytesLess (key x) (key y)) = some true then insAtK key pre x j else j + 1
theorem insAt_le {α : Type} (key : α → List UInt8) (pre : List α) (x : α) : ∀ j, insAtK key pre x j ≤ j
  | 0 => Nat.le_refl _
  | j + 1 => by unfold insAtK; split; exact Nat.le_succ_of_le (insAt_le key pre x j); exact Nat.le_refl _
def insK {α : Type} (key : α → List UInt8) (pre : List α) (x : α) : List α := pre.take (insAtK key pre x pre.length) ++ x :: pre.drop (insAtK key pre x pre.length)
def sortK {α : Type} (key : α → List UInt8) (l : List α) : List α := l.foldl (insK key) []
theorem sortK_snoc {α : Type} (key : α → List UInt8) (l : List α) (x : α) : sortK key (l ++ [x]) = insK key (sortK key l) x := by unfold sortK; rw [List.foldl_append]; rfl
theorem sortK_next {α : Type} (key : α → List UInt8) (l : List α) {k : Nat} (h : k < l.length) : sortK key (l.take (k + 1)) = insK key (sortK key (l.take k)) l[k] := by
  rw [List.take_succ_eq_append_getElem h, sortK_snoc]
theorem insK_perm {α : Type} (key : α → List UInt8) (pre : List α) (x : α) : (insK key pre x).Perm (x :: pre) := by
  unfold insK
  refine List.perm_middle.trans ?_
  rw [List.take_append_drop]
theorem list_snoc_ind {α : Type} {P : List α → Prop} (h0 : P []) (h1 : ∀ l x, P l → P (l ++ [x])) (l : List α) : P l := by
  have key : ∀ n, ∀ l : List α, l.length = n → P l := by
    intro n
    induction n with
    | zero => intro l h; rw [List.eq_nil_of_length_eq_zero h]; exact h0
    | succ n ih =>
      intro l h
      have e : l = l.take n ++ [l[n]] := by
        rw [← List.take_succ_eq_append_getElem (by omega), List.take_of_length_le (by omega)]
      rw [e]
      exact h1 _ _ (ih _ (by rw [List.length_take]; omega))
  exact key _ l rfl
theorem sortK_perm {α : Type} (key : α → List UInt8) (l : List α) : (sortK key l).Perm l := by
  induction l using list_snoc_ind with
  | h0 => exact List.Perm.refl _
  | h1 l x ih =>
    rw [sortK_snoc]
    refine (insK_perm key _ x).trans ?_
    exact (List.Perm.cons x ih).trans (by simpa using (List.perm_append_comm (l₁ := [x]) (l₂ := l)))
theorem sortK_length {α : Type} (key : α → List UInt8) (l : List α) : (sortK key l).length = l.length := (sortK_perm key l).length_eq
theorem sortK_mem {α : Type} (key : α → List UInt8) (l : List α) (x : α) : x ∈ sortK key l ↔ x ∈ l := (sortK_perm key l).mem_iff
/-- Not behind one another. -/
def LeK {α : Type} (key : α → List UInt8) (a b : α) : Prop := Op.bytesLess (key b) (key a) = false
theorem leK_trans {α : Type} {key : α → List UInt8} {a b c : α} (h : LeK key a b) (k : LeK key b c) : LeK key a c := by
  unfold LeK at *
  cases e : Op.bytesLess (key c) (key a) with
  | false => rfl
  | true =>
    by_cases hab : key a = key b
    · rw [← hab] at k; rw [e] at k; cases k
    · rcases cmp_ne hab with h1 | h1
      · rw [less_trans e h1] at k; cases k
      · rw [h1] at h; cases h
theorem leK_total {α : Type} (key : α → List UInt8) (a b : α) : LeK key a b ∨ LeK key b a := by
  unfold LeK
  cases e : Op.bytesLess (key b) (key a) with
  | false => exact .inl rfl
  | true => exact .inr (less_asymm e)
theorem insAt_mid {α : Type} (key : α → List UInt8) (pre : List α) (x : α) : ∀ j, j ≤ pre.length → (∀ p, insAtK key pre x j ≤ p → p < j → ∀ y, pre[p]? = some y → Op.bytesLess (key x) (key y) = true) ∧ (∀ y, 0 < insAtK key pre x j → pre[insAtK key pre x j - 1]? = some y → Op.bytesLess (key x) (key y) = false)
  | 0, _ => ⟨fun p _ h => absurd h (Nat.not_lt_zero _), fun y h => absurd h (by simp [insAtK])⟩
  | j + 1, hj => by
    have ih := insAt_mid key pre x j (by omega)
    have hg : pre[j]? = some pre[j] := List.getElem?_eq_getElem (by omega)
    unfold insAtK
    by_cases h : (pre[j]?.map fun y => Op.bytesLess (key x) (key y)) = some true
    · rw [if_pos h]
      refine ⟨fun p h1 h2 y hy => ?_, ih.2⟩
      by_cases hp : p = j
      · subst hp; rw [hy] at h; simpa using h
      · exact ih.1 p h1 (by omega) y hy
    · rw [if_neg h]
      refine ⟨fun p h1 h2 => absurd h2 (by omega), fun y _ hy => ?_⟩
      rw [Nat.add_sub_cancel] at hy
      rw [hy] at h
      cases e : Op.bytesLess (key x) (key y) with
      | false => rfl
      | true => exact absurd (by simp [e]) h
theorem insK_sorted {α : Type} (key : α → List UInt8) (pre : List α) (x : α) (h : pre.Pairwise (LeK key)) : (insK key pre x).Pairwise (LeK key) := by
  unfold insK
  obtain ⟨h1, h2⟩ := insAt_mid key pre x pre.length (Nat.le_refl _)
  have hle := insAt_le key pre x pre.length
  generalize insAtK key pre x pre.length = j at *
  have hs : pre.take j ++ pre.drop j = pre := List.take_append_drop j pre
  have hp := h
  rw [← hs, List.pairwise_append] at hp
  obtain ⟨p1, p2, p3⟩ := hp
  have hx1 : ∀ a ∈ pre.take j, LeK key a x := by
    intro a ha
    by_cases h0 : j = 0
    · subst h0; simp at ha
    · have hlt : j - 1 < pre.length := by omega
      have hl : LeK key pre[j - 1] x := h2 _ (by omega) (List.getElem?_eq_getElem hlt)
      obtain ⟨q, hq, rfl⟩ := List.getElem_of_mem ha
      rw [List.length_take] at hq
      rw [List.getElem_take]
      by_cases he : q = j - 1
      · subst he; exact hl
      · exact leK_trans (List.pairwise_iff_getElem.1 h q (j - 1) (by omega) hlt (by omega)) hl
  have hx2 : ∀ b ∈ pre.drop j, LeK key x b := by
    intro b hb
    obtain ⟨q, hq, rfl⟩ := List.getElem_of_mem hb
    rw [List.length_drop] at hq
    rw [List.getElem_drop]
    exact less_asymm (h1 (j + q) (by omega) (by omega) _ (List.getElem?_eq_getElem (by omega)))
  rw [List.pairwise_append, List.pairwise_cons]
  refine ⟨p1, ⟨hx2, p2⟩, fun a ha b hb => ?_⟩
  rcases List.mem_cons.1 hb with rfl | hb
  · exact hx1 a ha
  · exact p3 a ha b hb
theorem sortK_sorted {α : Type} (key : α → List UInt8) (l : List α) : (sortK key l).Pairwise (LeK key) := by
  induction l using list_snoc_ind with
  | h0 => exact List.Pairwise.nil
  | h1 l x ih => rw [sortK_snoc]; exact insK_sorted key _ x ih
theorem leK_eq {α : Type} {key : α → List UInt8} {a b : α} (h : LeK key a b) (k : LeK key b a) : key a = key b := by
  by_cases e : key a = key b
  · exact e
  · rcases cmp_ne e with h1 | h1
    · unfold LeK at k; rw [h1] at k; cases k
    · unfold LeK at h; rw [h1] at h; cases h
/-- A sorted list stays as it is. -/
theorem insK_last {α : Type} (key : α → List UInt8) (pre : List α) (x : α) (h : ∀ y ∈ pre, LeK key y x) : insK key pre x = pre ++ [x] := by
  have hj : insAtK key pre x pre.length = pre.length := by
    cases e : pre.length with
    | zero => rfl
    | succ j =>
      unfold insAtK
      rw [List.getElem?_eq_getElem (by omega)]
      have := h pre[j] (List.getElem_mem _)
      unfold LeK at this
      simp [this]
  unfold insK
  rw [hj]; simp
theorem sortK_self {α : Type} (key : α → List UInt8) (l : List α) (h : l.Pairwise (LeK key)) : sortK key l = l := by
  induction l using list_snoc_ind with
  | h0 => rfl
  | h1 l x ih =>
    rw [List.pairwise_append] at h
    rw [sortK_snoc, ih h.1, insK_last key l x (fun y hy => h.2.2 y hy x (List.mem_singleton.2 rfl))]
theorem insAt_map {α β : Type} (f : α → β) (key : β → List UInt8) (pre : List α) (x : α) : ∀ j, insAtK key (pre.map f) (f x) j = insAtK (fun a => key (f a)) pre x j
  | 0 => rfl
  | j + 1 => by
    unfold insAtK
    rw [insAt_map f key pre x j, List.getElem?_map, Option.map_map]
    rfl
theorem insK_map {α β : Type} (f : α → β) (key : β → List UInt8) (pre : List α) (x : α) : insK key (pre.map f) (f x) = (insK (fun a => key (f a)) pre x).map f := by
  unfold insK
  rw [List.length_map, insAt_map]
  simp
theorem sortK_map {α β : Type} (f : α → β) (key : β → List UInt8) (l : List α) : sortK key (l.map f) = (sortK (fun a => key (f a)) l).map f := by
  induction l using list_snoc_ind with
  | h0 => rfl
  | h1 l x ih => rw [List.map_append, List.map_singleton, sortK_snoc, sortK_snoc, ih, insK_map]
end Go.Proofs.YtlmakdclebbbkaaGreat

namespace Go.Proofs.YtlmakdclebbbkaaGreat
set_option linter.unusedVariables false
section
variable {α : Type} {key : α → List UInt8}
def ofT (key : α → List UInt8) (t : List UInt8) (l : List α) : List α := l.filter fun x => decide (key x = t)
theorem ofT_append (t : List UInt8) (a b : List α) : ofT key t (a ++ b) = ofT key t a ++ ofT key t b := List.filter_append _ _
theorem ofT_nil {t : List UInt8} {l : List α} (h : ∀ x ∈ l, key x ≠ t) : ofT key t l = [] := List.filter_eq_nil_iff.2 fun x hx => by simpa using h x hx
theorem lessT_ne {a b : List UInt8} (h : Op.bytesLess a b = true) : a ≠ b := fun e => by rw [e, less_irrefl] at h; cases h
theorem insK_ofT (t : List UInt8) (pre : List α) (x : α) (h : pre.Pairwise (LeK key)) : ofT key t (insK key pre x) = ofT key t (pre ++ [x]) := by
  obtain ⟨h1, _⟩ := insAt_mid key pre x pre.length (Nat.le_refl _)
  unfold insK
  obtain ⟨j, hj⟩ : ∃ j, insAtK key pre x pre.length = j := ⟨_, rfl⟩
  rw [hj] at h1 ⊢
  have e : pre = pre.take j ++ pre.drop j := (List.take_append_drop _ _).symm
  have hd : ∀ y ∈ pre.drop j, Op.bytesLess (key x) (key y) = true := fun y hy => by
    obtain ⟨q, hq, e2⟩ := List.getElem_of_mem hy
    rw [List.length_drop] at hq
    refine h1 (j + q) (by omega) (by omega) y ?_
    rw [← e2, List.getElem_drop, List.getElem?_eq_getElem]
  have e3 : ofT key t (pre ++ [x]) = ofT key t (pre.take j) ++ (ofT key t (pre.drop j) ++ ofT key t [x]) := by
    rw [ofT_append, ← List.append_assoc, ← ofT_append (key := key) t (pre.take j) (pre.drop j), List.take_append_drop]
  rw [e3, ofT_append, show x :: pre.drop j = [x] ++ pre.drop j from rfl, ofT_append]
  congr 1
  by_cases hx : key x = t
  · rw [ofT_nil (l := pre.drop j) fun y hy e4 => lessT_ne (hd y hy) (hx.trans e4.symm)]; simp
  · rw [ofT_nil (l := [x]) fun y hy => by rw [List.mem_singleton] at hy; subst hy; exact hx]; simp
theorem sortK_ofT (t : List UInt8) (l : List α) : ofT key t (sortK key l) = ofT key t l := by
  refine list_snoc_ind (P := fun l => ofT key t (sortK key l) = ofT key t l) rfl (fun l x ih => ?_) l
  rw [sortK_snoc, insK_ofT t _ x (sortK_sorted key l), ofT_append, ofT_append, ih]
theorem ofT_eq : ∀ {a b : List α}, a.Pairwise (LeK key) → b.Pairwise (LeK key) → (∀ t, ofT key t a = ofT key t b) → a = b
  | [], [], _, _, _ => rfl
  | [], y :: b, _, _, h => by have := h (key y); simp [ofT] at this
  | x :: a, [], _, _, h => by have := h (key x); simp [ofT] at this
  | x :: a, y :: b, ha, hb, h => by
    rw [List.pairwise_cons] at ha hb
    have hxb : ∃ z ∈ y :: b, key z = key x := by
      have h1 : x ∈ ofT key (key x) (y :: b) := by rw [← h (key x)]; simp [ofT]
      obtain ⟨h2, h3⟩ := List.mem_filter.1 h1
      exact ⟨x, h2, rfl⟩
    have hya : ∃ z ∈ x :: a, key z = key y := by
      have h1 : y ∈ ofT key (key y) (x :: a) := by rw [h (key y)]; simp [ofT]
      obtain ⟨h2, h3⟩ := List.mem_filter.1 h1
      exact ⟨y, h2, rfl⟩
    have e1 : LeK key x y := by
      obtain ⟨z, hz, e⟩ := hya
      rcases List.mem_cons.1 hz with rfl | hz
      · unfold LeK; rw [e]; exact less_irrefl _
      · have := ha.1 z hz; unfold LeK at this ⊢; rwa [e] at this
    have e2 : LeK key y x := by
      obtain ⟨z, hz, e⟩ := hxb
      rcases List.mem_cons.1 hz with rfl | hz
      · unfold LeK; rw [e]; exact less_irrefl _
      · have := hb.1 z hz; unfold LeK at this ⊢; rwa [e] at this
    have ek := leK_eq e1 e2
    have hxy : x = y := by
      have h1 := h (key x)
      simp only [ofT, List.filter_cons, decide_true, if_true, ek] at h1
      injection h1
    subst hxy
    congr 1
    refine ofT_eq ha.2 hb.2 fun t => ?_
    have h1 := h t
    simp only [ofT, List.filter_cons] at h1 ⊢
    split at h1
    · injection h1
    · exact h1
theorem sortK_uniq {a b : List α} (ha : a.Pairwise (LeK key)) (h : ∀ t, ofT key t a = ofT key t b) : a = sortK key b := ofT_eq ha (sortK_sorted key b) fun t => by rw [h t, sortK_ofT]
theorem sortK_congr {a b : List α} (h : ∀ t, ofT key t a = ofT key t b) : sortK key a = sortK key b := sortK_uniq (sortK_sorted key a) fun t => by rw [sortK_ofT, h t]
theorem sort_blocks (a b : List α) : sortK key (sortK key a ++ sortK key b) = sortK key (a ++ b) := sortK_congr fun t => by rw [ofT_append, ofT_append, sortK_ofT, sortK_ofT]
theorem ofT_swap {t : List UInt8} {a b : List α} (h : ∀ y ∈ a, ∀ x ∈ b, Op.bytesLess (key y) (key x) = true) : ofT key t (a ++ b) = ofT key t (b ++ a) := by
  rw [ofT_append, ofT_append]
  by_cases ha : ofT key t a = []
  · rw [ha]; simp
  · have hb : ofT key t b = [] := by
      refine ofT_nil fun x hx e => ?_
      obtain ⟨y, hy⟩ := List.exists_mem_of_ne_nil _ ha
      obtain ⟨h1, h2⟩ := List.mem_filter.1 hy
      exact lessT_ne (h y h1 x hx) ((of_decide_eq_true h2).trans e.symm)
    rw [hb]; simp
theorem less_le {a b : α} (h : Op.bytesLess (key a) (key b) = true) : LeK key a b := by
  rcases leK_total key a b with h2 | h2
  · exact h2
  · unfold LeK at h2; rw [h] at h2; cases h2
/-- A merge in two parts. -/
theorem sort_split {x1 x2 y1 y2 : List α} (h : ∀ y ∈ y1, ∀ x ∈ x2, Op.bytesLess (key y) (key x) = true) (h2 : ∀ x ∈ x1, ∀ y ∈ y2, LeK key x y) (hx : (x1 ++ x2).Pairwise (LeK key)) (hy : (y1 ++ y2).Pairwise (LeK key)) :
    sortK key ((x1 ++ x2) ++ (y1 ++ y2)) = sortK key (x1 ++ y1) ++ sortK key (x2 ++ y2) := by
  rw [List.pairwise_append] at hx hy
  refine (sortK_uniq ?_ fun t => ?_).symm
  · rw [List.pairwise_append]
    refine ⟨sortK_sorted key _, sortK_sorted key _, fun a ha b hb => ?_⟩
    rw [sortK_mem] at ha hb
    rcases List.mem_append.1 ha with ha | ha <;> rcases List.mem_append.1 hb with hb | hb
    · exact hx.2.2 a ha b hb
    · exact h2 a ha b hb
    · exact less_le (h a ha b hb)
    · exact hy.2.2 a ha b hb
  · have e := ofT_swap (t := t) h
    rw [ofT_append, ofT_append] at e
    rw [ofT_append, sortK_ofT, sortK_ofT]
    simp only [ofT_append, List.append_assoc]
    rw [← List.append_assoc (ofT key t y1), e]
    simp only [List.append_assoc]
/-- One of the first row goes into the second. -/
theorem sort_one {x : α} {y1 y2 : List α} (h : ∀ y ∈ y1, Op.bytesLess (key y) (key x) = true) (h2 : ∀ y ∈ y2, LeK key x y) (hy : (y1 ++ y2).Pairwise (LeK key)) : sortK key ([x] ++ (y1 ++ y2)) = y1 ++ x :: y2 := by
  have hy' := hy
  rw [List.pairwise_append] at hy'
  refine (sortK_uniq ?_ fun t => ?_).symm
  · rw [List.pairwise_append]
    refine ⟨hy'.1, List.pairwise_cons.2 ⟨h2, hy'.2.1⟩, fun a ha b hb => ?_⟩
    rcases List.mem_cons.1 hb with rfl | hb
    · exact less_le (h a ha)
    · exact hy'.2.2 a ha b hb
  · have e := ofT_swap (t := t) (key := key) (a := y1) (b := [x]) fun y hy z hz => by rw [List.mem_singleton] at hz; subst hz; exact h y hy
    rw [show y1 ++ x :: y2 = (y1 ++ [x]) ++ y2 by simp, ofT_append, e]
    simp only [ofT_append, List.append_assoc]
/-- One of the second row goes into the first. -/
theorem sort_last {y : α} {x1 x2 : List α} (h : ∀ x ∈ x2, Op.bytesLess (key y) (key x) = true) (h2 : ∀ x ∈ x1, LeK key x y) (hx : (x1 ++ x2).Pairwise (LeK key)) : sortK key ((x1 ++ x2) ++ [y]) = x1 ++ y :: x2 := by
  have hx' := hx
  rw [List.pairwise_append] at hx'
  refine (sortK_uniq ?_ fun t => ?_).symm
  · rw [List.pairwise_append]
    refine ⟨hx'.1, List.pairwise_cons.2 ⟨fun b hb => less_le (h b hb), hx'.2.1⟩, fun a ha b hb => ?_⟩
    rcases List.mem_cons.1 hb with rfl | hb
    · exact h2 a ha
    · exact hx'.2.2 a ha b hb
  · have e := ofT_swap (t := t) (key := key) (a := [y]) (b := x2) fun z hz x hx => by rw [List.mem_singleton] at hz; subst hz; exact h x hx
    rw [show x1 ++ y :: x2 = x1 ++ ([y] ++ x2) by simp, ofT_append, e]
    simp only [ofT_append, List.append_assoc]
end
end Go.Proofs.YtlmakdclebbbkaaGreat

namespace Go.Proofs.YtlmakdclebbbkaaGreat
open Go.ChangeShapes Go.WideShapes Go.ChangeAt Go.RowKit
set_option linter.unusedVariables false
set_option maxRecDepth 100000
/-- Lists that stay. -/
def Holds (w0 : World) (S : List (Value × List Lbl)) (w : World) : Prop := (∀ p ∈ S, HasL w p.1 p.2) ∧ Below w0.heap.size w0 w
section
variable {w0 w w' : World} {S : List (Value × List Lbl)}
theorem Holds.below (h : Holds w0 S w) (hb : Below w.heap.size w w') : Holds w0 S w' := ⟨fun p hp => (h.1 p hp).below hb, h.2.trans (hb.mono h.2.size)⟩
theorem Holds.drewN (h : Holds w0 S w) (n : Nat) : Holds w0 S (w.drewN n) := ⟨fun p hp => (h.1 p hp).drewN n, below_drewN3 h.2 n⟩
theorem Holds.alloc (h : Holds w0 S w) (o : Obj) : Holds w0 S (w.alloc o) := h.below ((Below.refl _ _).alloc (Nat.le_refl _) o)
theorem Holds.add (h : Holds w0 S w) {v : Value} {l : List Lbl} (hv : HasL w v l) : Holds w0 ((v, l) :: S) w := ⟨fun p hp => by
  rcases List.mem_cons.1 hp with rfl | hp
  · exact hv
  · exact h.1 p hp, h.2⟩
theorem Holds.bel (h : Holds w0 S w) : Below w0.heap.size w0 w := h.2
end
theorem HasL.sees {w : World} {A : Option Addr} {n c : Nat} {l : List Lbl} (h : HasL w (.slice A n c) l) : Sees w w.heap.size 2 A n (lbls l) := h.slice.1
set_option maxHeartbeats 1000000 in
theorem get_any (A0 : Option Addr) (n c B : Nat) (l : List Lbl) (name : ByteArray) (w : World) (h : Sees w B 2 A0 n (lbls l)) (hB : B ≤ w.heap.size) (hn : n ≤ 9223372036854775807) :
    Calls Tryz.prog 156 #[.slice A0 n c, .string name] w fun e w' => e = .returned (.string (getF l name)) ∧ Below w.heap.size w w' := by
  have H := Lib.hid h
  have HL := Lib.hid h.lbl_len
  clear h
  go_enter Tryz.func156, Tryz.ntmps156
  go_wp2_with fail
  go_loopg [9] n (fun g x9 wr => ∃ k : Nat, k + g = n ∧ x9 = .int .i64 k ∧ Below w.heap.size w wr ∧ ∀ x ∈ l.take k, x.1 ≠ name)
  case atStart => exact ⟨0, by omega, rfl, Below.refl _ _, (fun x hx => by simp at hx)⟩
  case round =>
    obtain ⟨k, hkg, rfl, hbel, hno⟩ := hrel
    have HB := Lib.hid hbel; have HNO := Lib.hid hno
    have hws := hbel.size
    clear hbel hno
    cases gk with
    | zero =>
      obtain rfl : k = n := by omega
      have HE := Lib.hid (show getF l name = ⟨#[]⟩ from getF_none (fun x hx => HNO.out x (by rw [List.take_of_length_le (by rw [HL.out]; exact Nat.le_refl _)]; exact hx)))
      go_wp2_with fail
      go_ret
      exact ⟨by rw [HE.out]; rfl, HB.out⟩
    | succ g =>
      have hlt : k < n := by omega
      obtain ⟨ad, hkl, rfl, c0, c1⟩ := (H.out.below (HB.out.mono hB)).lbl hlt
      have hal := World.block_lt_of_cell? wr _ c0
      have HT := Lib.hid (List.take_succ_eq_append_getElem hkl)
      have HD := Lib.hid (show l = l.take k ++ l[k] :: l.drop (k + 1) by rw [← List.drop_eq_getElem_cons hkl, List.take_append_drop])
      generalize l[k] = p at *
      obtain ⟨a, b⟩ := p
      simp only at c0 c1
      have HBA := Lib.hid (HB.out.alloc hws (.cells #[.string a, .string b] 25))
      by_cases he : a = name
      · have t1 : (a.toList == name.toList) = true := by rw [he]; simp
        have HE := Lib.hid (show getF l name = b by
          unfold getF
          rw [HD.out, List.find?_append, List.find?_eq_none.2 (fun x hx => by simpa using HNO.out x hx)]
          simp [he])
        clear HD he
        go_wp2_with fail
        go_ret
        exact ⟨by rw [HE.out]; rfl, HBA.out⟩
      · have t1 : (a.toList == name.toList) = false := by rw [beq_eq_false_iff_ne]; exact fun h => he (ba_ext h)
        have HN : Hid (∀ x ∈ l.take (k + 1), x.1 ≠ name) := Lib.hid (fun x hx => by
          rw [HT.out, List.mem_append] at hx
          rcases hx with hx | hx
          · exact HNO.out x hx
          · simp only [List.mem_singleton] at hx; subst hx; exact he)
        clear HD he HT
        go_wp2_with fail
        go_roundg g
        case measure => omega
        case rel => exact ⟨k + 1, by omega, by go_num, HBA.out, HN.out⟩
end Go.Proofs.YtlmakdclebbbkaaGreat
