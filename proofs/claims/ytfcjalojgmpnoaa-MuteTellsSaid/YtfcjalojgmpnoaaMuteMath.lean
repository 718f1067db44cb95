/- Silences, inhibitions and rows of sets in memory; mute's words as plain functions. -/
import Derived.Test.YtfcjalojgmpnoaaExactMath
import Derived.Test.YtfcjalojgmpnoaaMatchRight
import Derived.Test.YtfcjalojgmpnoaaLblFns
import Derived.Test.YtfcjalojgmpnoaaSameStr
import Derived.Test.YtfcjalojgmpnoaaKept
namespace Go.Proofs.Ytfcjalojgmpnoaa
open Go.RowKit
set_option linter.unusedVariables false
/-- Rows of three cells. -/
def tri (l : List (Value × Value × Value)) : List Value := l.flatMap fun x => [x.1, x.2.1, x.2.2]
theorem tri_length (l : List (Value × Value × Value)) : (tri l).length = l.length * 3 := by
  induction l with
  | nil => rfl
  | cons x l ih => simp only [tri, List.flatMap_cons, List.length_append, List.length_cons, List.length_nil] at ih ⊢; omega
theorem tri_append (l m : List (Value × Value × Value)) : tri (l ++ m) = tri l ++ tri m := by simp [tri]
theorem tri_get (l : List (Value × Value × Value)) (p : Nat) (h : p < l.length) : (tri l)[p * 3]? = some l[p].1 ∧ (tri l)[p * 3 + 1]? = some l[p].2.1 ∧ (tri l)[p * 3 + 2]? = some l[p].2.2 := by
  have e : tri l = tri (l.take p) ++ (tri [l[p]] ++ tri (l.drop (p + 1))) := by
    rw [← tri_append, ← tri_append, List.singleton_append, ← List.drop_eq_getElem_cons h, List.take_append_drop]
  have hl : (tri (l.take p)).length = p * 3 := by rw [tri_length, List.length_take]; omega
  rw [e]
  refine ⟨?_, ?_, ?_⟩
  · rw [List.getElem?_append_right (by omega), hl, Nat.sub_self]; rfl
  · rw [List.getElem?_append_right (by omega), hl, show p * 3 + 1 - p * 3 = 1 by omega]; rfl
  · rw [List.getElem?_append_right (by omega), hl, show p * 3 + 2 - p * 3 = 2 by omega]; rfl
theorem tri_take (l : List (Value × Value × Value)) (k : Nat) : (tri l).take (k * 3) = tri (l.take k) := by
  by_cases h : k ≤ l.length
  · conv => lhs; rw [← List.take_append_drop k l, tri_append]
    rw [List.take_append_of_le_length (by rw [tri_length, List.length_take]; omega), List.take_of_length_le (by rw [tri_length, List.length_take]; omega)]
  · rw [List.take_of_length_le (by rw [tri_length]; omega), List.take_of_length_le (by omega)]
theorem tri_one {l : List (Value × Value × Value)} (h : ∀ x ∈ l, x.1.oneCell' = true ∧ x.2.1.oneCell' = true ∧ x.2.2.oneCell' = true) : ∀ u ∈ tri l, u.oneCell' = true := by
  intro u hu
  simp only [tri, List.mem_flatMap] at hu
  obtain ⟨x, hx, hu⟩ := hu
  obtain ⟨h1, h2, h3⟩ := h x hx
  simp at hu
  rcases hu with rfl | rfl | rfl <;> assumption
theorem Sees.tri {w : World} {B : Nat} {A : Option Addr} {n : Nat} {l : List (Value × Value × Value)} (h : Sees w B 3 A n (tri l)) {k : Nat} (hk : k < n) :
    ∃ ad, ∃ hl : k < l.length, A = some ad ∧ w.cell? (ad.add (k * 3)) = some l[k].1 ∧ w.cell? ⟨(ad.add (k * 3)).block, (ad.add (k * 3)).off + 1, none⟩ = some l[k].2.1 ∧ w.cell? ⟨(ad.add (k * 3)).block, (ad.add (k * 3)).off + 2, none⟩ = some l[k].2.2 := by
  have hl : k < l.length := by have := h.len; rw [tri_length] at this; omega
  obtain ⟨ad, e, _, hc⟩ := h.at_ (by omega)
  obtain ⟨h0, h1, h2⟩ := tri_get l k hl
  exact ⟨ad, hl, e, hc _ _ h0, by rw [add_spelt _ _ _ (by omega)]; exact hc _ _ h1, by rw [add_spelt _ _ _ (by omega)]; exact hc _ _ h2⟩
theorem Sees.tri_len {w : World} {B : Nat} {A : Option Addr} {n : Nat} {l : List (Value × Value × Value)} (h : Sees w B 3 A n (Go.Proofs.Ytfcjalojgmpnoaa.tri l)) : l.length = n := by
  have := h.len; rw [tri_length] at this; omega
/-- A value is these texts. -/
def HasS (w : World) (v : Value) (l : List ByteArray) : Prop := ∃ A c, v = .slice A l.length c ∧ Sees w w.heap.size 1 A l.length (strs l) ∧ l.length ≤ c ∧ c ≤ 9223372036854775807
theorem HasS.below {w w' : World} {v : Value} {l : List ByteArray} (h : HasS w v l) (hb : Below w.heap.size w w') : HasS w' v l := by
  obtain ⟨A, c, h1, h2, h3⟩ := h
  exact ⟨A, c, h1, (h2.below hb).more hb.size, h3⟩
/-- A silence: the value that its matchers lie under, they, its times. -/
structure Sil where
  v : Value
  ms : List Mtc
  f : Int
  t : Int
def Sil.cells (s : Sil) : Value × Value × Value := (s.v, .int .i64 s.f, .int .i64 s.t)
structure Inh where
  vs : Value
  src : List Mtc
  vd : Value
  dst : List Mtc
  ve : Value
  eq : List ByteArray
def Inh.cells (h : Inh) : Value × Value × Value := (h.vs, h.vd, h.ve)
structure SilsAt (w : World) (A : Option Addr) (n : Nat) (l : List Sil) : Prop where
  row : Sees w w.heap.size 3 A n (tri (l.map Sil.cells))
  ms : ∀ x ∈ l, HasM w x.v x.ms
structure InhsAt (w : World) (A : Option Addr) (n : Nat) (l : List Inh) : Prop where
  row : Sees w w.heap.size 3 A n (tri (l.map Inh.cells))
  src : ∀ x ∈ l, HasM w x.vs x.src
  dst : ∀ x ∈ l, HasM w x.vd x.dst
  eq : ∀ x ∈ l, HasS w x.ve x.eq
structure SetsAt (w : World) (A : Option Addr) (n : Nat) (l : List (Value × List Lbl)) : Prop where
  row : Sees w w.heap.size 1 A n (l.map Prod.fst)
  each : ∀ x ∈ l, HasL w x.1 x.2
section
variable {w w' : World} {A : Option Addr} {n : Nat}
theorem SilsAt.below {l : List Sil} (h : SilsAt w A n l) (hb : Below w.heap.size w w') : SilsAt w' A n l := ⟨(h.row.below hb).more hb.size, fun x hx => (h.ms x hx).below hb⟩
theorem InhsAt.below {l : List Inh} (h : InhsAt w A n l) (hb : Below w.heap.size w w') : InhsAt w' A n l := ⟨(h.row.below hb).more hb.size, fun x hx => (h.src x hx).below hb, fun x hx => (h.dst x hx).below hb, fun x hx => (h.eq x hx).below hb⟩
theorem SetsAt.below {l : List (Value × List Lbl)} (h : SetsAt w A n l) (hb : Below w.heap.size w w') : SetsAt w' A n l := ⟨(h.row.below hb).more hb.size, fun x hx => (h.each x hx).below hb⟩
theorem SilsAt.stays {l : List Sil} (h : SilsAt w A n l) : Stays (fun W => SilsAt W A n l) w := fun _ hb => h.below hb
theorem InhsAt.stays {l : List Inh} (h : InhsAt w A n l) : Stays (fun W => InhsAt W A n l) w := fun _ hb => h.below hb
theorem SetsAt.stays {l : List (Value × List Lbl)} (h : SetsAt w A n l) : Stays (fun W => SetsAt W A n l) w := fun _ hb => h.below hb
theorem HasL.stay {v : Value} {l : List Lbl} (h : HasL w v l) : Stays (fun W => HasL W v l) w := fun _ hb => h.below hb
theorem HasM.stay {v : Value} {l : List Mtc} (h : HasM w v l) : Stays (fun W => HasM W v l) w := fun _ hb => h.below hb
theorem HasS.stay {v : Value} {l : List ByteArray} (h : HasS w v l) : Stays (fun W => HasS W v l) w := fun _ hb => h.below hb
theorem SilsAt.len {l : List Sil} (h : SilsAt w A n l) : l.length = n := by have := h.row.tri_len; simpa using this
theorem InhsAt.len {l : List Inh} (h : InhsAt w A n l) : l.length = n := by have := h.row.tri_len; simpa using this
theorem SetsAt.len {l : List (Value × List Lbl)} (h : SetsAt w A n l) : l.length = n := by have := h.row.len; simpa using this
theorem SilsAt.nil : SilsAt w none 0 [] := ⟨Sees.nil, (fun x hx => absurd hx List.not_mem_nil)⟩
theorem InhsAt.nil : InhsAt w none 0 [] := ⟨Sees.nil, (fun x hx => absurd hx List.not_mem_nil), (fun x hx => absurd hx List.not_mem_nil), (fun x hx => absurd hx List.not_mem_nil)⟩
theorem SetsAt.nil : SetsAt w none 0 [] := ⟨Sees.nil, (fun x hx => absurd hx List.not_mem_nil)⟩
theorem SilsAt.take {l : List Sil} (h : SilsAt w A n l) {k : Nat} (hk : k ≤ n) : SilsAt w A k (l.take k) :=
  ⟨by have h1 := h.row.take hk; rwa [tri_take, ← List.map_take] at h1, fun x hx => h.ms x (List.mem_of_mem_take hx)⟩
theorem InhsAt.take {l : List Inh} (h : InhsAt w A n l) {k : Nat} (hk : k ≤ n) : InhsAt w A k (l.take k) :=
  ⟨by have h1 := h.row.take hk; rwa [tri_take, ← List.map_take] at h1, fun x hx => h.src x (List.mem_of_mem_take hx), fun x hx => h.dst x (List.mem_of_mem_take hx), fun x hx => h.eq x (List.mem_of_mem_take hx)⟩
theorem SilsAt.get {l : List Sil} (h : SilsAt w A n l) {k : Nat} (hk : k < n) :
    ∃ ad, ∃ hl : k < l.length, A = some ad ∧ w.cell? (ad.add (k * 3)) = some l[k].v ∧ w.cell? ⟨(ad.add (k * 3)).block, (ad.add (k * 3)).off + 1, none⟩ = some (.int .i64 l[k].f) ∧ w.cell? ⟨(ad.add (k * 3)).block, (ad.add (k * 3)).off + 2, none⟩ = some (.int .i64 l[k].t) := by
  obtain ⟨ad, hl, e, h0, h1, h2⟩ := h.row.tri hk
  have hl2 : k < l.length := by simpa using hl
  rw [List.getElem_map] at h0 h1 h2
  exact ⟨ad, hl2, e, h0, h1, h2⟩
theorem InhsAt.get {l : List Inh} (h : InhsAt w A n l) {k : Nat} (hk : k < n) :
    ∃ ad, ∃ hl : k < l.length, A = some ad ∧ w.cell? (ad.add (k * 3)) = some l[k].vs ∧ w.cell? ⟨(ad.add (k * 3)).block, (ad.add (k * 3)).off + 1, none⟩ = some l[k].vd ∧ w.cell? ⟨(ad.add (k * 3)).block, (ad.add (k * 3)).off + 2, none⟩ = some l[k].ve := by
  obtain ⟨ad, hl, e, h0, h1, h2⟩ := h.row.tri hk
  have hl2 : k < l.length := by simpa using hl
  rw [List.getElem_map] at h0 h1 h2
  exact ⟨ad, hl2, e, h0, h1, h2⟩
theorem SetsAt.get {l : List (Value × List Lbl)} (h : SetsAt w A n l) {k : Nat} (hk : k < n) :
    ∃ ad, ∃ hl : k < l.length, A = some ad ∧ w.cell? (ad.add k) = some l[k].1 := by
  obtain ⟨ad, u, e, h0, h1⟩ := h.row.one hk
  have hl : k < l.length := by have := h.len; omega
  rw [List.getElem?_map, List.getElem?_eq_getElem hl] at h0
  injection h0 with h0; subst h0
  exact ⟨ad, hl, e, h1⟩
end
/-- Does a silence mute a set. -/
def silOne (l : List Lbl) (t : Int) (s : Sil) : Bool := decide (s.f ≤ t) && (decide (t < s.t) && allF l s.ms)
def silF (l : List Lbl) (t : Int) (ss : List Sil) : Bool := ss.any (silOne l t)
/-- Does o mute the set by h. -/
def inhBy (l : List Lbl) (h : Inh) (o : List Lbl) : Bool := !decide (o = l) && (allF o h.src && h.eq.all fun n => decide (getF o n = getF l n))
def inhOne (all : List (List Lbl)) (l : List Lbl) (h : Inh) : Bool := allF l h.dst && all.any (inhBy l h)
def inhF (all : List (List Lbl)) (l : List Lbl) (hs : List Inh) : Bool := hs.any (inhOne all l)
def hearOne (all : List (List Lbl)) (t : Int) (ss : List Sil) (hs : List Inh) (l : List Lbl) : Bool := !silF l t ss && !inhF all l hs
def heardF (all : List (List Lbl)) (t : Int) (ss : List Sil) (hs : List Inh) : List (List Lbl) := all.filter (hearOne all t ss hs)
/-- May they be. -/
def rightSil (s : Sil) : Bool := rightM s.ms && decide (s.f ≤ s.t)
def rightInh (h : Inh) : Bool := rightM h.src && (rightM h.dst && (decide (h.eq.length ≤ 6) && h.eq.all wordF))
def rightMute (ss : List Sil) (hs : List Inh) : Bool := ss.all rightSil && hs.all rightInh
/-- 'any' and 'all' up to k, one more. -/
theorem any_no {α : Type} {l : List α} {p : α → Bool} {k : Nat} (hk : l.length ≤ k) (h : ∀ x ∈ l.take k, p x = false) : l.any p = false :=
  List.any_eq_false.2 fun x hx => by rw [h x (by rwa [List.take_of_length_le hk])]; simp
theorem all_yes {α : Type} {l : List α} {p : α → Bool} {k : Nat} (hk : l.length ≤ k) (h : ∀ x ∈ l.take k, p x = true) : l.all p = true :=
  List.all_eq_true.2 fun x hx => h x (by rwa [List.take_of_length_le hk])
theorem upto_more {α : Type} {l : List α} {p : α → Prop} {k : Nat} (hk : k < l.length) (h : ∀ x ∈ l.take k, p x) (hx : p l[k]) : ∀ x ∈ l.take (k + 1), p x := by
  intro x hm
  rw [List.take_succ_eq_append_getElem hk, List.mem_append] at hm
  rcases hm with hm | hm
  · exact h x hm
  · rw [List.mem_singleton] at hm; rw [hm]; exact hx
theorem any_yes {α : Type} {l : List α} {p : α → Bool} {k : Nat} (hk : k < l.length) (h : p l[k] = true) : l.any p = true := List.any_eq_true.2 ⟨_, List.getElem_mem hk, h⟩
theorem all_no {α : Type} {l : List α} {p : α → Bool} {k : Nat} (hk : k < l.length) (h : p l[k] = false) : l.all p = false := List.all_eq_false.2 ⟨_, List.getElem_mem hk, by rw [h]; simp⟩
end Go.Proofs.Ytfcjalojgmpnoaa
