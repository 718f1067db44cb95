/- Trees of routes in memory; route's words as plain functions. -/
import Derived.Test.YtddkkfjgdfdcnaaMuteMath
import Derived.Test.YtddkkfjgdfdcnaaMute
namespace Go.Proofs.Ytddkkfjgdfdcnaa
open Go.RowKit
set_option linter.unusedVariables false
/-- Rows of four cells. -/
def quad (l : List (Value × Value × Value × Value)) : List Value := l.flatMap fun x => [x.1, x.2.1, x.2.2.1, x.2.2.2]
theorem quad_length (l : List (Value × Value × Value × Value)) : (quad l).length = l.length * 4 := by
  induction l with
  | nil => rfl
  | cons x l ih => simp only [quad, List.flatMap_cons, List.length_append, List.length_cons, List.length_nil] at ih ⊢; omega
theorem quad_append (l m : List (Value × Value × Value × Value)) : quad (l ++ m) = quad l ++ quad m := by simp [quad]
theorem quad_get (l : List (Value × Value × Value × Value)) (p : Nat) (h : p < l.length) : (quad l)[p * 4]? = some l[p].1 ∧ (quad l)[p * 4 + 1]? = some l[p].2.1 ∧ (quad l)[p * 4 + 2]? = some l[p].2.2.1 ∧ (quad l)[p * 4 + 3]? = some l[p].2.2.2 := by
  have e : quad l = quad (l.take p) ++ (quad [l[p]] ++ quad (l.drop (p + 1))) := by
    rw [← quad_append, ← quad_append, List.singleton_append, ← List.drop_eq_getElem_cons h, List.take_append_drop]
  have hl : (quad (l.take p)).length = p * 4 := by rw [quad_length, List.length_take]; omega
  rw [e]
  refine ⟨?_, ?_, ?_, ?_⟩
  · rw [List.getElem?_append_right (by omega), hl, Nat.sub_self]; rfl
  · rw [List.getElem?_append_right (by omega), hl, show p * 4 + 1 - p * 4 = 1 by omega]; rfl
  · rw [List.getElem?_append_right (by omega), hl, show p * 4 + 2 - p * 4 = 2 by omega]; rfl
  · rw [List.getElem?_append_right (by omega), hl, show p * 4 + 3 - p * 4 = 3 by omega]; rfl
theorem Sees.quad {w : World} {B : Nat} {A : Option Addr} {n : Nat} {l : List (Value × Value × Value × Value)} (h : Sees w B 4 A n (quad l)) {k : Nat} (hk : k < n) :
    ∃ ad, ∃ hl : k < l.length, A = some ad ∧ w.cell? (ad.add (k * 4)) = some l[k].1 ∧ w.cell? ⟨(ad.add (k * 4)).block, (ad.add (k * 4)).off + 1, none⟩ = some l[k].2.1 ∧ w.cell? ⟨(ad.add (k * 4)).block, (ad.add (k * 4)).off + 2, none⟩ = some l[k].2.2.1 ∧ w.cell? ⟨(ad.add (k * 4)).block, (ad.add (k * 4)).off + 3, none⟩ = some l[k].2.2.2 := by
  have hl : k < l.length := by have := h.len; rw [quad_length] at this; omega
  obtain ⟨ad, e, _, hc⟩ := h.at_ (by omega)
  obtain ⟨h0, h1, h2, h3⟩ := quad_get l k hl
  exact ⟨ad, hl, e, hc _ _ h0, by rw [add_spelt _ _ _ (by omega)]; exact hc _ _ h1, by rw [add_spelt _ _ _ (by omega)]; exact hc _ _ h2, by rw [add_spelt _ _ _ (by omega)]; exact hc _ _ h3⟩
/-- A tree: the value that its matchers lie under, they, its receiver, does it go on, the value that its kids lie under, they. -/
inductive RT where
  | mk (mv : Value) (ms : List Mtc) (nm : ByteArray) (goes : Bool) (kv : Value) (kids : List RT)
def RT.mv : RT → Value | .mk a _ _ _ _ _ => a
def RT.ms : RT → List Mtc | .mk _ a _ _ _ _ => a
def RT.nm : RT → ByteArray | .mk _ _ a _ _ _ => a
def RT.goes : RT → Bool | .mk _ _ _ a _ _ => a
def RT.kv : RT → Value | .mk _ _ _ _ a _ => a
def RT.kids : RT → List RT | .mk _ _ _ _ _ a => a
def RT.cells (r : RT) : Value × Value × Value × Value := (r.mv, .string r.nm, .bool r.goes, r.kv)
def RT.val (r : RT) : Value := .agg #[r.mv, .string r.nm, .bool r.goes, r.kv]
/-- The kids lie under v. -/
def HasK (w : World) (v : Value) (l : List RT) : Prop := ∃ A c, v = .slice A l.length c ∧ Sees w w.heap.size 4 A l.length (quad (l.map RT.cells)) ∧ l.length ≤ c ∧ c ≤ 9223372036854775807
theorem HasK.below {w w' : World} {v : Value} {l : List RT} (h : HasK w v l) (hb : Below w.heap.size w w') : HasK w' v l := by
  obtain ⟨A, c, h1, h2, h3⟩ := h
  exact ⟨A, c, h1, (h2.below hb).more hb.size, h3⟩
theorem HasK.sees {w : World} {A : Option Addr} {n c : Nat} {l : List RT} (h : HasK w (.slice A n c) l) : Sees w w.heap.size 4 A n (quad (l.map RT.cells)) := by
  obtain ⟨A', c', h1, h2, h3, h4⟩ := h
  injection h1 with h1 h5 h6
  subst h1; subst h5; subst h6
  exact h2
theorem HasK.get {w : World} {A : Option Addr} {n c : Nat} {l : List RT} (h : HasK w (.slice A n c) l) {k : Nat} (hk : k < n) :
    ∃ ad, ∃ hl : k < l.length, A = some ad ∧ w.cell? (ad.add (k * 4)) = some l[k].mv ∧ w.cell? ⟨(ad.add (k * 4)).block, (ad.add (k * 4)).off + 1, none⟩ = some (.string l[k].nm) ∧ w.cell? ⟨(ad.add (k * 4)).block, (ad.add (k * 4)).off + 2, none⟩ = some (.bool l[k].goes) ∧ w.cell? ⟨(ad.add (k * 4)).block, (ad.add (k * 4)).off + 3, none⟩ = some l[k].kv := by
  obtain ⟨ad, hl, e, h0, h1, h2, h3⟩ := h.sees.quad hk
  have hl2 : k < l.length := by simpa using hl
  rw [List.getElem_map] at h0 h1 h2 h3
  exact ⟨ad, hl2, e, h0, h1, h2, h3⟩
/-- A tree of so many floors lies in memory. -/
def okAt : Nat → RT → World → Prop
  | 0, _, _ => False
  | d + 1, r, w => HasM w r.mv r.ms ∧ HasK w r.kv r.kids ∧ ∀ k ∈ r.kids, okAt d k w
theorem okAt_below {w w' : World} (hb : Below w.heap.size w w') : ∀ (d : Nat) (r : RT), okAt d r w → okAt d r w'
  | 0, _, h => h.elim
  | d + 1, r, h => ⟨h.1.below hb, h.2.1.below hb, fun k hk => okAt_below hb d k (h.2.2 k hk)⟩
theorem okAt_stays {w : World} {d : Nat} {r : RT} (h : okAt d r w) : Stays (fun W => okAt d r W) w := fun _ hb => okAt_below hb d r h
theorem HasK.stay {w : World} {v : Value} {l : List RT} (h : HasK w v l) : Stays (fun W => HasK W v l) w := fun _ hb => h.below hb
def countF : Nat → RT → Nat
  | 0, _ => 0
  | d + 1, r => 1 + (r.kids.map (countF d)).sum
def rightF : Nat → Nat → RT → Bool
  | 0, _, _ => false
  | d + 1, n, r => decide (n ≤ 8) && (wordF r.nm && (rightM r.ms && r.kids.all (rightF d (n + 1))))
def rightT (d : Nat) (r : RT) : Bool := r.ms.isEmpty && (rightF d 1 r && decide (countF d r ≤ 16))
def goKids (f : RT → List ByteArray) (l : List Lbl) : List RT → List ByteArray
  | [] => []
  | k :: ks => if allF l k.ms = true then f k ++ (if k.goes = true then goKids f l ks else []) else goKids f l ks
def toF (l : List Lbl) : Nat → RT → List ByteArray
  | 0, _ => []
  | d + 1, r => if goKids (toF l d) l r.kids = [] then [r.nm] else goKids (toF l d) l r.kids
theorem goKids_len {f : RT → List ByteArray} {g : RT → Nat} {l : List Lbl} : ∀ {ks : List RT}, (∀ k ∈ ks, (f k).length ≤ g k) → (goKids f l ks).length ≤ (ks.map g).sum
  | [], _ => by simp [goKids]
  | k :: ks, h => by
    have h1 := h k List.mem_cons_self
    have h2 := goKids_len (f := f) (g := g) (l := l) (ks := ks) (fun x hx => h x (List.mem_cons_of_mem _ hx))
    unfold goKids
    rw [List.map_cons, List.sum_cons]
    split
    · rw [List.length_append]
      split
      · omega
      · simp; omega
    · omega
theorem toF_len (l : List Lbl) : ∀ (d : Nat) (r : RT), (toF l d r).length ≤ countF d r
  | 0, _ => by simp [toF]
  | d + 1, r => by
    have h := goKids_len (f := toF l d) (g := countF d) (l := l) (ks := r.kids) (fun k _ => toF_len l d k)
    unfold toF countF
    split
    · simp
    · omega
theorem count_pos : ∀ (d : Nat) (r : RT), 0 < d → 1 ≤ countF d r
  | 0, _, h => absurd h (by omega)
  | d + 1, r, _ => by unfold countF; omega
theorem sum_take_le (l : List Nat) (k : Nat) : (l.take k).sum ≤ l.sum := by
  conv => rhs; rw [← List.take_append_drop k l, List.sum_append]
  omega
theorem sum_take_succ {l : List Nat} {k : Nat} (h : k < l.length) : (l.take (k + 1)).sum = (l.take k).sum + l[k] := by
  rw [List.take_succ_eq_append_getElem h, List.sum_append]; simp
/-- A row of its own is another block than one of another type. -/
theorem own_ne_blk {w : World} {b g : Nat} {e t : TypeId} {s n : Nat} {v : Value} {xs cs : List Value} (h : w.ownsRow b e s v n xs) (h2 : Blk w g t cs) (he : e ≠ t) : v.ownBlock ≠ some g := by
  intro hg
  rcases h.2 with ⟨rfl, _⟩ | ⟨g1, cap, cur, rfl, _, hh, _⟩
  · simp [Value.ownBlock] at hg
  · simp [Value.ownBlock] at hg
    subst hg
    have h3 := h2.eq
    rw [hh] at h3
    injection h3 with h3; injection h3 with _ h3
    exact he h3
end Go.Proofs.Ytddkkfjgdfdcnaa
