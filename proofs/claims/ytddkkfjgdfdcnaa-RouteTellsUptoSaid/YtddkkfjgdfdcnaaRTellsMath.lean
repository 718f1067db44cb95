/- Mathematics of RouteTells: a tree whose kids are cut. -/
import Derived.Test.YtddkkfjgdfdcnaaRoute3
import Derived.Test.YtddkkfjgdfdcnaaRefRoute3
namespace Go.Proofs.Ytddkkfjgdfdcnaa
open Go.ChangeShapes Go.WideShapes Go.ChangeAt Go.RowKit
set_option linter.unusedVariables false
set_option linter.unusedSimpArgs false
set_option maxRecDepth 100000
/-- A slice's first three. -/
def cutVv : Value → Value
  | .slice A n c => .slice A (min n 3) c
  | v => v
def cutKd (q : RT) : RT := .mk q.mv q.ms q.nm q.goes (cutVv q.kv) (q.kids.take 3)
def cutU (i : Nat) (L : List RT) : List RT := (L.take i).map cutKd ++ L.drop i
theorem cutU_len (i : Nat) (L : List RT) : (cutU i L).length = L.length := by
  unfold cutU; rw [List.length_append, List.length_map, List.length_take, List.length_drop]; omega
theorem cutU_zero (L : List RT) : cutU 0 L = L := by simp [cutU]
theorem cutU_all (L : List RT) : cutU L.length L = L.map cutKd := by simp [cutU]
theorem cutU_next {i : Nat} {L : List RT} (h : i < L.length) : cutU (i + 1) L = (cutU i L).set i (cutKd L[i]) := by
  unfold cutU
  rw [List.take_succ_eq_append_getElem h, List.map_append, List.drop_eq_getElem_cons h, List.append_assoc]
  have hl : ((L.take i).map cutKd).length = i := by rw [List.length_map, List.length_take]; omega
  rw [List.set_append_right _ _ (by omega), hl, Nat.sub_self]
  rfl
theorem cutU_get {i : Nat} {L : List RT} (h : i < L.length) : (cutU i L)[i]'(by rw [cutU_len]; exact h) = L[i] := by
  have hl : ((L.take i).map cutKd).length = i := by rw [List.length_map, List.length_take]; omega
  unfold cutU
  rw [List.getElem_append_right (by omega)]
  simp only [hl, Nat.sub_self, List.getElem_drop, Nat.add_zero]
theorem quad_set {l : List (Value × Value × Value × Value)} {i : Nat} (h : i < l.length) (v : Value) : (quad l).set (i * 4 + 3) v = quad (l.set i (l[i].1, l[i].2.1, l[i].2.2.1, v)) := by
  have e : l = l.take i ++ l[i] :: l.drop (i + 1) := by rw [← List.drop_eq_getElem_cons h, List.take_append_drop]
  have hl : (quad (l.take i)).length = i * 4 := by rw [quad_length, List.length_take]; omega
  have hl2 : (l.take i).length = i := by rw [List.length_take]; omega
  generalize hx : l[i] = x at *
  generalize l.take i = a at *
  generalize l.drop (i + 1) = b at *
  subst e
  rw [List.set_append_right _ _ (by omega), hl2, Nat.sub_self, List.set_cons_zero]
  have q1 : ∀ y (b : List (Value × Value × Value × Value)), quad (a ++ y :: b) = quad a ++ ([y.1, y.2.1, y.2.2.1, y.2.2.2] ++ quad b) := fun y b => by rw [quad_append]; rfl
  rw [q1, q1, List.set_append_right _ _ (by omega), hl, show i * 4 + 3 - i * 4 = 3 by omega]
  rfl
theorem own_set4 {w : World} {base g i : Nat} {e : TypeId} {size n c : Nat} {xs : List Value} (h : w.ownsRow base e size (.slice (some ⟨g, 0, none⟩) n c) n xs) (hi : i < xs.length) (u : Value) :
    (w.setCell ⟨g, i, none⟩ u).ownsRow base e size (.slice (some ⟨g, 0, none⟩) n c) n (xs.set i u) := by
  refine ⟨by rw [List.length_set]; exact h.1, ?_⟩
  rcases h.2 with ⟨he, _⟩ | ⟨g', cap, cur, hv, hbg, hh, hnc, hcm, hcs, htake⟩
  · cases he
  · injection hv with h1 h2 h3
    injection h1 with h1; injection h1 with h1; subst h1; subst h3
    refine .inr ⟨g, c, cur.setIfInBounds i u, rfl, hbg, ?_, hnc, hcm, by simpa using hcs, ?_⟩
    · simp [World.setCell, Array.getElem?_modify, hh]
    · have hl : i < n * size := by rw [← h.1]; exact hi
      rw [Array.toList_setIfInBounds, List.take_set, htake]
theorem own_form4 {w : World} {base : Nat} {e : TypeId} {size n : Nat} {v : Value} {xs : List Value} (h : w.ownsRow base e size v n xs) (hn : 0 < n) (hs : 0 < size) : ∃ g c, v = .slice (some ⟨g, 0, none⟩) n c ∧ base ≤ g ∧ g < w.heap.size ∧ ∀ o, w.frozen? ⟨g, o, none⟩ = false := by
  rcases h.2 with ⟨rfl, hx⟩ | ⟨g, cap, cur, hv, hbg, hh, hnc, hcm, hcs, htake⟩
  · have := h.1; rw [hx] at this; simp at this; omega
  · exact ⟨g, cap, hv, hbg, (Array.getElem?_eq_some_iff.1 hh).1, fun o => by simp [World.frozen?, hh]⟩
theorem cutVv_has {w : World} {q : RT} {A : Option Addr} {n c : Nat} (hv : q.kv = .slice A n c) (h : HasK w q.kv q.kids) : HasK w (cutVv q.kv) (q.kids.take 3) ∧ cutVv q.kv = .slice A (min n 3) c ∧ n = q.kids.length := by
  rw [hv] at h
  obtain ⟨A', c', h1, h2, h3, h4⟩ := h
  injection h1 with h1 h5 h6; subst h1; subst h5; subst h6
  have hl : (q.kids.take 3).length = min q.kids.length 3 := by rw [List.length_take]; omega
  have hs := h2.take (k := min q.kids.length 3) (Nat.min_le_left _ _)
  have e : (quad (q.kids.map RT.cells)).take (min q.kids.length 3 * 4) = quad ((q.kids.take 3).map RT.cells) := by
    have e2 : quad (q.kids.map RT.cells) = quad ((q.kids.take 3).map RT.cells) ++ quad ((q.kids.drop 3).map RT.cells) := by rw [← quad_append, ← List.map_append, List.take_append_drop]
    rw [e2, List.take_append_of_le_length (by rw [quad_length, List.length_map, hl]; exact Nat.le_refl _), List.take_of_length_le (by rw [quad_length, List.length_map, hl]; exact Nat.le_refl _)]
  rw [e] at hs
  refine ⟨?_, by rw [hv]; rfl, rfl⟩
  rw [hv]
  exact ⟨A, c, by show Value.slice A (min q.kids.length 3) c = _; rw [hl], by rw [hl]; exact hs, by rw [hl]; omega, h4⟩
theorem cutKd_ok {w : World} {q : RT} : ∀ (d : Nat), okAt d q w → okAt d (cutKd q) w
  | 0, h => h.elim
  | d + 1, h => by
    obtain ⟨A, c, hv, _⟩ := h.2.1.form
    exact ⟨h.1, (cutVv_has hv h.2.1).1, fun k hk => h.2.2 k (List.mem_of_mem_take hk)⟩
theorem cutKd_sz {q : RT} : ∀ (d : Nat), szAt d q → szAt d (cutKd q)
  | 0, _ => trivial
  | d + 1, h => ⟨h.1, h.2.1, fun k hk => h.2.2 k (List.mem_of_mem_take hk)⟩
theorem sum_take_all (f : RT → Nat) (l : List RT) (k : Nat) : ((l.take k).map f).sum ≤ (l.map f).sum := by
  rw [List.map_take]; exact sum_take_le _ _
theorem cutKd_count {q : RT} : ∀ (d : Nat), countF d (cutKd q) ≤ countF d q
  | 0 => Nat.le_refl _
  | d + 1 => by
    show 1 + ((q.kids.take 3).map (countF d)).sum ≤ 1 + (q.kids.map (countF d)).sum
    have := sum_take_all (countF d) q.kids 3
    omega
theorem map_sum_le {f g : RT → Nat} : ∀ (l : List RT), (∀ x, f x ≤ g x) → (l.map f).sum ≤ (l.map g).sum
  | [], _ => Nat.le_refl _
  | x :: l, h => by
    have h1 := h x
    have h2 := map_sum_le l h
    rw [List.map_cons, List.sum_cons, List.map_cons, List.sum_cons]; omega
/-- The tree cut: its matchers' first m, its kids' first K, each with three kids. -/
def cutTr (mv kv : Value) (m K : Nat) (T : RT) : RT := .mk mv (T.ms.take m) T.nm T.goes kv ((T.kids.take K).map cutKd)
theorem cutTr_ok {w : World} {T : RT} {mv kv : Value} {m K d : Nat} (h : ∀ k ∈ T.kids, okAt d k w) (hm : HasM w mv (T.ms.take m)) (hk : HasK w kv ((T.kids.take K).map cutKd)) : okAt (d + 1) (cutTr mv kv m K T) w := by
  refine ⟨hm, hk, fun k hk2 => ?_⟩
  obtain ⟨q, hq, rfl⟩ := List.mem_map.1 hk2
  exact cutKd_ok d (h q (List.mem_of_mem_take hq))
theorem cutTr_sz {T : RT} {mv kv : Value} {m K d : Nat} (h : szAt (d + 1) T) : szAt (d + 1) (cutTr mv kv m K T) := by
  refine ⟨fun z hz => h.1 z (List.mem_of_mem_take hz), h.2.1, fun k hk2 => ?_⟩
  obtain ⟨q, hq, rfl⟩ := List.mem_map.1 hk2
  exact cutKd_sz d (h.2.2 q (List.mem_of_mem_take hq))
theorem cutTr_count {T : RT} {mv kv : Value} {m K d : Nat} : countF (d + 1) (cutTr mv kv m K T) ≤ countF (d + 1) T := by
  show 1 + (((T.kids.take K).map cutKd).map (countF d)).sum ≤ 1 + (T.kids.map (countF d)).sum
  rw [List.map_map]
  have h1 := map_sum_le (f := countF d ∘ cutKd) (g := countF d) (T.kids.take K) (fun x => cutKd_count d)
  have h2 := sum_take_all (countF d) T.kids K
  omega
theorem HasM.take {w : World} {A : Option Addr} {n c : Nat} {l : List Mtc} (h : HasM w (.slice A n c) l) (k : Nat) (hk : k ≤ n) : HasM w (.slice A k c) (l.take k) := by
  obtain ⟨A', c', h1, h2, h3, h4⟩ := h
  injection h1 with h1 h5 h6; subst h1; subst h5; subst h6
  have hl : (l.take k).length = k := by rw [List.length_take]; omega
  refine ⟨A, c, by rw [hl], ?_, by rw [hl]; omega, h4⟩
  have hs := h2.take hk
  have e : (mtcs l).take (k * 3) = mtcs (l.take k) := by
    have e2 : mtcs l = mtcs (l.take k) ++ mtcs (l.drop k) := by rw [← mtcs_append, List.take_append_drop]
    rw [e2, List.take_append_of_le_length (by rw [mtcs_length, hl]; exact Nat.le_refl _), List.take_of_length_le (by rw [mtcs_length, hl]; exact Nat.le_refl _)]
  rw [e] at hs
  rw [hl]; exact hs
theorem HasK.takeS {w : World} {A : Option Addr} {n c : Nat} {l : List RT} (h : HasK w (.slice A n c) l) (k : Nat) (hk : k ≤ n) : Sees w w.heap.size 4 A k (quad ((l.take k).map RT.cells)) := by
  obtain ⟨A', c', h1, h2, h3, h4⟩ := h
  injection h1 with h1 h5 h6; subst h1; subst h5; subst h6
  have hl : (l.take k).length = k := by rw [List.length_take]; omega
  have hs := h2.take hk
  have e : (quad (l.map RT.cells)).take (k * 4) = quad ((l.take k).map RT.cells) := by
    have e2 : quad (l.map RT.cells) = quad ((l.take k).map RT.cells) ++ quad ((l.drop k).map RT.cells) := by rw [← quad_append, ← List.map_append, List.take_append_drop]
    rw [e2, List.take_append_of_le_length (by rw [quad_length, List.length_map, hl]; exact Nat.le_refl _), List.take_of_length_le (by rw [quad_length, List.length_map, hl]; exact Nat.le_refl _)]
  rw [e] at hs; exact hs
theorem cutKd_cells {q : RT} {A : Option Addr} {n c : Nat} (hv : q.kv = .slice A n c) : (cutKd q).cells = (q.mv, .string q.nm, .bool q.goes, .slice A (min n 3) c) := by
  show (q.mv, Value.string q.nm, Value.bool q.goes, cutVv q.kv) = _
  rw [hv]; rfl
end Go.Proofs.Ytddkkfjgdfdcnaa
