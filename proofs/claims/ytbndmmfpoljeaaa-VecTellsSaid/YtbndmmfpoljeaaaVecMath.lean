/- Mathematics of vectors: keys, parts, orders. No program in it. -/
import Derived.Test.YtbndmmfpoljeaaaBase3
import Derived.Test.YtbndmmfpoljeaaaBase2
namespace Go.Proofs.Ytbndmmfpoljeaaa
open Go.ChangeShapes Go.WideShapes Go.ChangeAt Go.RowKit
set_option linter.unusedVariables false
set_option linter.unusedSimpArgs false
set_option maxRecDepth 100000
theorem place_mem (ks : List (List UInt8)) (t : List UInt8) : (placeN ks ks.length t).isSome = decide (t ∈ ks) := by
  rw [placeN_idx ks t ks.length (Nat.le_refl _), List.take_length, Option.isSome_map]
  cases e : idxG ks t with
  | none => rw [idxG_none] at e; simp [e]
  | some i =>
    have h := (idxG_some e).2
    simp [List.mem_of_getElem? h]
theorem place_mem_take (ks : List (List UInt8)) (t : List UInt8) (k : Nat) (hk : k ≤ ks.length) : (placeN ks k t).isSome = decide (t ∈ ks.take k) := by
  rw [placeN_idx ks t k hk, Option.isSome_map]
  cases e : idxG (ks.take k) t with
  | none => rw [idxG_none] at e; simp [e]
  | some i =>
    have h := (idxG_some e).2
    simp [List.mem_of_getElem? h]
theorem placeC_nodup (ks : List (List UInt8)) : ∀ k, k ≤ ks.length → placeC ks k ≤ k ∧ (placeC ks k = k ↔ (ks.take k).Nodup)
  | 0, _ => by simp [placeC]
  | k + 1, hk => by
    obtain ⟨h1, h2⟩ := placeC_nodup ks k (by omega)
    have hlt : k < ks.length := by omega
    have hg : ks.getD k [] = ks[k] := by rw [List.getD_eq_getElem?_getD, List.getElem?_eq_getElem hlt]; rfl
    unfold placeC
    rw [hg, place_mem_take ks ks[k] k (by omega), List.take_succ_eq_append_getElem hlt]
    by_cases hm : ks[k] ∈ ks.take k
    · rw [if_pos (by simpa using hm)]
      refine ⟨by omega, ⟨fun h => by omega, fun h => ?_⟩⟩
      rw [List.nodup_append] at h
      exact absurd rfl (h.2.2 _ hm _ (List.mem_singleton.2 rfl))
    · rw [if_neg (by simpa using hm)]
      refine ⟨by omega, ⟨fun h => ?_, fun h => ?_⟩⟩
      · rw [List.nodup_append]
        refine ⟨h2.1 (by omega), by simp, fun a ha b hb e => ?_⟩
        rw [List.mem_singleton] at hb; subst hb; subst e; exact hm ha
      · rw [List.nodup_append] at h
        have := h2.2 h.1; omega
theorem twice_iff (ks : List (List UInt8)) : twiceF ks = false ↔ ks.Nodup := by
  obtain ⟨h1, h2⟩ := placeC_nodup ks ks.length (Nat.le_refl _)
  rw [List.take_length] at h2
  unfold twiceF
  rw [decide_eq_false_iff_not, ← h2]
  omega
theorem among_filter (ks : List (List UInt8)) (b : Bool) (ps : List Pt) : amongF ks b ps = ps.filter fun p => decide (keyT p.1 ∈ ks) == b := by
  unfold amongF
  exact List.filter_congr fun p _ => by rw [place_mem]
/-- Two points of one text are one. -/
def TxtInj (ps : List Pt) : Prop := ∀ p ∈ ps, ∀ q ∈ ps, printL p.1 = printL q.1 → p = q
theorem pair_inj {ps : List Pt} (h : ps.Pairwise fun p q => p.1 ≠ q.1) {p q : Pt} (hp : p ∈ ps) (hq : q ∈ ps) (e : p.1 = q.1) : p = q := by
  obtain ⟨i, hi, rfl⟩ := List.getElem_of_mem hp
  obtain ⟨j, hj, rfl⟩ := List.getElem_of_mem hq
  rcases Nat.lt_trichotomy i j with h1 | rfl | h1
  · exact absurd e (List.pairwise_iff_getElem.1 h i j hi hj h1)
  · rfl
  · exact absurd e.symm (List.pairwise_iff_getElem.1 h j i hj hi h1)
theorem VecOk.inj {ps : List Pt} (h : VecOk ps) : TxtInj ps := fun p hp q hq e => pair_inj h.apart hp hq (print_inj (h.right p hp) (h.right q hq) e)
theorem TxtInj.sub {ps qs : List Pt} (h : TxtInj ps) (hs : ∀ p ∈ qs, p ∈ ps) : TxtInj qs := fun p hp q hq e => h p (hs p hp) q (hs q hq) e
theorem sortP_eq {a b : List Pt} (hp : a.Perm b) (h : TxtInj a) : sortP a = sortP b := sortK_eq hp h
theorem sortP_perm (l : List Pt) : (sortP l).Perm l := sortK_perm _ l
theorem sortP_mem {l : List Pt} {p : Pt} : p ∈ sortP l ↔ p ∈ l := sortK_mem _ l p
theorem sortP_len (l : List Pt) : (sortP l).length = l.length := sortK_length _ l
theorem sortP_twice (l : List Pt) : sortP (sortP l) = sortP l := sortK_twice _ l
/-- A list in two parts. -/
theorem parts_perm {α : Type} (l : List α) (p : α → Bool) : (l.filter p ++ l.filter fun x => !p x).Perm l := by
  induction l with
  | nil => exact List.Perm.refl _
  | cons x l ih =>
    by_cases h : p x = true
    · rw [List.filter_cons_of_pos h, List.filter_cons_of_neg (by simp [h])]
      exact List.Perm.cons x ih
    · rw [List.filter_cons_of_neg h, List.filter_cons_of_pos (by simpa using h)]
      exact List.perm_middle.trans (List.Perm.cons x ih)
theorem parts_len {α : Type} (l : List α) (p : α → Bool) : (l.filter p).length + (l.filter fun x => !p x).length = l.length := by
  have := (parts_perm l p).length_eq
  rwa [List.length_append] at this
/-- A vector in two parts, each in order, put together. -/
theorem sort_parts {ps : List Pt} (h : TxtInj ps) (f : Pt → Bool) : sortP (sortP (ps.filter f) ++ sortP (ps.filter fun x => !f x)) = sortP ps := by
  have hp : (sortP (ps.filter f) ++ sortP (ps.filter fun x => !f x)).Perm ps := ((sortP_perm _).append (sortP_perm _)).trans (parts_perm ps f)
  exact sortP_eq hp (h.sub fun p hp2 => hp.mem_iff.1 hp2)
/-- Keys. -/
theorem keysP_mem {ps : List Pt} {t : List UInt8} : t ∈ keysP ps ↔ ∃ p ∈ ps, keyT p.1 = t := by unfold keysP; rw [List.mem_map]
theorem keysP_self {ps : List Pt} {p : Pt} (h : p ∈ ps) : keyT p.1 ∈ keysP ps := keysP_mem.2 ⟨p, h, rfl⟩
theorem among_self (ps : List Pt) : amongF (keysP ps) true ps = ps := by
  rw [among_filter]
  exact List.filter_eq_self.2 fun p hp => by simp [keysP_self hp]
theorem keysP_sort (ps : List Pt) : (keysP (sortP ps)).Perm (keysP ps) := (sortP_perm ps).map _
theorem twice_perm {a b : List (List UInt8)} (h : a.Perm b) : twiceF a = twiceF b := by
  cases e : twiceF b with
  | false => rw [twice_iff] at e ⊢; exact h.nodup_iff.2 e
  | true =>
    cases e2 : twiceF a with
    | true => rfl
    | false => rw [twice_iff] at e2; have := (twice_iff b).2 (h.nodup_iff.1 e2); rw [e] at this; cases this
theorem keysP_filter_nodup {ps : List Pt} (h : (keysP ps).Nodup) (f : Pt → Bool) : (keysP (ps.filter f)).Nodup := List.Nodup.sublist (List.Sublist.map _ List.filter_sublist) h
/-- or has all of both's keys once. -/
theorem or_nodup {ps qs : List Pt} (h : (keysP ps).Nodup) (h2 : (keysP qs).Nodup) : (keysP (ps ++ amongF (keysP ps) false qs)).Nodup := by
  unfold keysP at *
  rw [List.map_append, List.nodup_append]
  refine ⟨h, ?_, fun a ha b hb e => ?_⟩
  · rw [among_filter]; exact List.Nodup.sublist (List.Sublist.map _ List.filter_sublist) h2
  · subst e
    rw [among_filter] at hb
    rw [List.mem_map] at hb
    obtain ⟨q, hq, rfl⟩ := hb
    rw [List.mem_filter] at hq
    have h3 := hq.2
    rw [decide_eq_true ha] at h3
    cases h3
theorem or_inj {ps qs : List Pt} (h : VecOk ps) (h2 : VecOk qs) : TxtInj (ps ++ amongF (keysP ps) false qs) := by
  have key : ∀ p ∈ ps, ∀ q ∈ amongF (keysP ps) false qs, printL p.1 = printL q.1 → False := fun p hp q hq e => by
    rw [among_filter, List.mem_filter] at hq
    have e2 := print_inj (h.right p hp) (h2.right q hq.1) e
    have h3 := hq.2
    rw [← e2, decide_eq_true (keysP_self hp)] at h3
    cases h3
  intro p hp q hq e
  rcases List.mem_append.1 hp with hp | hp <;> rcases List.mem_append.1 hq with hq | hq
  · exact h.inj p hp q hq e
  · exact (key p hp q hq e).elim
  · exact (key q hq p hp e.symm).elim
  · exact h2.inj p (among_mem hp) q (among_mem hq) e
theorem sort_or {ps qs : List Pt} (h : VecOk ps) (h2 : VecOk qs) : sortP (ps ++ sortP (amongF (keysP ps) false qs)) = sortP (ps ++ amongF (keysP ps) false qs) := by
  have hp : (ps ++ sortP (amongF (keysP ps) false qs)).Perm (ps ++ amongF (keysP ps) false qs) := (List.Perm.refl _).append (sortP_perm _)
  exact sortP_eq hp ((or_inj h h2).sub fun p hp2 => hp.mem_iff.1 hp2)
theorem holds_opp (k a b : Int) (h : k = 8 ∨ k = 10 ∨ k = 11) : holdsF (if k = 8 then 9 else if k = 10 then 13 else 12) a b = !holdsF k a b := by
  rcases h with rfl | rfl | rfl
  · show (a != b) = !(a == b); rfl
  · show decide (b ≤ a) = !decide (a < b); by_cases h : a < b <;> simp [h] <;> omega
  · show decide (b < a) = !decide (a ≤ b); by_cases h : a ≤ b <;> simp [h] <;> omega
theorem above_opp (k n : Int) (ps : List Pt) (h : k = 8 ∨ k = 10 ∨ k = 11) : aboveF (if k = 8 then 9 else if k = 10 then 13 else 12) n ps = ps.filter fun p => !holdsF k p.2 n := by
  unfold aboveF
  exact List.filter_congr fun p _ => holds_opp k p.2 n h
theorem le_len (n : Int) (ps : List Pt) : (aboveF 11 n ps).length = (aboveF 10 n ps).length + (aboveF 8 n ps).length := by
  induction ps with
  | nil => rfl
  | cons p ps ih =>
    unfold aboveF at *
    simp only [List.filter_cons]
    have e1 : holdsF 11 p.2 n = decide (p.2 ≤ n) := rfl
    have e2 : holdsF 10 p.2 n = decide (p.2 < n) := rfl
    have e3 : holdsF 8 p.2 n = (p.2 == n) := rfl
    rw [e1, e2, e3]
    rcases Int.lt_trichotomy p.2 n with h | h | h
    · rw [if_pos (by simp; omega), if_pos (by simp; omega), if_neg (by simp; omega)]; simp only [List.length_cons]; omega
    · rw [if_pos (by simp; omega), if_neg (by simp; omega), if_pos (by simp; omega)]; simp only [List.length_cons]; omega
    · rw [if_neg (by simp; omega), if_neg (by simp; omega), if_neg (by simp; omega)]; omega
theorem gt_len (n : Int) (ps : List Pt) : (aboveF 12 n ps).length + (aboveF 8 n ps).length = (aboveF 13 n ps).length := by
  induction ps with
  | nil => rfl
  | cons p ps ih =>
    unfold aboveF at *
    simp only [List.filter_cons]
    have e1 : holdsF 12 p.2 n = decide (n < p.2) := rfl
    have e2 : holdsF 13 p.2 n = decide (n ≤ p.2) := rfl
    have e3 : holdsF 8 p.2 n = (p.2 == n) := rfl
    rw [e1, e2, e3]
    rcases Int.lt_trichotomy p.2 n with h | h | h
    · rw [if_neg (by simp; omega), if_neg (by simp; omega), if_neg (by simp; omega)]; omega
    · rw [if_neg (by simp; omega), if_pos (by simp; omega), if_pos (by simp; omega)]; simp only [List.length_cons]; omega
    · rw [if_pos (by simp; omega), if_neg (by simp; omega), if_pos (by simp; omega)]; simp only [List.length_cons]; omega
end Go.Proofs.Ytbndmmfpoljeaaa
