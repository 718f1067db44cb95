/- Where a series may change: the plain mathematics. -/
import Derived.Test.YthbinnbnmckmfaaSerP
import Derived.Test.YthbinnbnmckmfaaBase2
namespace Go.Proofs.Ythbinnbnmckmfaa
open Go.ChangeShapes Go.WideShapes Go.ChangeAt Go.RowKit
set_option linter.unusedVariables false
set_option maxRecDepth 100000
/-- Is the i'th sample at t? Does it end there? -/
def sAt (L : List (Int × Int)) (t : Int) (i : Nat) : Bool := match L[i]? with | none => false | some x => x.1 == t
def eAt (L : List (Int × Int)) (k t : Int) (i : Nat) : Bool := match L[i]? with | none => false | some x => (x.1 + k == t) && (match L[i + 1]? with | none => true | some y => decide (t < y.1))
def sUp (L : List (Int × Int)) (t : Int) (j : Nat) : Bool := (List.range j).any (sAt L t)
def eUp (L : List (Int × Int)) (k t : Int) (j : Nat) : Bool := (List.range j).any (eAt L k t)
theorem sUp_snoc (L : List (Int × Int)) (t : Int) (j : Nat) : sUp L t (j + 1) = (sUp L t j || sAt L t j) := by
  unfold sUp; rw [List.range_succ, List.any_append]; simp
theorem eUp_snoc (L : List (Int × Int)) (k t : Int) (j : Nat) : eUp L k t (j + 1) = (eUp L k t j || eAt L k t j) := by
  unfold eUp; rw [List.range_succ, List.any_append]; simp
theorem sAt_of {L : List (Int × Int)} {t : Int} {i : Nat} (h : i < L.length) : sAt L t i = (L[i].1 == t) := by
  unfold sAt; rw [List.getElem?_eq_getElem h]
theorem eAt_last {L : List (Int × Int)} {k t : Int} {i : Nat} (h : i < L.length) (h2 : i + 1 = L.length) : eAt L k t i = (L[i].1 + k == t) := by
  unfold eAt; rw [List.getElem?_eq_getElem h, List.getElem?_eq_none (by omega)]; simp
theorem eAt_mid {L : List (Int × Int)} {k t : Int} {i : Nat} (h : i < L.length) (h2 : i + 1 < L.length) : eAt L k t i = ((L[i].1 + k == t) && decide (t < L[i + 1].1)) := by
  unfold eAt; rw [List.getElem?_eq_getElem h, List.getElem?_eq_getElem h2]
theorem sUp_cons (x : Int × Int) (L : List (Int × Int)) (t : Int) (j : Nat) : sUp (x :: L) t (j + 1) = ((x.1 == t) || sUp L t j) := by
  unfold sUp; rw [List.range_succ_eq_map, List.any_cons, List.any_map]; rfl
theorem eUp_cons (x : Int × Int) (L : List (Int × Int)) (k t : Int) (j : Nat) : eUp (x :: L) k t (j + 1) = (eAt (x :: L) k t 0 || eUp L k t j) := by
  unfold eUp; rw [List.range_succ_eq_map, List.any_cons, List.any_map]; rfl
theorem mem_inR (f t x z : Int) : z ∈ inR f t x ↔ (f ≤ x ∧ x ≤ t) ∧ z = x := by
  unfold inR; split
  · rename_i h; simp [h]
  · rename_i h; exact ⟨fun h2 => (by cases h2), fun h2 => absurd h2.1 h⟩
theorem mem_chg (k f t : Int) (L : List (Int × Int)) (z : Int) : z ∈ chg k f t L ↔ (f ≤ z ∧ z ≤ t) ∧ (sUp L z L.length = true ∨ eUp L k z L.length = true) := by
  induction L with
  | nil => simp [chg, sUp, eUp]
  | cons x r ih =>
    rw [List.length_cons, sUp_cons, eUp_cons]
    simp only [Bool.or_eq_true]
    cases r with
    | nil =>
      rw [eAt_last (by simp) (by simp)]
      simp only [chg, List.mem_append, mem_inR, List.length_nil, sUp, eUp, List.range_zero, List.any_nil, Bool.false_eq_true, or_false, List.getElem_cons_zero, beq_iff_eq]
      constructor
      · rintro (⟨h, rfl⟩ | ⟨h, rfl⟩)
        · exact ⟨h, .inl rfl⟩
        · exact ⟨h, .inr rfl⟩
      · rintro ⟨h, e | e⟩
        · exact .inl ⟨by rw [e]; exact h, e.symm⟩
        · exact .inr ⟨by rw [e]; exact h, e.symm⟩
    | cons y r =>
      rw [eAt_mid (by simp) (by simp)]
      simp only [chg, List.mem_append, ih, List.getElem_cons_zero, List.getElem_cons_succ, Bool.and_eq_true, beq_iff_eq, decide_eq_true_eq, mem_inR]
      constructor
      · rintro ((⟨h, rfl⟩ | h) | ⟨h, h2⟩)
        · exact ⟨h, .inl (.inl rfl)⟩
        · split at h
          · rename_i hlt
            rw [mem_inR] at h
            obtain ⟨h, rfl⟩ := h
            exact ⟨h, .inr (.inl ⟨rfl, hlt⟩)⟩
          · cases h
        · exact ⟨h, h2.elim (fun h => .inl (.inr h)) (fun h => .inr (.inr h))⟩
      · rintro ⟨h, (e | e) | (⟨e, e2⟩ | e)⟩
        · exact .inl (.inl ⟨by rw [e]; exact h, e.symm⟩)
        · exact .inr ⟨h, .inl e⟩
        · refine .inl (.inr ?_)
          rw [if_pos (by omega), mem_inR]
          exact ⟨by rw [e]; exact h, e.symm⟩
        · exact .inr ⟨h, .inr e⟩
theorem chg_from (k f t : Int) (hk : 1 ≤ k) (L : List (Int × Int)) (a b : Int) (h : Rises a b L) : ∀ z ∈ chg k f t L, a < z := by
  induction L generalizing a with
  | nil => intro z hz; simp [chg] at hz
  | cons x r ih =>
    obtain ⟨h1, h2, h3⟩ := h
    intro z hz
    cases r with
    | nil =>
      simp only [chg, List.mem_append, mem_inR] at hz
      rcases hz with ⟨_, rfl⟩ | ⟨_, rfl⟩ <;> omega
    | cons y r =>
      simp only [chg, List.mem_append, mem_inR] at hz
      rcases hz with (⟨_, rfl⟩ | hz) | hz
      · exact h1
      · split at hz
        · rw [mem_inR] at hz; omega
        · cases hz
      · have := ih x.1 h3 z hz; omega
theorem pw_inR (f t x : Int) : (inR f t x).Pairwise (· < ·) := by unfold inR; split <;> simp
theorem chg_rises (k f t : Int) (hk : 1 ≤ k) (L : List (Int × Int)) (a b : Int) (h : Rises a b L) : (chg k f t L).Pairwise (· < ·) := by
  induction L generalizing a with
  | nil => simp [chg]
  | cons x r ih =>
    obtain ⟨h1, h2, h3⟩ := h
    cases r with
    | nil =>
      rw [chg, List.pairwise_append]
      refine ⟨pw_inR _ _ _, pw_inR _ _ _, fun p hp q hq => ?_⟩
      rw [mem_inR] at hp hq; omega
    | cons y r =>
      have hy := h3.1
      have hf := chg_from k f t hk (y :: r) (y.1 - 1) b ⟨by omega, h3.2.1, h3.2.2⟩
      rw [chg, List.pairwise_append, List.pairwise_append]
      refine ⟨⟨pw_inR _ _ _, by split <;> first | exact pw_inR _ _ _ | exact List.Pairwise.nil, fun p hp q hq => ?_⟩, ih x.1 h3, fun p hp q hq => ?_⟩
      · rw [mem_inR] at hp
        split at hq
        · rw [mem_inR] at hq; omega
        · cases hq
      · have h9 := hf q hq
        rcases List.mem_append.1 hp with hp | hp
        · rw [mem_inR] at hp; omega
        · split at hp
          · rw [mem_inR] at hp; omega
          · cases hp
theorem chg_next {C : List Int} (h : C.Pairwise (· < ·)) {i : Nat} (hi : i + 1 < C.length) : C[i] < C[i + 1] := List.pairwise_iff_getElem.1 h i (i + 1) (by omega) hi (by omega)
theorem beh_same {L : List (Int × Int)} {t : Int} (h : sUp L t L.length = false) : nBeh L t = nBeh L (t - 1) := by
  induction L with
  | nil => rfl
  | cons x r ih =>
    rw [List.length_cons, sUp_cons, Bool.or_eq_false_iff] at h
    have hx : x.1 ≠ t := by simpa using h.1
    have := ih h.2
    unfold nBeh at this ⊢
    by_cases hx2 : x.1 ≤ t
    · rw [List.takeWhile_cons_of_pos (by simpa using hx2), List.takeWhile_cons_of_pos (by simp; omega), List.length_cons, List.length_cons, this]
    · rw [List.takeWhile_cons_of_neg (by simpa using hx2), List.takeWhile_cons_of_neg (by simp; omega)]
theorem eUp_of {L : List (Int × Int)} {k t : Int} {j : Nat} (hj : j < L.length) (h : eAt L k t j = true) : eUp L k t L.length = true := by
  unfold eUp; rw [List.any_eq_true]; exact ⟨j, List.mem_range.2 hj, h⟩
theorem nBeh_after {ss : List (Int × Int)} {t : Int} {j : Nat} (hn : nBeh ss t = j) (h : j < ss.length) : t < ss[j].1 := by
  induction ss generalizing j with
  | nil => simp at h
  | cons x ss ih =>
    unfold nBeh at hn ih
    by_cases hx : x.1 ≤ t
    · rw [List.takeWhile_cons_of_pos (by simpa using hx), List.length_cons] at hn
      subst hn
      exact ih rfl (by simpa using h)
    · rw [List.takeWhile_cons_of_neg (by simpa using hx)] at hn
      simp at hn; subst hn; simpa using hx
theorem at_same {L : List (Int × Int)} {k t : Int} (h : sUp L t L.length = false) (h2 : eUp L k t L.length = false) : atF L t k = atF L (t - 1) k := by
  have hb := beh_same h
  cases hn : nBeh L t with
  | zero => rw [atF_zero hn, atF_zero (by rw [← hb]; exact hn)]
  | succ j =>
    have hj : j < L.length := by have := nBeh_le L t; omega
    rw [atF_succ hn hj, atF_succ (by rw [← hb]; exact hn) hj]
    by_cases he : L[j].1 + k = t
    · exfalso
      have : eAt L k t j = true := by
        by_cases h3 : j + 1 = L.length
        · rw [eAt_last hj h3]; simpa using he
        · rw [eAt_mid hj (by omega)]
          have := nBeh_after hn (by omega)
          simp [he, this]
      rw [eUp_of hj this] at h2; cases h2
    · by_cases h4 : L[j].1 ≤ t - k
      · rw [if_pos h4, if_pos (by omega)]
      · rw [if_neg h4, if_neg (by omega)]
end Go.Proofs.Ythbinnbnmckmfaa
