/- Chapter 16's definition over a row of ticks: more of the mathematics. -/
import Derived.Test.YtokcmppcmobbmaaLifeDef
namespace Go.Proofs.Ytokcmppcmobbmaa
set_option linter.unusedVariables false
variable {r r' : Nat → Int} {s f k : Int} {n : Nat}
/-- What the state at the last of n ticks is. -/
def StateIs (r : Nat → Int) (s f k : Int) (n : Nat) (q : Int) : Prop :=
  (q = 2 ∧ Fires r s f k n) ∨ (¬ Fires r s f k n ∧ ((q = 1 ∧ ∃ m, Lst r n m ∧ r m = 1) ∨ (q = 0 ∧ ∀ m, Lst r n m → r m ≠ 1)))
theorem StateIs.uniq {q q' : Int} (h : StateIs r s f k n q) (h' : StateIs r s f k n q') : q = q' := by
  rcases h with ⟨rfl, h⟩ | ⟨h, ⟨rfl, m, h1, h2⟩ | ⟨rfl, h1⟩⟩ <;> rcases h' with ⟨rfl, h'⟩ | ⟨h', ⟨rfl, m', h1', h2'⟩ | ⟨rfl, h1'⟩⟩
  · rfl
  · exact absurd h h'
  · exact absurd h h'
  · exact absurd h' h
  · rfl
  · exact absurd h2 (h1' m h1)
  · exact absurd h' h
  · exact absurd h2' (h1 m' h1')
  · rfl
theorem StateIs.two {q : Int} (h : StateIs r s f k n q) : q = 2 ↔ Fires r s f k n := by
  rcases h with ⟨rfl, h⟩ | ⟨h, ⟨rfl, m, h1, h2⟩ | ⟨rfl, h1⟩⟩
  · exact ⟨fun _ => h, fun _ => rfl⟩
  · exact ⟨(fun h => absurd h (by omega)), fun h' => absurd h' h⟩
  · exact ⟨(fun h => absurd h (by omega)), fun h' => absurd h' h⟩
theorem Tells.state {l : Lf} (h : Tells r s f k n l) : StateIs r s f k n l.st := by
  by_cases h2 : l.st = 2
  · exact .inl ⟨h2, h.fires.1 h2⟩
  · refine .inr ⟨fun hf => h2 (h.fires.2 hf), ?_⟩
    rcases h.three with h0 | h1 | h3
    · exact .inr ⟨h0, fun m hm => by rw [(h.off h0).2 m hm]; omega⟩
    · obtain ⟨x, m, _, hm, hr, _⟩ := h.pend h1
      exact .inl ⟨h1, m, hm, hr⟩
    · exact absurd h3 h2
theorem Tells.quick {l : Lf} (h : Tells r s 0 k n l) : l.st ≠ 1 := by
  intro h1
  obtain ⟨x, m, _, hm, hr, _⟩ := h.pend h1
  have := h.fires.2 (fires_lst.2 ⟨m, hm, m, Nat.le_refl _, hr, fun i hi hn => by omega, m, Nat.le_refl _, hr, by simp, fun i h1 h2 => by rw [show i = m by omega, hr]; omega⟩)
  omega
/-- Rows that agree on the ticks that are asked of. -/
theorem Lst.congr {m : Nat} (h : ∀ i, i < n → r i = r' i) (hl : Lst r n m) : Lst r' n m :=
  ⟨hl.1, by rw [← h m hl.1]; exact hl.2.1, fun i h1 h2 => by rw [← h i h2]; exact hl.2.2 i h1 h2⟩
theorem lst_uniq {m m' : Nat} (h : Lst r n m) (h' : Lst r n m') : m = m' := by
  have h1 := lst_le h h'.1 h'.2.1
  have h2 := lst_le h' h.1 h.2.1
  omega
/-- The last tick up to t that didn't err, or -1. -/
def KnownIs (r : Nat → Int) (t : Nat) (v : Int) : Prop := (v = -1 ∧ ∀ i, i ≤ t → r i = 2) ∨ ∃ m : Nat, v = m ∧ Lst r (t + 1) m
/-- As 'Stays', told in ticks. -/
def Kept (r : Nat → Int) (q : Int) (a b : Nat) : Prop := ∀ i, a < i → i ≤ b → r i = 2 ∨ ∃ j, a ≤ j ∧ j ≤ i ∧ r j = 1 ∧ (i : Int) - j ≤ q
theorem kept_stays {a b : Nat} (hs : 1 ≤ s) (hk : 0 ≤ k) : Kept r (nMost s k) a b ↔ Stays r s k a b := by
  constructor
  · intro h i h1 h2
    rcases h i h1 h2 with h3 | ⟨j, h3, h4, h5, h6⟩
    · exact .inl h3
    · exact .inr ⟨j, h3, h4, h5, (most_le hs hk).1 h6⟩
  · intro h i h1 h2
    rcases h i h1 h2 with h3 | ⟨j, h3, h4, h5, h6⟩
    · exact .inl h3
    · exact .inr ⟨j, h3, h4, h5, (most_le hs hk).2 h6⟩
theorem Stays.down {a b m : Nat} (hs : 1 ≤ s) (h : Stays r s k a m) (hab : a ≤ b) (hr : r b = 1) : Stays r s k b m := by
  intro i h1 h2
  rcases h i (by omega) h2 with h3 | ⟨j, h3, h4, h5, h6⟩
  · exact .inl h3
  · rcases Nat.lt_or_ge j b with h7 | h7
    · exact .inr ⟨b, Nat.le_refl _, by omega, hr, Int.le_trans (mul_sub_le hs (Nat.le_of_lt h7)) h6⟩
    · exact .inr ⟨j, h7, h4, h5, h6⟩
/-- A run up to b that is long enough begins at a. -/
def Begins (r : Nat → Int) (s f : Int) (b a : Nat) : Prop := a ≤ b ∧ r a = 1 ∧ f ≤ ((b : Int) - a) * s ∧ Runs r a b
/-- It fires at t by what held at b. -/
def FiresBy (r : Nat → Int) (s f k : Int) (t b : Nat) : Prop := r b = 1 ∧ Stays r s k b t ∧ ∃ a, Begins r s f b a
theorem firesAt_by {t : Nat} : FiresAt r s f k t ↔ ∃ b, b ≤ t ∧ FiresBy r s f k t b :=
  ⟨fun ⟨b, h1, h2, h3, a, h4⟩ => ⟨b, h1, h2, h3, a, h4⟩, fun ⟨b, h1, h2, h3, a, h4⟩ => ⟨b, h1, h2, h3, a, h4⟩⟩
theorem fires_known {m : Nat} (h : Lst r n m) : Fires r s f k n ↔ FiresAt r s f k m := by
  rw [fires_lst]
  exact ⟨fun ⟨m', h1, h2⟩ => lst_uniq h1 h ▸ h2, fun h2 => ⟨m, h, h2⟩⟩
theorem not_fires_known {t : Nat} (h : ∀ i, i ≤ t → r i = 2) : ¬ Fires r s f k (t + 1) := by
  rw [fires_lst]
  rintro ⟨m, ⟨h1, h2, _⟩, _⟩
  exact h2 (h m (by omega))
/-- A row that holds wherever another one does, and errs where that does. -/
structure Holds (r r' : Nat → Int) : Prop where
  on : ∀ i, r i = 1 → r' i = 1
  err : ∀ i, r i = 2 ↔ r' i = 2
  off : ∀ i, r i ≠ 0 → r' i ≠ 0
theorem Holds.fires (h : Holds r r') (hf : Fires r s f k n) : Fires r' s f k n := by
  obtain ⟨m, ⟨h1, h2, h3⟩, b, h4, h5, h6, a, h7, h8, h9, h10⟩ := fires_lst.1 hf
  refine fires_lst.2 ⟨m, ⟨h1, fun h' => h2 ((h.err _).2 h'), fun i hi hn => (h.err _).1 (h3 i hi hn)⟩, b, h4, h.on _ h5, fun i hi hn => ?_, a, h7, h.on _ h8, h9, fun i hi hn => h.off _ (h10 i hi hn)⟩
  rcases h6 i hi hn with h' | ⟨j, j1, j2, j3, j4⟩
  · exact .inl ((h.err _).1 h')
  · exact .inr ⟨j, j1, j2, h.on _ j3, j4⟩
theorem Fires.keep {d : Int} (hd : 0 ≤ d) (hf : Fires r s f k n) : Fires r s f (k + d) n := by
  obtain ⟨m, h1, b, h4, h5, h6, h7⟩ := fires_lst.1 hf
  refine fires_lst.2 ⟨m, h1, b, h4, h5, fun i hi hn => ?_, h7⟩
  rcases h6 i hi hn with h' | ⟨j, j1, j2, j3, j4⟩
  · exact .inl h'
  · exact .inr ⟨j, j1, j2, j3, by omega⟩
theorem Fires.wait {d : Int} (hd : 0 ≤ d) (hf : Fires r s (f + d) k n) : Fires r s f k n := by
  obtain ⟨m, h1, b, h4, h5, h6, a, h7, h8, h9, h10⟩ := fires_lst.1 hf
  exact fires_lst.2 ⟨m, h1, b, h4, h5, h6, a, h7, h8, by omega, h10⟩
theorem fires_off {t : Nat} : ¬ Fires (fun _ => 0) s f k n := by
  intro hf
  obtain ⟨m, _, b, _, h, _⟩ := fires_lst.1 hf
  cases h
theorem state_off : StateIs (fun _ => 0) s f k n 0 := .inr ⟨fires_off (t := 0), .inr ⟨rfl, fun m _ => by simp⟩⟩
theorem fires_on {t : Nat} (hs : 1 ≤ s) (hk : 0 ≤ k) : Fires (fun _ => 1) s f k (t + 1) ↔ f ≤ (t : Int) * s := by
  have hl : Lst (fun _ => (1 : Int)) (t + 1) t := ⟨by omega, by simp, fun i h1 h2 => by omega⟩
  rw [fires_known hl]
  constructor
  · rintro ⟨b, h1, _, _, a, h2, _, h3, _⟩
    refine Int.le_trans h3 (Int.mul_le_mul_of_nonneg_right (by omega) (by omega))
  · intro h
    exact ⟨t, Nat.le_refl _, rfl, fun i h1 h2 => by omega, 0, Nat.zero_le _, rfl, by simpa using h, fun i _ _ => by simp⟩
theorem fires_congr (h : ∀ i, i < n → r i = r' i) (hf : Fires r s f k n) : Fires r' s f k n := by
  obtain ⟨m, h1, b, h4, h5, h6, a, h7, h8, h9, h10⟩ := fires_lst.1 hf
  have hm := h1.1
  refine fires_lst.2 ⟨m, h1.congr h, b, h4, by rw [← h b (by omega)]; exact h5, fun i hi hn => ?_, a, h7, by rw [← h a (by omega)]; exact h8, h9, fun i hi hn => by rw [← h i (by omega)]; exact h10 i hi hn⟩
  rcases h6 i hi hn with h' | ⟨j, j1, j2, j3, j4⟩
  · exact .inl (by rw [← h i (by omega)]; exact h')
  · exact .inr ⟨j, j1, j2, by rw [← h j (by omega)]; exact j3, j4⟩
/-- How a tick is told by a number of nought to eight. -/
def cls (x : Int) : Int := if x = 8 then 2 else if 5 < x then 0 else 1
theorem cls_three (x : Int) : cls x = 0 ∨ cls x = 1 ∨ cls x = 2 := by unfold cls; split <;> (try split) <;> simp
end Go.Proofs.Ytokcmppcmobbmaa
