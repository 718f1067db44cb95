/- The document's own answer to chapter 12, as plain propositions over a row of ticks: 0 it doesn't hold, 1 it holds, 2 its rule erred. -/
import Derived.Test.YtokcmppcmobbmaaLifeSim
namespace Go.Proofs.Ytokcmppcmobbmaa
set_option linter.unusedVariables false
/-- It holds at all ticks from one to another that didn't err. -/
def Runs (r : Nat → Int) (a b : Nat) : Prop := ∀ i, a ≤ i → i ≤ b → r i ≠ 0
/-- At each tick behind one, up to another, that didn't err, there is a tick at which it holds no more than keep behind. -/
def Stays (r : Nat → Int) (s k : Int) (a b : Nat) : Prop := ∀ i, a < i → i ≤ b → r i = 2 ∨ ∃ j, a ≤ j ∧ j ≤ i ∧ r j = 1 ∧ ((i : Int) - j) * s ≤ k
/-- It fires at a tick that didn't err. -/
def FiresAt (r : Nat → Int) (s f k : Int) (n : Nat) : Prop :=
  ∃ b, b ≤ n ∧ r b = 1 ∧ Stays r s k b n ∧ ∃ a, a ≤ b ∧ r a = 1 ∧ f ≤ ((b : Int) - a) * s ∧ Runs r a b
/-- It fires behind the first n ticks. -/
def Fires (r : Nat → Int) (s f k : Int) : Nat → Prop
  | 0 => False
  | n + 1 => (r n = 2 ∧ Fires r s f k n) ∨ (r n ≠ 2 ∧ FiresAt r s f k n)
/-- The last of the first n ticks that didn't err is m. -/
def Lst (r : Nat → Int) (n m : Nat) : Prop := m < n ∧ r m ≠ 2 ∧ ∀ i, m < i → i < n → r i = 2

theorem fires_lst {r : Nat → Int} {s f k : Int} {n : Nat} : Fires r s f k n ↔ ∃ m, Lst r n m ∧ FiresAt r s f k m := by
  induction n with
  | zero => simp [Fires, Lst]
  | succ n ih =>
    unfold Fires
    constructor
    · rintro (⟨h1, h2⟩ | ⟨h1, h2⟩)
      · obtain ⟨m, ⟨h3, h4, h5⟩, h6⟩ := ih.1 h2
        refine ⟨m, ⟨by omega, h4, fun i hi hn => ?_⟩, h6⟩
        rcases Nat.lt_or_ge i n with h | h
        · exact h5 i hi h
        · rw [show i = n by omega]; exact h1
      · exact ⟨n, ⟨by omega, h1, fun i hi hn => by omega⟩, h2⟩
    · rintro ⟨m, ⟨h3, h4, h5⟩, h6⟩
      rcases Nat.lt_or_ge m n with h | h
      · exact .inl ⟨h5 n h (by omega), ih.2 ⟨m, ⟨h, h4, fun i hi hn => h5 i hi (by omega)⟩, h6⟩⟩
      · obtain rfl : m = n := by omega
        exact .inr ⟨h4, h6⟩

/-- The alert behind the first n ticks, rows' errors left out. -/
structure Tells (r : Nat → Int) (s f k : Int) (n : Nat) (l : Lf) : Prop where
  fires : l.st = 2 ↔ Fires r s f k n
  three : l.st = 0 ∨ l.st = 1 ∨ l.st = 2
  off : l.st = 0 → l = .zero ∧ ∀ m, Lst r n m → r m = 0
  pend : l.st = 1 → ∃ x m : Nat, l.since = x ∧ Lst r n m ∧ r m = 1 ∧ x ≤ m ∧ r x = 1 ∧ Runs r x m ∧ ∀ a, a < n → r a = 1 → Runs r a m → x ≤ a
  fired : l.st = 2 → ∃ x : Nat, l.last = x ∧ x < n ∧ r x = 1 ∧ ∀ i, x < i → i < n → r i ≠ 1

theorem tells_zero (r : Nat → Int) (s f k : Int) : Tells r s f k 0 .zero :=
  ⟨by simp [Fires, Lf.zero], .inl rfl, fun _ => ⟨rfl, fun m hm => by have := hm.1; omega⟩, fun h => by simp [Lf.zero] at h, fun h => by simp [Lf.zero] at h⟩
theorem lst_err {r : Nat → Int} {n m : Nat} (he : r n = 2) : Lst r (n + 1) m ↔ Lst r n m := by
  constructor
  · rintro ⟨h1, h2, h3⟩
    have : m ≠ n := fun e => h2 (e ▸ he)
    exact ⟨by omega, h2, fun i hi hn => h3 i hi (by omega)⟩
  · rintro ⟨h1, h2, h3⟩
    refine ⟨by omega, h2, fun i hi hn => ?_⟩
    rcases Nat.lt_or_ge i n with h | h
    · exact h3 i hi h
    · rw [show i = n by omega]; exact he
theorem tells_err {r : Nat → Int} {s f k : Int} {n : Nat} {l : Lf} (h : Tells r s f k n l) (he : r n = 2) : Tells r s f k (n + 1) l := by
  refine ⟨?_, h.three, fun h0 => ⟨(h.off h0).1, fun m hm => (h.off h0).2 m ((lst_err he).1 hm)⟩, fun h1 => ?_, fun h2 => ?_⟩
  · rw [h.fires]; simp [Fires, he]
  · obtain ⟨x, m, a1, a2, a3, a4, a5, a6, a7⟩ := h.pend h1
    refine ⟨x, m, a1, (lst_err he).2 a2, a3, a4, a5, a6, fun a ha hr hru => ?_⟩
    rcases Nat.lt_or_ge a n with hh | hh
    · exact a7 a hh hr hru
    · rw [show a = n by omega, he] at hr; omega
  · obtain ⟨x, a1, a2, a3, a4⟩ := h.fired h2
    refine ⟨x, a1, by omega, a3, fun i hi hn => ?_⟩
    rcases Nat.lt_or_ge i n with hh | hh
    · exact a4 i hi hh
    · rw [show i = n by omega, he]; omega
theorem lst_exists {r : Nat → Int} {n a : Nat} (ha : a < n) (hr : r a ≠ 2) : ∃ m, Lst r n m ∧ a ≤ m := by
  induction n with
  | zero => omega
  | succ n ih =>
    by_cases he : r n = 2
    · have : a ≠ n := fun e => hr (e ▸ he)
      obtain ⟨m, h1, h2⟩ := ih (by omega)
      exact ⟨m, (lst_err he).2 h1, h2⟩
    · exact ⟨n, ⟨by omega, he, fun i hi hn => by omega⟩, by omega⟩
theorem lst_le {r : Nat → Int} {n m a : Nat} (h : Lst r n m) (ha : a < n) (hr : r a ≠ 2) : a ≤ m := by
  rcases Nat.lt_or_ge m a with h1 | h1
  · exact absurd (h.2.2 a h1 ha) hr
  · exact h1
/-- What has fired ahead fires behind the ticks up to this one. -/
theorem fires_of {r : Nat → Int} {s f k : Int} {n b a : Nat} (hb : b < n) (hr : r b = 1) (hs : Stays r s k b n) (hab : a ≤ b) (hra : r a = 1) (hf : f ≤ ((b : Int) - a) * s) (hru : Runs r a b) : Fires r s f k n := by
  obtain ⟨m, h1, h2⟩ := lst_exists hb (show r b ≠ 2 by omega)
  exact fires_lst.2 ⟨m, h1, b, h2, hr, fun i hi hm => hs i hi (by have := h1.1; omega), a, hab, hra, hf, hru⟩
theorem fires_now {r : Nat → Int} {s f k : Int} {n : Nat} (he : r n ≠ 2) : Fires r s f k (n + 1) ↔ FiresAt r s f k n := by simp [Fires, he]
theorem lst_now {r : Nat → Int} {n m : Nat} (he : r n ≠ 2) (h : Lst r (n + 1) m) : m = n := by
  have := lst_le h (show n < n + 1 by omega) he
  have := h.1; omega
theorem mul_sub_le {s : Int} {n x a : Nat} (hs : 1 ≤ s) (h : x ≤ a) : ((n : Int) - a) * s ≤ ((n : Int) - x) * s := Int.mul_le_mul_of_nonneg_right (by omega) (by omega)
theorem tells_hold {r : Nat → Int} {s f k : Int} {n : Nat} {l : Lf} (hs : 1 ≤ s) (hf : 0 ≤ f) (hk : 0 ≤ k) (h : Tells r s f k n l) (he : r n = 1) : Tells r s f k (n + 1) (l.next n s f k true) := by
  have hne : r n ≠ 2 := by omega
  have hL : nLeast s f = nUp f s := by unfold nLeast mx1; rw [if_pos hs]
  have hstay : ∀ b m, Lst r n m → Stays r s k b m → Stays r s k b n := by
    intro b m hm hst i hi hn
    rcases Nat.lt_or_ge i n with h1 | h1
    · rcases Nat.lt_or_ge m i with h2 | h2
      · exact .inl (hm.2.2 i h2 h1)
      · exact hst i hi h2
    · obtain rfl : i = n := by omega
      exact .inr ⟨i, by omega, by omega, he, by simpa using hk⟩
  have hself : Stays r s k n n := fun i hi hn => by omega
  have hnn : Runs r n n := fun i h1 h2 => by rw [show i = n by omega, he]; omega
  have e : l.next n s f k true = l.held n (nUp f s) := by unfold Lf.next; simp [hL]
  rw [e]
  rcases h.three with h0 | h1 | h2
  · obtain ⟨rfl, hz⟩ := h.off h0
    have hno : ∀ a, a < n → r a = 1 → ¬ Runs r a n := by
      intro a ha hr hru
      obtain ⟨m, hm, ham⟩ := lst_exists ha (show r a ≠ 2 by omega)
      exact hru m ham (by have := hm.1; omega) (hz m hm)
    have hup : nUp f s ≤ 0 ↔ f ≤ 0 := by have := up_le_mul (i := 0) hs hf; simpa using this
    have hfn : FiresAt r s f k n ↔ f ≤ 0 := by
      constructor
      · rintro ⟨b, hb, hr, hst, a, hab, hra, hfa, hru⟩
        rcases Nat.lt_or_ge b n with hbn | hbn
        · exact absurd (h.fires.2 (fires_of hbn hr hst hab hra hfa hru)) (by simp [Lf.zero])
        · obtain rfl : b = n := by omega
          rcases Nat.lt_or_ge a b with h3 | h3
          · exact absurd hru (hno a h3 hra)
          · obtain rfl : a = b := by omega
            simpa using hfa
      · intro hf0
        exact ⟨n, Nat.le_refl _, he, hself, n, Nat.le_refl _, he, by simpa using hf0, hnn⟩
    by_cases hc : nUp f s ≤ 0
    · have e2 : Lf.zero.held n (nUp f s) = ⟨2, n, n⟩ := by simp [Lf.held, Lf.zero, hc]
      rw [e2]
      refine ⟨by rw [fires_now hne, hfn]; simp [hup.1 hc], .inr (.inr rfl), fun h => by simp at h, fun h => by simp at h, fun _ => ⟨n, rfl, by omega, he, fun i hi hn => by omega⟩⟩
    · have e2 : Lf.zero.held n (nUp f s) = ⟨1, n, n⟩ := by simp [Lf.held, Lf.zero, hc]
      rw [e2]
      have hf0 : ¬ f ≤ 0 := fun h => hc (hup.2 h)
      refine ⟨by rw [fires_now hne, hfn]; simp [hf0], .inr (.inl rfl), fun h => by simp at h, fun _ => ⟨n, n, rfl, ⟨by omega, hne, fun i hi hn => by omega⟩, he, Nat.le_refl _, he, hnn, fun a ha hr hru => ?_⟩, fun h => by simp at h⟩
      rcases Nat.lt_or_ge a n with h3 | h3
      · exact absurd hru (hno a h3 hr)
      · exact h3
  · obtain ⟨x, m, a1, a2, a3, a4, a5, a6, a7⟩ := h.pend h1
    have hmn := a2.1
    have hrun : Runs r x n := by
      intro i hi hn
      rcases Nat.lt_or_ge i n with h3 | h3
      · rcases Nat.lt_or_ge m i with h4 | h4
        · rw [a2.2.2 i h4 h3]; omega
        · exact a6 i hi h4
      · rw [show i = n by omega, he]; omega
    have hfn : FiresAt r s f k n ↔ f ≤ ((n : Int) - x) * s := by
      constructor
      · rintro ⟨b, hb, hr, hst, a, hab, hra, hfa, hru⟩
        rcases Nat.lt_or_ge b n with hbn | hbn
        · have := h.fires.2 (fires_of hbn hr hst hab hra hfa hru); omega
        · obtain rfl : b = n := by omega
          have hxa : x ≤ a := by
            rcases Nat.lt_or_ge a b with h3 | h3
            · exact a7 a h3 hra fun i hi hm => hru i hi (by omega)
            · omega
          exact Int.le_trans hfa (mul_sub_le hs hxa)
      · intro hfx
        exact ⟨n, Nat.le_refl _, he, hself, x, by omega, a5, hfx, hrun⟩
    have hup : nUp f s ≤ (n : Int) - l.since ↔ f ≤ ((n : Int) - x) * s := by rw [a1]; exact up_le_mul hs hf
    by_cases hc : nUp f s ≤ (n : Int) - l.since
    · have e2 : l.held n (nUp f s) = ⟨2, l.since, n⟩ := by simp [Lf.held, h1, hc]
      rw [e2]
      exact ⟨by rw [fires_now hne, hfn]; simp [hup.1 hc], .inr (.inr rfl), fun h => by simp at h, fun h => by simp at h, fun _ => ⟨n, rfl, by omega, he, fun i hi hn => by omega⟩⟩
    · have e2 : l.held n (nUp f s) = ⟨1, l.since, n⟩ := by simp [Lf.held, h1, hc]
      rw [e2]
      have hf0 : ¬ f ≤ ((n : Int) - x) * s := fun h => hc (hup.2 h)
      refine ⟨by rw [fires_now hne, hfn]; simpa using hf0, .inr (.inl rfl), fun h => by simp at h, fun _ => ⟨x, n, a1, ⟨by omega, hne, fun i hi hn => by omega⟩, he, by omega, a5, hrun, fun a ha hr hru => ?_⟩, fun h => by simp at h⟩
      rcases Nat.lt_or_ge a n with h3 | h3
      · exact a7 a h3 hr fun i hi hm => hru i hi (by omega)
      · omega
  · have e2 : l.held n (nUp f s) = ⟨2, l.since, n⟩ := by simp [Lf.held, h2]
    rw [e2]
    obtain ⟨m, hm, b, hb, hr, hst, a, hab, hra, hfa, hru⟩ := fires_lst.1 (h.fires.1 h2)
    have hfn : FiresAt r s f k n := ⟨b, by have := hm.1; omega, hr, hstay b m hm hst, a, hab, hra, hfa, hru⟩
    exact ⟨by rw [fires_now hne]; simp [hfn], .inr (.inr rfl), fun h => by simp at h, fun h => by simp at h, fun _ => ⟨n, rfl, by omega, he, fun i hi hn => by omega⟩⟩
theorem most_le {s k d : Int} (hs : 1 ≤ s) (hk : 0 ≤ k) : d ≤ nMost s k ↔ d * s ≤ k := by
  unfold nMost mx1
  rw [if_pos hs, if_neg (by omega)]
  exact Int.le_ediv_iff_mul_le (by omega)
theorem tells_not {r : Nat → Int} {s f k : Int} {n : Nat} {l : Lf} (hs : 1 ≤ s) (hk : 0 ≤ k) (h : Tells r s f k n l) (he : r n = 0) : Tells r s f k (n + 1) (l.next n s f k false) := by
  have hne : r n ≠ 2 := by omega
  have hm1 := most_le (d := (n : Int) - l.last) hs hk
  have hfn : FiresAt r s f k n ↔ l.st = 2 ∧ (n : Int) - l.last ≤ nMost s k := by
    constructor
    · rintro ⟨b, hb, hr, hst, a, hab, hra, hfa, hru⟩
      have hbn : b < n := by
        rcases Nat.lt_or_ge b n with h1 | h1
        · exact h1
        · rw [show b = n by omega, he] at hr; omega
      have h2 := h.fires.2 (fires_of hbn hr hst hab hra hfa hru)
      refine ⟨h2, hm1.2 ?_⟩
      obtain ⟨x, a1, a2, a3, a4⟩ := h.fired h2
      rcases hst n hbn (Nat.le_refl _) with h3 | ⟨j, j1, j2, j3, j4⟩
      · omega
      · have hjn : j < n := by
          rcases Nat.lt_or_ge j n with h1 | h1
          · exact h1
          · rw [show j = n by omega, he] at j3; omega
        have hjx : j ≤ x := by
          rcases Nat.lt_or_ge x j with h1 | h1
          · exact absurd j3 (a4 j h1 hjn)
          · exact h1
        rw [a1]
        exact Int.le_trans (mul_sub_le hs hjx) j4
    · rintro ⟨h2, h3⟩
      have h3 := hm1.1 h3
      obtain ⟨x, a1, a2, a3, a4⟩ := h.fired h2
      rw [a1] at h3
      obtain ⟨m, hm, b, hb, hr, hst, a, hab, hra, hfa, hru⟩ := fires_lst.1 (h.fires.1 h2)
      have hmn := hm.1
      refine ⟨b, by omega, hr, fun i hi hn => ?_, a, hab, hra, hfa, hru⟩
      rcases Nat.lt_or_ge i n with h4 | h4
      · rcases Nat.lt_or_ge m i with h5 | h5
        · exact .inl (hm.2.2 i h5 h4)
        · exact hst i hi h5
      · obtain rfl : i = n := by omega
        refine .inr ⟨x, ?_, by omega, a3, h3⟩
        rcases Nat.lt_or_ge x b with h5 | h5
        · exact absurd hr (a4 b h5 (by omega))
        · exact h5
  by_cases hc : l.st = 2 ∧ (n : Int) - l.last ≤ nMost s k
  · have e : l.next n s f k false = l := by unfold Lf.next; simp [hc]
    rw [e]
    refine ⟨by rw [fires_now hne, hfn]; simp [hc], h.three, fun h => by omega, fun h => by omega, fun h2 => ?_⟩
    obtain ⟨x, a1, a2, a3, a4⟩ := h.fired h2
    refine ⟨x, a1, by omega, a3, fun i hi hn => ?_⟩
    rcases Nat.lt_or_ge i n with h4 | h4
    · exact a4 i hi h4
    · rw [show i = n by omega, he]; omega
  · have e : l.next n s f k false = .zero := by unfold Lf.next; simp [hc]
    rw [e]
    exact ⟨by rw [fires_now hne, hfn]; simp [hc, Lf.zero], .inl rfl, fun _ => ⟨rfl, fun m hm => by rw [lst_now hne hm, he]⟩, fun h => by simp [Lf.zero] at h, fun h => by simp [Lf.zero] at h⟩
end Go.Proofs.Ytokcmppcmobbmaa
