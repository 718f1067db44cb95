/- A text that is cut into these tokens, whatever stands behind. -/
import Derived.Test.YtnkbpcenkbihpaaDoorTokMath2
namespace Go.Proofs.YtnkbpcenkbihpaaDoor
open Go.ChangeShapes Go.WideShapes Go.ChangeAt Go.RowKit
set_option linter.unusedVariables false
set_option linter.unusedSimpArgs false
set_option maxRecDepth 100000
/-- A token so much further. -/
def shiftT (k : Nat) (t : Tok) : Tok := ⟨t.kd, t.n, t.at_ + k, t.tx⟩
theorem shift_shift (j k : Nat) (ts : List Tok) : (ts.map (shiftT j)).map (shiftT k) = ts.map (shiftT (j + k)) := by
  rw [List.map_map]
  refine List.map_congr_left fun t _ => ?_
  show (⟨t.kd, t.n, t.at_ + j + k, t.tx⟩ : Tok) = ⟨t.kd, t.n, t.at_ + ((j + k : Nat) : Int), t.tx⟩
  congr 1; omega
theorem shift_zero (ts : List Tok) : ts.map (shiftT 0) = ts := by
  conv => rhs; rw [← List.map_id ts]
  refine List.map_congr_left fun t _ => ?_
  show (⟨t.kd, t.n, t.at_ + ((0 : Nat) : Int), t.tx⟩ : Tok) = t
  cases t; congr 1; simp
/-- This text, with that rest behind it, is cut into these tokens. -/
inductive CutR : List UInt8 → List Tok → List UInt8 → Prop
  | nil (rest : List UInt8) : CutR [] [] rest
  | blank {l : List UInt8} {ts : List Tok} {rest : List UInt8} (b : UInt8) (hb : (b.toNat == 32 || b.toNat == 10) = true) (h : CutR l ts rest) : CutR (b :: l) (ts.map (shiftT 1)) rest
  | tok {l : List UInt8} {ts : List Tok} {rest : List UInt8} (t : Tok) (ht : okTok t) (h0 : t.at_ = 0) (hf : FollowL t (l ++ rest)) (h : CutR l ts rest) : CutR (tokL t ++ l) (t :: ts.map (shiftT (tokL t).length)) rest
theorem CutR.append {l l2 : List UInt8} {ts ts2 : List Tok} {rest rest2 : List UInt8} (h : CutR l ts rest) (h2 : CutR l2 ts2 rest2) (e : rest = l2 ++ rest2) : CutR (l ++ l2) (ts ++ ts2.map (shiftT l.length)) rest2 := by
  induction h with
  | nil rest => simpa [shift_zero] using h2
  | blank b hb h ih =>
    have := CutR.blank b hb (ih e)
    rw [List.map_append, shift_shift] at this
    exact this
  | @tok l ts rest t ht h0 hf h ih =>
    have h3 := CutR.tok t ht h0 (l := l ++ l2) (rest := rest2) (by rw [List.append_assoc, ← e]; exact hf) (ih e)
    rw [List.map_append, shift_shift] at h3
    rw [List.append_assoc, List.cons_append, List.length_append, Nat.add_comm]
    exact h3
theorem CutR.go {l : List UInt8} {ts : List Tok} {rest : List UInt8} (h : CutR l ts rest) : ∀ (f f' a : Nat) (acc : List Tok), (l ++ rest).length < f → rest.length < f' → acc.length + ts.length ≤ 400 →
    tokGo f (l ++ rest) a acc = tokGo f' rest (a + l.length) (acc ++ ts.map (shiftT a)) := by
  induction h with
  | nil rest =>
    intro f f' a acc hf hf' hl
    simp only [List.nil_append, List.length_nil, Nat.add_zero, List.map_nil, List.append_nil]
    exact tokGo_fuel f f' rest a acc (by simpa using hf) hf'
  | @blank l ts rest b hb h ih =>
    intro f f' a acc hf hf' hl
    cases f with
    | zero => omega
    | succ f =>
      rw [List.cons_append, List.length_cons] at hf
      rw [List.length_map] at hl
      rw [List.cons_append]
      conv => lhs; unfold tokGo
      simp only
      rw [if_pos hb, ih f f' (a + 1) acc (by omega) hf' hl, shift_shift, List.length_cons]
      congr 1
      · omega
      · rw [Nat.add_comm]
  | @tok l ts rest t ht h0 hfl h ih =>
    intro f f' a acc hf hf' hl
    obtain ⟨hfirst, c, r, ec, hcb⟩ := first_spell ht hfl
    cases f with
    | zero => omega
    | succ f =>
      rw [List.append_assoc] at hf ⊢
      rw [List.length_cons, List.length_map] at hl
      have hlen : (tokL t).length = r.length + 1 := by rw [ec]; rfl
      have e2 : tokL t ++ (l ++ rest) = c :: (r ++ (l ++ rest)) := by rw [ec]; rfl
      rw [List.length_append] at hf
      conv => lhs; rw [e2]; unfold tokGo
      simp only
      rw [if_neg (by rw [hcb]; simp), if_neg (by omega), ← e2, hfirst]
      simp only
      rw [if_neg (by omega), List.drop_left, ih f f' (a + (tokL t).length) _ (by omega) hf' (by rw [List.length_append, List.length_singleton]; omega)]
      rw [List.map_cons, shift_shift, List.length_append]
      congr 1
      · omega
      · rw [List.append_assoc, List.singleton_append, Nat.add_comm (tokL t).length a]
        congr 2
        show (⟨t.kd, t.n, (a : Int), t.tx⟩ : Tok) = ⟨t.kd, t.n, t.at_ + (a : Int), t.tx⟩
        rw [h0, Int.zero_add]
/-- A whole text's tokens. -/
theorem CutR.tokF {l : List UInt8} {ts : List Tok} (h : CutR l ts []) (hl : ts.length ≤ 400) : tokF l = (ts, l.length) := by
  have h1 := h.go (l.length + 1) 1 0 [] (by simp) (by simp) (by simpa using hl)
  rw [List.append_nil] at h1
  unfold Go.Proofs.YtnkbpcenkbihpaaDoor.tokF
  rw [h1, shift_zero, Nat.zero_add]; rfl
theorem CutR.ok {l : List UInt8} {ts : List Tok} {rest : List UInt8} (h : CutR l ts rest) : ∀ t ∈ ts, okTok t := by
  induction h with
  | nil => intro t ht; exact absurd ht List.not_mem_nil
  | blank b hb h ih =>
    intro t ht
    obtain ⟨x, hx, rfl⟩ := List.mem_map.1 ht
    exact ih x hx
  | tok t ht h0 hf h ih =>
    intro x hx
    rcases List.mem_cons.1 hx with rfl | hx
    · exact ht
    · obtain ⟨y, hy, rfl⟩ := List.mem_map.1 hx
      exact ih y hy
/-- Where a token stands. -/
def Stands (l : List UInt8) (t : Tok) : Prop := ∃ a : Nat, t.at_ = (a : Int) ∧ a + (tokL t).length ≤ l.length ∧ (l.drop a).take (tokL t).length = tokL t ∧ 0 < (tokL t).length
theorem tokL_shift (k : Nat) (t : Tok) : tokL (shiftT k t) = tokL t := rfl
theorem Stands.shift {l p : List UInt8} {t : Tok} (h : Stands l t) : Stands (p ++ l) (shiftT p.length t) := by
  obtain ⟨a, h1, h2, h3, h4⟩ := h
  refine ⟨a + p.length, by show t.at_ + (p.length : Int) = _; rw [h1]; omega, by rw [tokL_shift, List.length_append]; omega, ?_, h4⟩
  rw [tokL_shift, Nat.add_comm, ← List.drop_drop, List.drop_left]
  exact h3
theorem CutR.stands {l : List UInt8} {ts : List Tok} {rest : List UInt8} (h : CutR l ts rest) : (∀ t ∈ ts, Stands l t) ∧ ts.Pairwise fun x y => x.at_ < y.at_ := by
  induction h with
  | nil => exact ⟨fun t ht => absurd ht List.not_mem_nil, List.Pairwise.nil⟩
  | @blank l ts rest b hb h ih =>
    refine ⟨fun t ht => ?_, ?_⟩
    · obtain ⟨x, hx, rfl⟩ := List.mem_map.1 ht
      exact (ih.1 x hx).shift (p := [b])
    · rw [List.pairwise_map]
      exact ih.2.imp fun {x y} h => by show x.at_ + (1 : Nat) < y.at_ + (1 : Nat); omega
  | @tok l ts rest t ht h0 hf h ih =>
    obtain ⟨_, c, r, ec, _⟩ := first_spell ht hf
    have hlen : 0 < (tokL t).length := by rw [ec]; simp
    refine ⟨fun x hx => ?_, ?_⟩
    · rcases List.mem_cons.1 hx with rfl | hx
      · exact ⟨0, h0, by rw [List.length_append]; omega, by simp, hlen⟩
      · obtain ⟨y, hy, rfl⟩ := List.mem_map.1 hx
        exact (ih.1 y hy).shift
    · rw [List.pairwise_cons]
      refine ⟨fun x hx => ?_, ?_⟩
      · obtain ⟨y, hy, rfl⟩ := List.mem_map.1 hx
        obtain ⟨a, h1, _⟩ := ih.1 y hy
        show t.at_ < y.at_ + ((tokL t).length : Int)
        rw [h0, h1]; omega
      · rw [List.pairwise_map]
        exact ih.2.imp fun {x y} h => by show x.at_ + ((tokL t).length : Int) < y.at_ + ((tokL t).length : Int); omega
/-- Tokens alike but for their places. -/
def alike (x y : Tok) : Prop := x.kd = y.kd ∧ x.n = y.n ∧ x.tx = y.tx
theorem follow_blank {t : Tok} (h : okTok t) (b : UInt8) (hb : b = 32 ∨ b = 10) : follow t b = true := by
  rcases h with ⟨h1, _⟩ | ⟨h1, _⟩ | ⟨h1, _⟩ | ⟨h1, _⟩ <;> unfold follow <;> rw [h1]
  · rcases hb with rfl | rfl <;> rfl
  · rcases hb with rfl | rfl <;> rfl
  · rfl
  · show signOk _ b = true
    unfold signOk
    split
    · rcases hb with rfl | rfl <;> decide
    · split
      · rcases hb with rfl | rfl <;> decide
      · rfl
/-- Rows of tokens alike but for their places. -/
inductive AlikeL : List Tok → List Tok → Prop where
  | nil : AlikeL [] []
  | cons {x y : Tok} {l m : List Tok} (h : alike x y) (t : AlikeL l m) : AlikeL (x :: l) (y :: m)
theorem AlikeL.len {l m : List Tok} (h : AlikeL l m) : l.length = m.length := by
  induction h with
  | nil => rfl
  | cons _ _ ih => simp [ih]
theorem AlikeL.get {l m : List Tok} (h : AlikeL l m) : ∀ (i : Nat) (h1 : i < l.length) (h2 : i < m.length), alike l[i] m[i] := by
  induction h with
  | nil => intro i h1; exact absurd h1 (by simp)
  | cons h t ih =>
    intro i h1 h2
    cases i with
    | zero => exact h
    | succ i => exact ih i _ _
theorem AlikeL.join {l m : List Tok} (h : AlikeL l m) : joinT l = joinT m := by
  induction h with
  | nil => rfl
  | @cons x y l m h t ih =>
    have he : l.isEmpty = m.isEmpty := by cases t <;> rfl
    have hx : tokL x = tokL y := by unfold tokL; rw [h.1, h.2.1, h.2.2]
    unfold joinT
    rw [hx, he, ih]
/-- Tokens joined are cut into the same ones. -/
theorem joinT_cut : ∀ (ts : List Tok), (∀ t ∈ ts, okTok t) → ∃ us, CutR (joinT ts) us [] ∧ AlikeL us ts
  | [], _ => ⟨[], CutR.nil [], .nil⟩
  | t :: ts, h => by
    obtain ⟨us, h1, h2⟩ := joinT_cut ts (fun x hx => h x (List.mem_cons_of_mem _ hx))
    have ht := h t List.mem_cons_self
    have ht0 : okTok ⟨t.kd, t.n, 0, t.tx⟩ := ht
    have hal : ∀ (k : Nat) (vs ws : List Tok), AlikeL vs ws → AlikeL (vs.map (shiftT k)) ws := by
      intro k vs ws h
      induction h with
      | nil => exact .nil
      | cons h _ ih => exact .cons h ih
    cases ts with
    | nil =>
      refine ⟨[⟨t.kd, t.n, 0, t.tx⟩], ?_, .cons ⟨rfl, rfl, rfl⟩ .nil⟩
      have := CutR.tok (l := []) (ts := []) (rest := []) ⟨t.kd, t.n, 0, t.tx⟩ ht0 rfl (fun c q e => by cases e) (CutR.nil [])
      exact this
    | cons y ts =>
      have h3 := CutR.tok (l := 32 :: joinT (y :: ts)) (rest := []) ⟨t.kd, t.n, 0, t.tx⟩ ht0 rfl (fun c q e => by
        rw [List.append_nil] at e
        injection e with e _
        rw [← e]; exact follow_blank ht0 32 (.inl rfl)) (CutR.blank 32 rfl h1)
      exact ⟨_, h3, .cons ⟨rfl, rfl, rfl⟩ (hal _ _ _ (hal _ _ _ h2))⟩
end Go.Proofs.YtnkbpcenkbihpaaDoor
