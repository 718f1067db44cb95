/- LexCuts: two texts one behind the other; a byte that begins no token. -/
import Derived.Test.YtealflkblkfhbaaDoorPrintCut
namespace Go.Proofs.YtealflkblkfhbaaDoor
open Go.ChangeShapes Go.WideShapes Go.ChangeAt Go.RowKit
set_option linter.unusedVariables false
set_option linter.unusedSimpArgs false
set_option maxRecDepth 100000
theorem CutR.weak {l : List UInt8} {ts : List Tok} {rest : List UInt8} (h : CutR l ts rest) : CutR l ts [] := by
  induction h with
  | nil rest => exact CutR.nil []
  | blank b hb h ih => exact CutR.blank b hb ih
  | @tok l ts rest t ht h0 hf h ih =>
    refine CutR.tok t ht h0 (fun c r e => ?_) ih
    rw [List.append_nil] at e
    exact hf c (r ++ rest) (by rw [e]; rfl)
/-- Two texts with blanks between. -/
theorem two_cut {l m : List UInt8} {ts us : List Tok} (h : CutR l ts (32 :: 32 :: 10 :: m)) (h2 : CutR m us []) : CutR (l ++ (32 :: 32 :: 10 :: m)) (ts ++ us.map (shiftT (l.length + 3))) [] := by
  have h3 := CutR.blank 32 rfl (CutR.blank 32 rfl (CutR.blank 10 rfl h2))
  have h4 := h.append h3 (by simp)
  rw [shift_shift, shift_shift, shift_shift] at h4
  rw [show l.length + 3 = 1 + (1 + (1 + l.length)) by omega]
  exact h4
theorem signIn_none (l : List UInt8) : ∀ (L : List ByteArray), (∀ x ∈ L, Lib.hasPrefix l x.data.toList = false) → signIn l L = none
  | [], _ => rfl
  | x :: L, h => by
    rw [signIn_go l x L (h x List.mem_cons_self)]
    exact signIn_none l L fun y hy => h y (List.mem_cons_of_mem _ hy)
theorem first_dollar (m : List UInt8) : firstT ⟨(36 :: m).toArray⟩ = none := by
  unfold firstT
  rw [ba_mk]
  rw [if_neg (by unfold isNum; simp [digitN]), if_neg (by simp [smallN]), if_neg (by simp)]
  refine signIn_none _ _ fun x hx => ?_
  obtain ⟨c, r, e, _⟩ := sign_head hx
  have h36 : ∀ x ∈ signsL, (x.data.toList.headD 0 == 36) = false := by decide
  have := h36 x hx
  rw [e] at this ⊢
  have hc : c ≠ 36 := by
    intro hc
    rw [hc] at this
    cases this
  show (c :: r).isPrefixOf (36 :: m) = false
  rw [List.isPrefixOf_cons_cons, beq_eq_false_iff_ne.2 hc]; rfl
/-- .. is where the text is left. -/
theorem dollar_cut {l m : List UInt8} {us : List Tok} (h : CutR l us (32 :: 36 :: 32 :: m)) (hl : us.length ≤ 400) : tokF (l ++ (32 :: 36 :: 32 :: m)) = (us, l.length + 1) := by
  unfold Go.Proofs.YtealflkblkfhbaaDoor.tokF
  rw [h.go _ (m.length + 4) 0 [] (by simp) (by simp) (by simpa using hl), shift_zero]
  simp only [List.nil_append, Nat.zero_add]
  unfold tokGo
  simp only
  rw [if_pos (by decide)]
  unfold tokGo
  simp only
  rw [if_neg (by decide)]
  split
  · rfl
  · rw [first_dollar]
/-- Tokens joined, whatever blank stands behind. -/
theorem joinT_cut2 (rest : List UInt8) : ∀ (ts : List Tok), (∀ t ∈ ts, okTok t) → ∃ us, CutR (joinT ts) us (32 :: rest) ∧ AlikeL us ts
  | [], _ => ⟨[], CutR.nil _, .nil⟩
  | t :: ts, h => by
    obtain ⟨us, h1, h2⟩ := joinT_cut2 rest ts (fun x hx => h x (List.mem_cons_of_mem _ hx))
    have ht := h t List.mem_cons_self
    have ht0 : okTok ⟨t.kd, t.n, 0, t.tx⟩ := ht
    have hal : ∀ (k : Nat) (vs ws : List Tok), AlikeL vs ws → AlikeL (vs.map (shiftT k)) ws := by
      intro k vs ws h
      induction h with
      | nil => exact .nil
      | cons h _ ih => exact .cons h ih
    cases ts with
    | nil =>
      refine ⟨[⟨t.kd, t.n, 0, t.tx⟩], ?_, .cons ⟨rfl, rfl, rfl⟩ .nil⟩
      have := CutR.tok (l := []) (ts := []) (rest := 32 :: rest) ⟨t.kd, t.n, 0, t.tx⟩ ht0 rfl (fun c q e => by
        injection e with e _
        rw [← e]; exact follow_blank ht0 32 (.inl rfl)) (CutR.nil _)
      simp only [joinT, List.isEmpty_nil, if_true]
      exact this
    | cons y ts =>
      have h3 := CutR.tok (l := 32 :: joinT (y :: ts)) (rest := 32 :: rest) ⟨t.kd, t.n, 0, t.tx⟩ ht0 rfl (fun c q e => by
        injection e with e _
        rw [← e]; exact follow_blank ht0 32 (.inl rfl)) (CutR.blank 32 rfl h1)
      exact ⟨_, h3, .cons ⟨rfl, rfl, rfl⟩ (hal _ _ _ (hal _ _ _ h2))⟩
/-- A text of an expression of numbers. -/
def TextV (S : ByteArray) : Prop := S.size ≤ 32000 ∧ ∃ ts, ts.length ≤ 237 ∧ ∀ r, NoDigit r → CutR S.data.toList ts r
theorem CutR.same {l : List UInt8} {ts us : List Tok} {rest : List UInt8} (h : CutR l ts rest) (h2 : CutR l us rest) (h3 : ts.length ≤ 400) (h4 : us.length ≤ 400) : ts = us := by
  have e1 := h.weak.tokF h3
  have e2 := h2.weak.tokF h4
  rw [e1] at e2
  exact (Prod.mk.inj e2).1
theorem keepV_textV {x : XE} (h : keepV 5 x) : TextV ⟨(printX 5 x).toArray⟩ := by
  refine ⟨by show (printX 5 x).toArray.size ≤ 32000; rw [List.size_toArray]; exact printV_len h, ?_⟩
  obtain ⟨n, hn, hc⟩ := keepV_cuts 5 x h
  have h3 : (2 : Nat) ^ 5 = 32 := rfl
  have h237 : n ≤ 237 := by omega
  obtain ⟨ts, h1, h2⟩ := hc [] (fun c r e => by cases e)
  refine ⟨ts, by omega, fun r hr => ?_⟩
  obtain ⟨us, h5, h6⟩ := hc r hr
  have : ts = us := by
    have e1 := h1.tokF (by omega)
    have e2 := h5.weak.tokF (by omega)
    rw [e1] at e2
    exact (Prod.mk.inj e2).1
  rw [this]
  exact h5
end Go.Proofs.YtealflkblkfhbaaDoor
