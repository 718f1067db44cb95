/- Tokens spelled with blanks around them are read back. -/
import Derived.Test.YtnkbpcenkbihpaaDoorPe4
import Derived.Test.YtnkbpcenkbihpaaDoorPrintX
import Derived.Test.YtnkbpcenkbihpaaDoorExprs
namespace Go.Proofs.YtnkbpcenkbihpaaDoor
open Go.ChangeShapes Go.WideShapes Go.ChangeAt Go.RowKit
set_option linter.unusedVariables false
set_option linter.unusedSimpArgs false
set_option maxRecDepth 100000
theorem AlikeL.trans {a b c : List Tok} (h : AlikeL a b) (k : AlikeL b c) : AlikeL a c := by
  induction h generalizing c with
  | nil => exact k
  | cons h _ ih => cases k with | cons k1 k2 => exact .cons ⟨h.1.trans k1.1, h.2.1.trans k1.2.1, h.2.2.trans k1.2.2⟩ (ih k2)
theorem okTok_small {t : Tok} (h : okTok t) : TokOk t := by
  rcases h with ⟨_, h1, h2⟩ | ⟨_, h1, c, r, e, _, _, hl⟩ | ⟨_, h1, h2⟩ | ⟨_, h1, h2⟩
  · unfold I64 at h1
    exact ⟨by rw [h2]; decide, h1.1, h1.2⟩
  · refine ⟨?_, by omega, by omega⟩
    have h2 := congrArg List.length e
    rw [ba_len, List.length_cons] at h2
    omega
  · exact ⟨by omega, by omega, by omega⟩
  · refine ⟨?_, by omega, by omega⟩
    have : ∀ x ∈ signsL, x.size ≤ 2 := by decide
    have := this _ h2
    omega
/-- A token with its place forgotten. -/
def z0 (t : Tok) : Tok := ⟨t.kd, t.n, 0, t.tx⟩
theorem alike_z0 : ∀ L : List Tok, AlikeL (L.map z0) L
  | [] => .nil
  | t :: L => .cons ⟨rfl, rfl, rfl⟩ (alike_z0 L)
/-- Tokens, each with a blank, or blanks and a new line, ahead. -/
inductive Spelt : List Tok → List UInt8 → Prop where
  | nil : Spelt [] []
  | one {L : List Tok} {l : List UInt8} (t : Tok) (h : Spelt L l) : Spelt (L ++ [t]) (l ++ 32 :: tokL t)
  | two {L : List Tok} {l : List UInt8} (t : Tok) (h : Spelt L l) : Spelt (L ++ [t]) (l ++ 32 :: 10 :: 32 :: tokL t)
theorem Spelt.len {L : List Tok} {l : List UInt8} (h : Spelt L l) (hok : ∀ t ∈ L, okTok t) : l.length ≤ 2005 * L.length := by
  induction h with
  | nil => simp
  | one t h ih =>
    have h1 := ih fun x hx => hok x (List.mem_append_left _ hx)
    have h2 := tokL_length_le (okTok_small (hok t (by simp)))
    simp only [List.length_append, List.length_cons, List.length_nil]; omega
  | two t h ih =>
    have h1 := ih fun x hx => hok x (List.mem_append_left _ hx)
    have h2 := tokL_length_le (okTok_small (hok t (by simp)))
    simp only [List.length_append, List.length_cons, List.length_nil]; omega
theorem tok_blank {t : Tok} (ht : okTok t) {q rest : List UInt8} {vs : List Tok} (hc : CutA (32 :: q) vs rest) : CutA (tokL t ++ 32 :: q) (z0 t :: vs) rest :=
  hc.tok (z0 t) ht rfl (fun c r e => by
    have : c = 32 := head_is (show 32 :: (q ++ rest) = c :: r from e)
    rw [this]; exact follow_blank (t := z0 t) ht 32 (.inl rfl))
theorem Spelt.cut {L : List Tok} {l : List UInt8} (h : Spelt L l) (hok : ∀ t ∈ L, okTok t) : ∀ {q rest : List UInt8} {vs : List Tok}, CutA (32 :: q) vs rest → CutA (l ++ 32 :: q) (L.map z0 ++ vs) rest := by
  induction h with
  | nil => intro q rest vs hc; simpa using hc
  | @one L l t h ih =>
    intro q rest vs hc
    have k := ih (fun x hx => hok x (List.mem_append_left _ hx)) ((tok_blank (hok t (by simp)) hc).blank 32 rfl)
    simpa using k
  | @two L l t h ih =>
    intro q rest vs hc
    have k := ih (fun x hx => hok x (List.mem_append_left _ hx)) ((((tok_blank (hok t (by simp)) hc).blank 32 rfl).blank 10 rfl).blank 32 rfl)
    simpa using k
theorem parse_spelt {x : PE} {L : List Tok} {l : List UInt8} (ht : x.ty ≠ 0) (hd : x.deep ≤ 8) (hl : x.toks.length ≤ 400) (ha : AlikeL L x.toks) (hok : ∀ t ∈ L, okTok t) (h : Spelt L l) : parseF (l ++ [32]) = (x, 0, 0) := by
  obtain ⟨ts, h1, h2⟩ := h.cut hok ((CutA.nil []).blank 32 rfl)
  rw [List.append_nil] at h2
  have h3 := (h2.trans (alike_z0 L)).trans ha
  have h4 := h1.tokF (by rw [h3.len]; exact hl)
  unfold parseF
  rw [h4]
  simp only
  rw [if_neg (by omega)]
  exact readF_back _ ht hd h3
/-- A typed expression's tokens. -/
structure ToksOf (x : PE) (ts : List Tok) : Prop where
  eq : tokF x.text = (ts, x.text.length)
  alike : AlikeL ts x.toks
  ok : ∀ t ∈ ts, okTok t
  at_ : ∀ t ∈ ts, 0 ≤ t.at_ ∧ t.at_ ≤ x.text.length
theorem toks_of {x : PE} (ht : x.ty ≠ 0) (hd : x.deep ≤ 8) (hf : x.fits) (hl : x.toks.length ≤ 400) : ∃ ts, ToksOf x ts := by
  obtain ⟨ts, h1, h2⟩ := pe_cutA 8 x hd ht hf [] (fun c r e => by cases e)
  refine ⟨ts, h1.tokF (by rw [h2.len]; exact hl), h2, h1.ok, fun t ht => ?_⟩
  obtain ⟨a, e, h3, _⟩ := h1.stands.1 t ht
  rw [e]; omega
/-- What is asked of an expression that is printed, cut and read back. -/
structure Back (x : PE) : Prop where
  ty : x.ty = 2
  deep : x.deep ≤ 5
  fits : x.fits
  small : x.small
  toks : x.toks.length ≤ 237
  text : x.text.length ≤ 22400
theorem keep_back {x : XE} (h : keepV 5 x) : Back x.pe := by
  have k := keepV_facts 5 _ h
  have h1 := k.toks
  have h2 := text_len 5 x.pe k.deep (by rw [k.ty]; decide) k.fits
  have e : (2 : Nat) ^ 5 = 32 := rfl
  exact ⟨k.ty, k.deep, k.fits, k.small, by omega, by omega⟩
theorem Back.parse {x : PE} (h : Back x) : parseF x.text = (x, 0, 0) := parse_back (by rw [h.ty]; decide) (by have := h.deep; omega) h.fits (by have := h.toks; omega)
theorem Back.inj {x y : PE} (hx : Back x) (hy : Back y) : decide (x.text = y.text) = eqPE x y := by
  by_cases e : x = y
  · rw [eqPE_yes e, decide_eq_true (by rw [e])]
  · rw [eqPE_no e, decide_eq_false]
    intro h
    have h1 := hx.parse
    rw [h, hy.parse] at h1
    injection h1 with h2
    exact e h2.symm
theorem Back.print {x : PE} (h : Back x) : x.print = x.text := by
  unfold PE.print
  rw [if_pos ⟨by rw [h.ty]; decide, by have := h.deep; omega⟩]
theorem Back.right {x : PE} (h : Back x) : x.right = true := by
  unfold PE.right
  rw [h.ty, decide_eq_true (show x.deep ≤ 8 by have := h.deep; omega)]; rfl
theorem Back.ts {x : PE} (h : Back x) : ∃ ts, ToksOf x ts := toks_of (by rw [h.ty]; decide) (by have := h.deep; omega) h.fits (by have := h.toks; omega)
theorem Back.read {x : PE} (h : Back x) {ts : List Tok} (k : ToksOf x ts) (en : Int) : readF ts en ts.length = (x, 0, 0) := readF_back en (by rw [h.ty]; decide) (by have := h.deep; omega) k.alike
theorem Back.spelt {x : PE} (h : Back x) {ts : List Tok} (k : ToksOf x ts) {l : List UInt8} (hs : Spelt ts l) : parseF (l ++ [32]) = (x, 0, 0) := parse_spelt (by rw [h.ty]; decide) (by have := h.deep; omega) (by have := h.toks; omega) k.alike k.ok hs
theorem ToksOf.len {x : PE} {ts : List Tok} (k : ToksOf x ts) : ts.length = x.toks.length := k.alike.len
end Go.Proofs.YtnkbpcenkbihpaaDoor
