/- expr.reader: pick. -/
import Derived.Test.YtnkbpcenkbihpaaDoorRead4
import Derived.Test.YtnkbpcenkbihpaaDoorBase
import Derived.Deep.RegionLaw
namespace Go.Proofs.YtnkbpcenkbihpaaDoor
open Go.ChangeShapes Go.WideShapes Go.ChangeAt Go.RowKit
set_option linter.unusedVariables false
set_option linter.unusedSimpArgs false
set_option maxRecDepth 100000
theorem Only.grown {b : Nat} {w w' : World} (h : Only b w w') : w.grownBy w' (some b) := ⟨h.os, h.tape, h.output, h.size, fun k hk hn => h.block k hk (fun e => hn (by rw [e]))⟩
theorem Only.of_grown {b : Nat} {w w' w2 : World} {row : Option Nat} (h : Only b w w') (hg : w'.grownBy w2 row) (hr : ∀ g, row = some g → w.heap.size ≤ g) : Only b w w2 :=
  ⟨Nat.le_trans h.size hg.size, hg.os.trans h.os, hg.tape.trans h.tape, hg.output.trans h.output, fun q hq hn => (hg.block q (Nat.lt_of_lt_of_le hq h.size) (fun e => by have := hr q e.symm; omega)).trans (h.block q hq hn)⟩
/-- How much a reader may still do. -/
def leftF (n : Nat) (s : PS) : Nat := if s.fe = 0 then n + 2 - s.p else 1
/-- Matchers up to the brace. -/
def msF (ts : List Tok) (en : Int) : Nat → List Mtc → PS → List Mtc × PS
  | 0, ms, s => (ms, s)
  | f + 1, ms, s => if s.fe = 0 then (if isF ts s 4 ⟨#[125]⟩ = true then (ms, nextF s) else
      msF ts en f (ms ++ [(matcherF ts en (if ms.length = 0 then s else mustF ts en s 4 ⟨#[44]⟩)).1]) (matcherF ts en (if ms.length = 0 then s else mustF ts en s 4 ⟨#[44]⟩)).2) else (ms, s)
theorem leftF_fail (ts : List Tok) (en : Int) (s : PS) (n : Nat) (e : Int) (he : e ≠ 0) (hp : s.p ≤ n) : leftF n (failF ts en s e) = 1 := by
  unfold failF leftF
  by_cases h : s.fe = 0
  · rw [if_pos h, if_neg he]
  · rw [if_neg h, if_neg h]
theorem leftF_pos (n : Nat) (s : PS) (hp : s.p ≤ n) : 1 ≤ leftF n s := by unfold leftF; split <;> omega
theorem leftF_next (n : Nat) (s : PS) (hf : s.fe = 0) (hp : s.p < n) : leftF n (nextF s) < leftF n s := by
  unfold leftF nextF
  simp only
  rw [if_pos hf, if_pos hf]; omega
theorem leftF_zero (n : Nat) (s : PS) (hf : s.fe = 0) (hp : s.p ≤ n) : 2 ≤ leftF n s := by unfold leftF; rw [if_pos hf]; omega
/-- A step within the tokens, that leaves no more to do. -/
def Steps (n : Nat) (s s' : PS) : Prop := s'.p ≤ n ∧ leftF n s' ≤ leftF n s
theorem Steps.trans {n : Nat} {a b c : PS} (h : Steps n a b) (k : Steps n b c) : Steps n a c := ⟨k.1, Nat.le_trans k.2 h.2⟩
section
variable {ts : List Tok} {en : Int} {s : PS} {n : Nat}
theorem failF_p (e : Int) : (failF ts en s e).p = s.p := by unfold failF; split <;> rfl
theorem step_fail (hp : s.p ≤ n) (e : Int) (he : e ≠ 0) : Steps n s (failF ts en s e) := ⟨by rw [failF_p]; exact hp, by rw [leftF_fail ts en s n e he hp]; exact leftF_pos n s hp⟩
theorem step_next (hf : s.fe = 0) (hp : s.p < n) : Steps n s (nextF s) := ⟨hp, Nat.le_of_lt (leftF_next n s hf hp)⟩
theorem step_must (hl : ts.length = n) (hp : s.p ≤ n) {kd : Int} (hk : kd ≠ 0) (tx : ByteArray) : Steps n s (mustF ts en s kd tx) := by
  unfold mustF
  by_cases h : isF ts s kd tx = true
  · rw [if_pos h]
    obtain ⟨h1, h2⟩ := isF_lt hk h
    exact step_next h1 (by omega)
  · rw [if_neg h]; exact step_fail hp 1 (by decide)
theorem step_take (hl : ts.length = n) (hp : s.p ≤ n) {kd : Int} (hk : kd ≠ 0) : Steps n s (takeF ts en s kd).2 ∧ (s.fe = 0 → leftF n (takeF ts en s kd).2 < leftF n s) := by
  unfold takeF
  by_cases h : (peekF ts s).kd = kd
  · rw [if_pos h]
    obtain ⟨h1, h2⟩ := peekF_lt (ts := ts) (s := s) (by rw [h]; exact hk)
    exact ⟨step_next h1 (by omega), fun hf => leftF_next n s hf (by omega)⟩
  · rw [if_neg h]
    refine ⟨step_fail hp 1 (by decide), fun hf => ?_⟩
    show leftF n (failF ts en s 1) < leftF n s
    rw [leftF_fail ts en s n 1 (by decide) hp]
    have := leftF_zero n s hf hp
    omega
theorem step_op (hl : ts.length = n) (hp : s.p ≤ n) : Steps n s (opF ts en s).2 := by
  unfold opF
  have key : ∀ tx, isF ts s 4 tx = true → Steps n s (nextF s) := fun tx h => by
    obtain ⟨h1, h2⟩ := isF_lt (by decide) h
    exact step_next h1 (by omega)
  by_cases h1 : isF ts s 4 ⟨#[61]⟩ = true
  · rw [if_pos h1]; exact key _ h1
  · rw [if_neg h1]
    by_cases h2 : isF ts s 4 ⟨#[33, 61]⟩ = true
    · rw [if_pos h2]; exact key _ h2
    · rw [if_neg h2]
      by_cases h3 : isF ts s 4 ⟨#[94, 61]⟩ = true
      · rw [if_pos h3]; exact key _ h3
      · rw [if_neg h3]
        by_cases h4 : isF ts s 4 ⟨#[33, 94]⟩ = true
        · rw [if_pos h4]; exact key _ h4
        · rw [if_neg h4]; exact step_fail hp 1 (by decide)
theorem step_matcher (hl : ts.length = n) (hp : s.p ≤ n) : Steps n s (matcherF ts en s).2 ∧ (s.fe = 0 → leftF n (matcherF ts en s).2 < leftF n s) := by
  unfold matcherF
  obtain ⟨h1, h2⟩ := step_take (en := en) hl hp (kd := 2) (by decide)
  have h3 := step_op (en := en) hl h1.1
  obtain ⟨h4, _⟩ := step_take (en := en) hl h3.1 (kd := 3) (by decide)
  refine ⟨(h1.trans h3).trans h4, fun hf => ?_⟩
  have := h2 hf
  have := h3.2
  have := h4.2
  simp only
  omega
/-- With a fault set a matcher changes nothing. -/
theorem matcher_fault (hl : ts.length = n) (hp : s.p ≤ n) : leftF n (matcherF ts en s).2 ≤ leftF n s := (step_matcher hl hp).1.2
end
end Go.Proofs.YtnkbpcenkbihpaaDoor
