/- klaxonref7.Print. -/
import Derived.Test.YtnkbpcenkbihpaaDoorRefPrint
import Derived.Test.YtnkbpcenkbihpaaDoorKeepX
namespace Go.Proofs.YtnkbpcenkbihpaaDoor
open Go.ChangeShapes Go.WideShapes Go.ChangeAt Go.RowKit
set_option linter.unusedVariables false
set_option linter.unusedSimpArgs false
set_option maxRecDepth 100000
theorem joinN_len : ∀ {l : List ByteArray}, (∀ s ∈ l, s.size ≤ 24) → (joinN l).length ≤ 25 * l.length
  | [], _ => by simp [joinN]
  | x :: l, h => by
    have h1 := h x List.mem_cons_self
    have h2 := joinN_len (l := l) (fun m hm => h m (List.mem_cons_of_mem _ hm))
    unfold joinN
    rw [List.length_append, List.length_cons, ba_len]
    split
    · simp; omega
    · rw [List.length_cons]; omega
theorem itoa_len {n : Int} (h : I64 n) : (Lib.itoa n).length ≤ 21 := by
  unfold I64 at h
  exact Lib.itoa_length_le n h.1 h.2
theorem opsL_size : ∀ q : Nat, (opsL.getD q ⟨#[]⟩).size ≤ 6 := by
  intro q
  by_cases h : q < 14
  · have : ∀ q : Fin 14, (opsL.getD q ⟨#[]⟩).size ≤ 6 := by decide
    exact this ⟨q, h⟩
  · rw [List.getD_eq_getElem?_getD, List.getElem?_eq_none (show opsL.length ≤ q by show 14 ≤ q; omega)]; decide
theorem aggsL_size : ∀ q : Nat, (aggsL.getD q ⟨#[]⟩).size ≤ 5 := by
  intro q
  by_cases h : q < 4
  · have : ∀ q : Fin 4, (aggsL.getD q ⟨#[]⟩).size ≤ 5 := by decide
    exact this ⟨q, h⟩
  · rw [List.getD_eq_getElem?_getD, List.getElem?_eq_none (show aggsL.length ≤ q by show 4 ≤ q; omega)]; decide
theorem printX_len : ∀ (d : Nat) (x : XE), goodX d x → (printX d x).length + 50 ≤ 500 * 2 ^ (d + 1)
  | 0, _, h => h.elim
  | d + 1, x, h => by
    obtain ⟨h1, h20, hn, h2, h17, h3⟩ := h
    have hp := two_pow' d
    unfold printX
    have hi := itoa_len hn
    split
    · omega
    · split
      · next hk =>
        obtain ⟨g1, g2⟩ := h2 hk
        have := joinM_len (l := x.ms) g2
        simp only [List.length_cons, List.length_append, List.length_nil]
        omega
      · split
        · next hk =>
          obtain ⟨g1, g2, a, e, g3⟩ := h17 hk
          have k1 := printX_len d a g3
          have k2 := joinN_len (l := x.ns) g2
          have k3 := aggsL_size (x.kd - 17).toNat
          rw [e]
          simp only [List.length_cons, List.length_append, List.length_nil, List.head?_cons, Option.map_some, Option.getD_some, ba_len]
          omega
        · next hk1 hk2 hk =>
          obtain ⟨a, b, e, g1, g2⟩ := h3 (by omega) (by omega)
          have k1 := printX_len d a g1
          have k2 := printX_len d b g2
          have k3 := opsL_size (x.kd - 3).toNat
          rw [e]
          simp only [List.length_cons, List.length_append, List.length_nil, List.head?_cons, Option.map_some, Option.getD_some, ba_len, List.getElem?_cons_succ, List.getElem?_cons_zero]
          omega
where
  two_pow' (d : Nat) : 2 ^ (d + 1 + 1) = 2 ^ (d + 1) + 2 ^ (d + 1) ∧ 2 ≤ 2 ^ (d + 1) := by
    have h1 : 2 ^ (d + 1 + 1) = 2 ^ (d + 1) * 2 := Nat.pow_succ ..
    have h2 : 2 ^ (d + 1) = 2 ^ d * 2 := Nat.pow_succ ..
    have h3 : 1 ≤ 2 ^ d := Nat.one_le_two_pow
    omega
end Go.Proofs.YtnkbpcenkbihpaaDoor
