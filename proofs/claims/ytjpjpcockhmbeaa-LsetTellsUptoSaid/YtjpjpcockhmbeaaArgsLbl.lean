/- What the arguments' readings say of memory: slices of labels, slices of matchers. -/
import Derived.Test.YtjpjpcockhmbeaaArgs
import Derived.Test.YtjpjpcockhmbeaaLabel
import Derived.Deep.SlicePairs
namespace Go.Proofs.Ytjpjpcockhmbeaa
open Go.RowKit Go.ChangeShapes Go.WideShapes Go.ChangeAt
set_option linter.unusedVariables false
section
variable {P : Program} {w : World} {base : Nat} {spare : Nat → Bool} {held : Bool} {H : Type} {enc : TypeId × Value → H}
theorem arg_lbls {t e : TypeId} {f0 f1 : Field} {fuel : Nat} {a0 : Option Addr} {len cap : Nat} {x : DataW H × List MemPlace} (ht : P.underlying t = some (.slice e)) (he : P.underlying e = some (.struct #[f0, f1]))
    (ce : P.cellsOf e = 2) (o0 : f0.offset = 0) (o1 : f1.offset = 1) (c0 : P.cellsOf f0.type = 1) (c1 : P.cellsOf f1.type = 1) (u0 : P.underlying f0.type = some .string) (u1 : P.underlying f1.type = some .string)
    (h : DataW.trod enc P w base spare held fuel t (Value.slice a0 len cap).cells.toList = some x) :
    ∃ zs : List (ByteArray × ByteArray), Sees w w.heap.size 2 a0 len (lbls zs) ∧ len ≤ cap ∧ cap ≤ 9223372036854775807 ∧ ∀ z ∈ zs, z.1.size ≤ maxLen ∧ z.2.size ≤ maxLen := by
  rcases Deep.open_slice_pairs ht he ce o0 o1 c0 c1 h with ⟨hcs, _⟩ | ⟨a, l, c, m, n, V0, V1, D0, D1, P0, P1, hcs, _, hl, hm, hmm, _, hx⟩
  · simp [Value.cells] at hcs
    obtain ⟨rfl, rfl, rfl⟩ := hcs
    exact ⟨[], by simpa [lbls] using Sees.nil, Nat.le_refl _, by omega, by simp⟩
  · simp [Value.cells] at hcs
    obtain ⟨rfl, rfl, rfl⟩ := hcs
    have hlm : len ≤ m := by rw [hmm]; split <;> omega
    have each : ∀ i, i < m → ∃ z : ByteArray × ByteArray, V0 i = .string z.1 ∧ V1 i = .string z.2 ∧ z.1.size ≤ maxLen ∧ z.2.size ≤ maxLen := by
      intro i hi
      obtain ⟨_, _, h0, h1⟩ := hx i hi
      obtain ⟨z0, e0, _, w0⟩ := DataW.trod_string u0 h0
      obtain ⟨z1, e1, _, w1⟩ := DataW.trod_string u1 h1
      simp at e0 e1
      exact ⟨(z0, z1), e0, e1, w0, w1⟩
    obtain ⟨q, hq⟩ := Deep.choose_lt each
    refine ⟨(List.range len).map q, ?_, hl, by unfold maxLen at hm; exact hm, ?_⟩
    · refine ⟨by simp [lbls_length], fun hn => ⟨a, rfl, ?_, fun j u hu => ?_⟩⟩
      · have := World.block_lt_of_cell? w _ (hx 0 (by omega)).1
        rwa [add_block] at this
      · have hj : j < len * 2 := by
          have := (List.getElem?_eq_some_iff.1 hu).1
          rw [lbls_length] at this; simpa using this
        have hi : j / 2 < len := by omega
        obtain ⟨g0, g1⟩ := lbls_get ((List.range len).map q) (j / 2) (by simpa using hi)
        obtain ⟨x0, x1, _, _⟩ := hx (j / 2) (by omega)
        obtain ⟨y0, y1, _, _⟩ := hq (j / 2) (by omega)
        have hgi : ((List.range len).map q)[j / 2]'(by simpa using hi) = q (j / 2) := by simp
        rw [hgi] at g0 g1
        rcases Nat.mod_two_eq_zero_or_one j with hm2 | hm2
        · have e : j / 2 * 2 = j := by omega
          rw [e] at g0 x0
          rw [g0] at hu
          injection hu with hu; subst hu
          rw [x0, y0]
        · have e : j / 2 * 2 + 1 = j := by omega
          rw [e] at g1 x1
          rw [g1] at hu
          injection hu with hu; subst hu
          rw [x1, y1]
    · intro z hz
      simp only [List.mem_map, List.mem_range] at hz
      obtain ⟨i, hi, rfl⟩ := hz
      exact ⟨(hq i (by omega)).2.2.1, (hq i (by omega)).2.2.2⟩
end
end Go.Proofs.Ytjpjpcockhmbeaa
