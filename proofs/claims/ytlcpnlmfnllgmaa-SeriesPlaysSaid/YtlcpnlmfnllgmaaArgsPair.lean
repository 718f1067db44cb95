/- What the arguments' readings say of memory: slices of structs of two ints. -/
import Derived.Test.YtlcpnlmfnllgmaaArgs
import Derived.Test.YtlcpnlmfnllgmaaSample
import Derived.Deep.SlicePairs
namespace Go.Proofs.Ytlcpnlmfnllgmaa
open Go.RowKit Go.ChangeShapes Go.WideShapes Go.ChangeAt
set_option linter.unusedVariables false
section
variable {P : Program} {w : World} {base : Nat} {spare : Nat → Bool} {held : Bool} {H : Type} {enc : TypeId × Value → H}
theorem arg_pairs {t e : TypeId} {f0 f1 : Field} {fuel : Nat} {a0 : Option Addr} {len cap : Nat} {x : DataW H × List MemPlace} (ht : P.underlying t = some (.slice e)) (he : P.underlying e = some (.struct #[f0, f1]))
    (ce : P.cellsOf e = 2) (o0 : f0.offset = 0) (o1 : f1.offset = 1) (c0 : P.cellsOf f0.type = 1) (c1 : P.cellsOf f1.type = 1) (u0 : P.underlying f0.type = some (.int .i64)) (u1 : P.underlying f1.type = some (.int .i64))
    (h : DataW.trod enc P w base spare held fuel t (Value.slice a0 len cap).cells.toList = some x) :
    ∃ zs : List (Int × Int), Sees w w.heap.size 2 a0 len (smps zs) ∧ len ≤ cap ∧ cap ≤ 9223372036854775807 ∧ ∀ z ∈ zs, (Lit.int .i64 z.1).wf = true ∧ (Lit.int .i64 z.2).wf = true := by
  rcases Deep.open_slice_pairs ht he ce o0 o1 c0 c1 h with ⟨hcs, _⟩ | ⟨a, l, c, m, n, V0, V1, D0, D1, P0, P1, hcs, _, hl, hm, hmm, _, hx⟩
  · simp [Value.cells] at hcs
    obtain ⟨rfl, rfl, rfl⟩ := hcs
    exact ⟨[], by simpa [smps] using Sees.nil, Nat.le_refl _, by omega, by simp⟩
  · simp [Value.cells] at hcs
    obtain ⟨rfl, rfl, rfl⟩ := hcs
    have hlm : len ≤ m := by rw [hmm]; split <;> omega
    have each : ∀ i, i < m → ∃ z : Int × Int, V0 i = .int .i64 z.1 ∧ V1 i = .int .i64 z.2 ∧ (Lit.int .i64 z.1).wf = true ∧ (Lit.int .i64 z.2).wf = true := by
      intro i hi
      obtain ⟨_, _, h0, h1⟩ := hx i hi
      obtain ⟨z0, e0, _, w0⟩ := DataW.trod_int u0 h0
      obtain ⟨z1, e1, _, w1⟩ := DataW.trod_int u1 h1
      simp at e0 e1
      exact ⟨(z0, z1), e0, e1, w0, w1⟩
    obtain ⟨q, hq⟩ := Deep.choose_lt each
    refine ⟨(List.range len).map q, ?_, hl, by unfold maxLen at hm; exact hm, ?_⟩
    · refine ⟨by simp [smps_length], fun hn => ⟨a, rfl, ?_, fun j u hu => ?_⟩⟩
      · have := World.block_lt_of_cell? w _ (hx 0 (by omega)).1
        rwa [add_block] at this
      · have hj : j < len * 2 := by
          have := (List.getElem?_eq_some_iff.1 hu).1
          rw [smps_length] at this; simpa using this
        have hi : j / 2 < len := by omega
        obtain ⟨g0, g1⟩ := smps_get ((List.range len).map q) (j / 2) (by simpa using hi)
        obtain ⟨x0, x1, _, _⟩ := hx (j / 2) (by omega)
        obtain ⟨y0, y1, _, _⟩ := hq (j / 2) (by omega)
        have hgi : ((List.range len).map q)[j / 2]'(by simpa using hi) = q (j / 2) := by simp
        rw [hgi] at g0 g1
        rcases Nat.mod_two_eq_zero_or_one j with hm2 | hm2
        · have e : j / 2 * 2 = j := by omega
          rw [e] at g0 x0
          rw [g0] at hu
          injection hu with hu; subst hu
          rw [x0, y0]
        · have e : j / 2 * 2 + 1 = j := by omega
          rw [e] at g1 x1
          rw [g1] at hu
          injection hu with hu; subst hu
          rw [x1, y1]
    · intro z hz
      simp only [List.mem_map, List.mem_range] at hz
      obtain ⟨i, hi, rfl⟩ := hz
      exact ⟨(hq i (by omega)).2.2.1, (hq i (by omega)).2.2.2⟩
end
theorem smps_take (l : List (Int × Int)) (k : Nat) : (smps l).take (k * 2) = smps (l.take k) := by
  have e : smps l = smps (l.take k) ++ smps (l.drop k) := by rw [← smps_append, List.take_append_drop]
  rcases Nat.lt_or_ge k l.length with h | h
  · have hl : (smps (l.take k)).length = k * 2 := by rw [smps_length, List.length_take]; omega
    rw [e, ← hl, List.take_left]
  · rw [List.take_of_length_le h, List.take_of_length_le (by rw [smps_length]; omega)]
end Go.Proofs.Ytlcpnlmfnllgmaa
