/- What the arguments' readings say of memory: numbers of which a vector is made. -/
import Derived.Test.YtbndmmfpoljeaaaArgsRows
import Derived.Test.YtbndmmfpoljeaaaBase3
namespace Go.Proofs.Ytbndmmfpoljeaaa
open Go.RowKit Go.ChangeShapes Go.WideShapes Go.ChangeAt
set_option linter.unusedVariables false
set_option maxRecDepth 100000
section
variable {w : World} {base b0 : Nat} {spare : Nat → Bool} {held : Bool} {H : Type} {enc : TypeId × Value → H}
theorem cell_ints {k : Nat} {v : Value} {x : DataW H × List MemPlace} (h : DataW.trod enc Try.prog w base spare held k 35 [v] = some x) : ∃ a n c zs, v = .slice a n c ∧ Sees w w.heap.size 1 a n (ints zs) ∧ (∀ z ∈ zs, I64 z) ∧ n ≤ c ∧ c ≤ 9223372036854775807 := by
  obtain ⟨a, n, c, rfl, h4⟩ := cell_slice Try.underlying35 h
  obtain ⟨zs, s1, s2, s3, s4⟩ := arg_ints Try.underlying35 Try.underlying3 (by kernel_rfl) h4
  exact ⟨a, n, c, zs, rfl, s1, fun z hz => wf_of (s4 z hz), s2, s3⟩
theorem arg_ksetsF {fuel : Nat} {a0 : Option Addr} {len cap : Nat} {x : DataW H × List MemPlace}
    (h : DataW.trod enc Try.prog w base spare held fuel 34 (Value.slice a0 len cap).cells.toList = some x) :
    ∃ zs : List KSet, AKSetsF w w.heap.size a0 zs ∧ zs.length = len ∧ len ≤ cap ∧ cap ≤ 9223372036854775807 := by
  obtain ⟨V, h1, h2, h3, h4⟩ := arg_rows (K := 2) Try.underlying34 Try.underlying73 (by kernel_rfl) (by omega) (by
    intro j f hj
    match j, hj with
    | 0, hj => simp at hj; subst hj; exact ⟨rfl, by kernel_rfl, by omega⟩
    | 1, hj => simp at hj; subst hj; exact ⟨rfl, by kernel_rfl, by omega⟩
    | j + 2, hj => simp at hj) h
  have each : ∀ i, i < len → ∃ q : KSet, V i 0 = .slice q.A q.n q.c ∧ V i 1 = .slice q.A2 q.n2 q.c2 ∧ q.ok w.heap.size w := by
    intro i hi
    obtain ⟨_, _, g0⟩ := h4 i 0 _ hi rfl
    obtain ⟨_, _, g1⟩ := h4 i 1 _ hi rfl
    obtain ⟨a, n, c, z, e, s1, s2, s3⟩ := cell_ints g0
    obtain ⟨a', n', c', z', e', s1', s2', s3'⟩ := cell_ints g1
    exact ⟨⟨a, n, c, z, a', n', c', z'⟩, e, e', ⟨s1, s2, s3, s1', s2', s3'⟩⟩
  have : Inhabited KSet := ⟨⟨none, 0, 0, [], none, 0, 0, []⟩⟩
  obtain ⟨q, hq⟩ := Deep.choose_lt each
  refine ⟨(List.range len).map q, fun i hi => ?_, by simp, h2, h3⟩
  have hi' : i < len := by simpa using hi
  obtain ⟨ad, e, hB, hc⟩ := h1 (by omega)
  obtain ⟨e0, e1, hk⟩ := hq i hi'
  have hg : ((List.range len).map q)[i] = q i := by simp
  rw [hg]
  refine ⟨ad, e, hB, ?_, ?_, hk⟩
  · rw [← e0]; exact hc i 0 hi' (by omega)
  · rw [← e1, add_spelt ad (i * 2) 1 (by omega)]; exact hc i 1 hi' (by omega)
theorem arg_kvec {r : Reach} {v : Value} {d : DataW H} {p : List MemPlace}
    (hv : Value.okWide Try.prog w r b0 37 v) (h : DataW.Trod enc Try.prog w base spare held 37 v d p) : ∃ k : KVec, v = k.val ∧ k.ok w.heap.size w := by
  obtain ⟨c0, c1, y0, y1, m, rfl, _, _, h0, h1⟩ := Go.Joins.open_agg2 Try.underlying37 (by kernel_rfl) (by kernel_rfl) hv h
  obtain ⟨a, n, c, rfl, h4⟩ := cell_slice Try.underlying34 h0
  obtain ⟨qs, q1, q2, q3, q4⟩ := arg_ksetsF h4
  obtain ⟨a2, n2, c2, zs, rfl, s1, s2, s3, s4⟩ := cell_ints h1
  exact ⟨⟨a, c, qs, a2, n2, c2, zs⟩, by unfold KVec.val; simp only [q2], ⟨q1, s1, s2, by simp only; omega, by simp only; omega⟩⟩
end
end Go.Proofs.Ytbndmmfpoljeaaa
