/- Pruned. -/
import Derived.Test.YtlmakdclebbbkaaGreatBase51
import Derived.Test.YtlmakdclebbbkaaGreatBase31
namespace Go.Proofs.YtlmakdclebbbkaaGreat
open Go.RowKit Go.ChangeShapes Go.WideShapes Go.ChangeAt
set_option linter.unusedVariables false
set_option maxRecDepth 100000
section
variable {w : World} {base b0 : Nat} {spare : Nat → Bool} {held : Bool} {H : Type} {enc : TypeId × Value → H}
theorem cell_ints {k : Nat} {v : Value} {x : DataW H × List MemPlace} (h : DataW.trod enc Tryz.prog w base spare held k 45 [v] = some x) : ∃ a n c zs, v = .slice a n c ∧ Sees w w.heap.size 1 a n (ints zs) ∧ (∀ z ∈ zs, I64 z) ∧ n ≤ c ∧ c ≤ 9223372036854775807 := by
  obtain ⟨a, n, c, rfl, h4⟩ := cell_slice Tryz.underlying45 h
  obtain ⟨zs, s1, s2, s3, s4⟩ := arg_ints Tryz.underlying45 Tryz.underlying3 (by kernel_rfl) h4
  exact ⟨a, n, c, zs, rfl, s1, fun z hz => wf_of (s4 z hz), s2, s3⟩
theorem arg_ksetsF {fuel : Nat} {a0 : Option Addr} {len cap : Nat} {x : DataW H × List MemPlace}
    (h : DataW.trod enc Tryz.prog w base spare held fuel 48 (Value.slice a0 len cap).cells.toList = some x) :
    ∃ zs : List KSet, AKSetsF w w.heap.size a0 zs ∧ zs.length = len ∧ len ≤ cap ∧ cap ≤ 9223372036854775807 := by
  obtain ⟨V, h1, h2, h3, h4⟩ := arg_rows (K := 2) Tryz.underlying48 Tryz.underlying105 (by kernel_rfl) (by omega) (by
    intro j f hj
    match j, hj with
    | 0, hj => simp at hj; subst hj; exact ⟨rfl, by kernel_rfl, by omega⟩
    | 1, hj => simp at hj; subst hj; exact ⟨rfl, by kernel_rfl, by omega⟩
    | j + 2, hj => simp at hj) h
  have each : ∀ i, i < len → ∃ q : KSet, V i 0 = .slice q.A q.n q.c ∧ V i 1 = .slice q.A2 q.n2 q.c2 ∧ q.ok w.heap.size w := by
    intro i hi
    obtain ⟨_, _, g0⟩ := h4 i 0 _ hi rfl
    obtain ⟨_, _, g1⟩ := h4 i 1 _ hi rfl
    obtain ⟨a, n, c, z, e, s1, s2, s3⟩ := cell_ints g0
    obtain ⟨a', n', c', z', e', s1', s2', s3'⟩ := cell_ints g1
    exact ⟨⟨a, n, c, z, a', n', c', z'⟩, e, e', ⟨s1, s2, s3, s1', s2', s3'⟩⟩
  have : Inhabited KSet := ⟨⟨none, 0, 0, [], none, 0, 0, []⟩⟩
  obtain ⟨q, hq⟩ := Deep.choose_lt each
  refine ⟨(List.range len).map q, fun i hi => ?_, by simp, h2, h3⟩
  have hi' : i < len := by simpa using hi
  obtain ⟨ad, e, hB, hc⟩ := h1 (by omega)
  obtain ⟨e0, e1, hk⟩ := hq i hi'
  have hg : ((List.range len).map q)[i] = q i := by simp
  rw [hg]
  refine ⟨ad, e, hB, ?_, ?_, hk⟩
  · rw [← e0]; exact hc i 0 hi' (by omega)
  · rw [← e1, add_spelt ad (i * 2) 1 (by omega)]; exact hc i 1 hi' (by omega)
theorem arg_introws {fuel : Nat} {a0 : Option Addr} {len cap : Nat} {x : DataW H × List MemPlace}
    (h : DataW.trod enc Tryz.prog w base spare held fuel 49 (Value.slice a0 len cap).cells.toList = some x) :
    ∃ rs : List IRow, ARows w w.heap.size a0 rs ∧ rs.length = len ∧ len ≤ cap ∧ cap ≤ 9223372036854775807 := by
  rcases Deep.open_slice Tryz.underlying49 h with ⟨hcs, _⟩ | ⟨a, l, c, m, n, D, Pl, hcs, _, hl, hm, hmm, _, hx⟩
  · simp [Value.cells] at hcs
    obtain ⟨rfl, rfl, rfl⟩ := hcs
    exact ⟨[], fun i hi => absurd hi (by simp), rfl, Nat.le_refl _, by omega⟩
  · simp [Value.cells] at hcs
    obtain ⟨rfl, rfl, rfl⟩ := hcs
    have hlm : len ≤ m := by rw [hmm]; split <;> omega
    have each : ∀ i, i < m → ∃ r : IRow, w.cell? (a.add i) = some (.slice r.A r.n r.c) ∧ Sees w w.heap.size 1 r.A r.n (ints r.zs) ∧ (∀ z ∈ r.zs, I64 z) ∧ r.n ≤ r.c ∧ r.c ≤ 9223372036854775807 := by
      intro i hi
      obtain ⟨cs', h1, h2⟩ := hx i hi
      have ce : Tryz.prog.cellsOf 45 = 1 := by kernel_rfl
      rw [ce] at h1
      obtain ⟨_, hlen, hcell⟩ := World.cells?_some h1
      match cs', hlen with
      | [v], _ =>
        have h3 := hcell 0 (by omega)
        rw [Nat.mul_one, add_zero'] at h3
        obtain ⟨a1, n1, c1, zs, rfl, s1, s2, s3, s4⟩ := cell_ints h2
        exact ⟨⟨a1, n1, c1, zs⟩, by simpa using h3, s1, s2, s3, s4⟩
    have : Inhabited IRow := ⟨⟨none, 0, 0, []⟩⟩
    obtain ⟨q, hq⟩ := Deep.choose_lt each
    refine ⟨(List.range len).map q, fun i hi => ?_, by simp, hl, by unfold maxLen at hm; exact hm⟩
    have hi' : i < len := by simpa using hi
    have hg : ((List.range len).map q)[i] = q i := by simp
    rw [hg]
    obtain ⟨h1, h2⟩ := hq i (by omega)
    have hb := World.block_lt_of_cell? w _ h1
    rw [add_block] at hb
    exact ⟨a, rfl, hb, h1, h2⟩
theorem arg_kstore {r : Reach} {v : Value} {d : DataW H} {p : List MemPlace}
    (hv : Value.okWide Tryz.prog w r b0 51 v) (h : DataW.Trod enc Tryz.prog w base spare held 51 v d p) : ∃ k : KStore, v = k.val ∧ k.ok w.heap.size w := by
  obtain ⟨c0, c1, y0, y1, m, rfl, _, _, h0, h1⟩ := Go.Joins.open_agg2 Tryz.underlying51 (by kernel_rfl) (by kernel_rfl) hv h
  obtain ⟨a, n, c, rfl, h4⟩ := cell_slice Tryz.underlying48 h0
  obtain ⟨a2, n2, c2, rfl, h5⟩ := cell_slice Tryz.underlying49 h1
  obtain ⟨qs, q1, q2, q3, q4⟩ := arg_ksetsF h4
  obtain ⟨rs, r1, r2, r3, r4⟩ := arg_introws h5
  exact ⟨⟨a, c, qs, a2, c2, rs⟩, by unfold KStore.val; simp only [q2, r2], ⟨q1, r1, by simp only; omega, by simp only; omega⟩⟩
end
end Go.Proofs.YtlmakdclebbbkaaGreat
