/- What the arguments' readings say of memory: slices of labels, slices of matchers. -/
import Derived.Test.YtcaapbbbekggiaaGreatDoorBase
import Derived.Test.YtcaapbbbekggiaaGreatDoorLabel
import Derived.Deep.SlicePairs
namespace Go.Proofs.YtcaapbbbekggiaaGreatDoor
open Go.RowKit Go.ChangeShapes Go.WideShapes Go.ChangeAt
set_option linter.unusedVariables false
section
variable {P : Program} {w : World} {base : Nat} {spare : Nat → Bool} {held : Bool} {H : Type} {enc : TypeId × Value → H}
theorem arg_lbls {t e : TypeId} {f0 f1 : Field} {fuel : Nat} {a0 : Option Addr} {len cap : Nat} {x : DataW H × List MemPlace} (ht : P.underlying t = some (.slice e)) (he : P.underlying e = some (.struct #[f0, f1]))
    (ce : P.cellsOf e = 2) (o0 : f0.offset = 0) (o1 : f1.offset = 1) (c0 : P.cellsOf f0.type = 1) (c1 : P.cellsOf f1.type = 1) (u0 : P.underlying f0.type = some .string) (u1 : P.underlying f1.type = some .string)
    (h : DataW.trod enc P w base spare held fuel t (Value.slice a0 len cap).cells.toList = some x) :
    ∃ zs : List (ByteArray × ByteArray), Sees w w.heap.size 2 a0 len (lbls zs) ∧ len ≤ cap ∧ cap ≤ 9223372036854775807 ∧ ∀ z ∈ zs, z.1.size ≤ maxLen ∧ z.2.size ≤ maxLen := by
  rcases Deep.open_slice_pairs ht he ce o0 o1 c0 c1 h with ⟨hcs, _⟩ | ⟨a, l, c, m, n, V0, V1, D0, D1, P0, P1, hcs, _, hl, hm, hmm, _, hx⟩
  · simp [Value.cells] at hcs
    obtain ⟨rfl, rfl, rfl⟩ := hcs
    exact ⟨[], by simpa [lbls] using Sees.nil, Nat.le_refl _, by omega, by simp⟩
  · simp [Value.cells] at hcs
    obtain ⟨rfl, rfl, rfl⟩ := hcs
    have hlm : len ≤ m := by rw [hmm]; split <;> omega
    have each : ∀ i, i < m → ∃ z : ByteArray × ByteArray, V0 i = .string z.1 ∧ V1 i = .string z.2 ∧ z.1.size ≤ maxLen ∧ z.2.size ≤ maxLen := by
      intro i hi
      obtain ⟨_, _, h0, h1⟩ := hx i hi
      obtain ⟨z0, e0, _, w0⟩ := DataW.trod_string u0 h0
      obtain ⟨z1, e1, _, w1⟩ := DataW.trod_string u1 h1
      simp at e0 e1
      exact ⟨(z0, z1), e0, e1, w0, w1⟩
    obtain ⟨q, hq⟩ := Deep.choose_lt each
    refine ⟨(List.range len).map q, ?_, hl, by unfold maxLen at hm; exact hm, ?_⟩
    · refine ⟨by simp [lbls_length], fun hn => ⟨a, rfl, ?_, fun j u hu => ?_⟩⟩
      · have := World.block_lt_of_cell? w _ (hx 0 (by omega)).1
        rwa [add_block] at this
      · have hj : j < len * 2 := by
          have := (List.getElem?_eq_some_iff.1 hu).1
          rw [lbls_length] at this; simpa using this
        have hi : j / 2 < len := by omega
        obtain ⟨g0, g1⟩ := lbls_get ((List.range len).map q) (j / 2) (by simpa using hi)
        obtain ⟨x0, x1, _, _⟩ := hx (j / 2) (by omega)
        obtain ⟨y0, y1, _, _⟩ := hq (j / 2) (by omega)
        have hgi : ((List.range len).map q)[j / 2]'(by simpa using hi) = q (j / 2) := by simp
        rw [hgi] at g0 g1
        rcases Nat.mod_two_eq_zero_or_one j with hm2 | hm2
        · have e : j / 2 * 2 = j := by omega
          rw [e] at g0 x0
          rw [g0] at hu
          injection hu with hu; subst hu
          rw [x0, y0]
        · have e : j / 2 * 2 + 1 = j := by omega
          rw [e] at g1 x1
          rw [g1] at hu
          injection hu with hu; subst hu
          rw [x1, y1]
    · intro z hz
      simp only [List.mem_map, List.mem_range] at hz
      obtain ⟨i, hi, rfl⟩ := hz
      exact ⟨(hq i (by omega)).2.2.1, (hq i (by omega)).2.2.2⟩
theorem arg_mtcs {t e : TypeId} {f0 f1 f2 : Field} {fuel : Nat} {a0 : Option Addr} {len cap : Nat} {x : DataW H × List MemPlace} (ht : P.underlying t = some (.slice e)) (he : P.underlying e = some (.struct #[f0, f1, f2]))
    (ce : P.cellsOf e = 3) (o0 : f0.offset = 0) (o1 : f1.offset = 1) (o2 : f2.offset = 2) (c0 : P.cellsOf f0.type = 1) (c1 : P.cellsOf f1.type = 1) (c2 : P.cellsOf f2.type = 1) (u0 : P.underlying f0.type = some .string) (u1 : P.underlying f1.type = some .string) (u2 : P.underlying f2.type = some (.int .i64))
    (h : DataW.trod enc P w base spare held fuel t (Value.slice a0 len cap).cells.toList = some x) :
    ∃ zs : List Mtc, Sees w w.heap.size 3 a0 len (mtcs zs) ∧ len ≤ cap ∧ cap ≤ 9223372036854775807 ∧ ∀ z ∈ zs, z.1.size ≤ maxLen ∧ z.2.1.size ≤ maxLen ∧ (Lit.int .i64 z.2.2).wf = true := by
  rcases Deep.open_slice ht h with ⟨hcs, _⟩ | ⟨a, l, c, m, n, D, Pl, hcs, _, hl, hm, hmm, _, hx⟩
  · simp [Value.cells] at hcs
    obtain ⟨rfl, rfl, rfl⟩ := hcs
    exact ⟨[], by simpa [mtcs] using Sees.nil, Nat.le_refl _, by omega, by simp⟩
  · simp [Value.cells] at hcs
    obtain ⟨rfl, rfl, rfl⟩ := hcs
    have hlm : len ≤ m := by rw [hmm]; split <;> omega
    have each : ∀ i, i < m → ∃ z : Mtc, w.cell? (a.add (i * 3)) = some (.string z.1) ∧ w.cell? (a.add (i * 3 + 1)) = some (.string z.2.1) ∧ w.cell? (a.add (i * 3 + 2)) = some (.int .i64 z.2.2) ∧ z.1.size ≤ maxLen ∧ z.2.1.size ≤ maxLen ∧ (Lit.int .i64 z.2.2).wf = true := by
      intro i hi
      obtain ⟨cs', h1, h2⟩ := hx i hi
      rw [ce] at h1
      obtain ⟨_, hlen, hcell⟩ := World.cells?_some h1
      obtain ⟨xs, k, hk, hxy, _, hxl, hf⟩ := DataW.trod_struct he h2
      match xs, hxl, cs', hlen with
      | [y0, y1, y2], _, [v0, v1, v2], _ =>
        have g0 := hf 0 f0 rfl
        have g1 := hf 1 f1 rfl
        have g2 := hf 2 f2 rfl
        simp [o0, o1, o2, c0, c1, c2] at g0 g1 g2
        have e0 := hcell 0 (by omega)
        have e1 := hcell 1 (by omega)
        have e2 := hcell 2 (by omega)
        rw [add_add] at e0 e1 e2
        obtain ⟨z0, q0, _, w0⟩ := DataW.trod_string u0 g0
        obtain ⟨z1, q1, _, w1⟩ := DataW.trod_string u1 g1
        obtain ⟨z2, q2, _, w2⟩ := DataW.trod_int u2 g2
        simp at q0 q1 q2
        subst q0; subst q1; subst q2
        exact ⟨(z0, z1, z2), by simpa using e0, by simpa using e1, by simpa using e2, w0, w1, w2⟩
    obtain ⟨q, hq⟩ := Deep.choose_lt each
    refine ⟨(List.range len).map q, ?_, hl, by unfold maxLen at hm; exact hm, ?_⟩
    · refine ⟨by simp [mtcs_length], fun hn => ⟨a, rfl, ?_, fun j u hu => ?_⟩⟩
      · have := World.block_lt_of_cell? w _ (hq 0 (by omega)).1
        rwa [add_block] at this
      · have hj : j < len * 3 := by
          have := (List.getElem?_eq_some_iff.1 hu).1
          rw [mtcs_length] at this; simpa using this
        have hi : j / 3 < len := by omega
        obtain ⟨g0, g1, g2⟩ := mtcs_get ((List.range len).map q) (j / 3) (by simpa using hi)
        obtain ⟨x0, x1, x2, _⟩ := hq (j / 3) (by omega)
        have hgi : ((List.range len).map q)[j / 3]'(by simpa using hi) = q (j / 3) := by simp
        rw [hgi] at g0 g1 g2
        have h3 : j % 3 = 0 ∨ j % 3 = 1 ∨ j % 3 = 2 := by omega
        rcases h3 with hm2 | hm2 | hm2
        · have e : j / 3 * 3 = j := by omega
          rw [e] at g0 x0
          rw [g0] at hu
          injection hu with hu; subst hu
          rw [x0]
        · have e : j / 3 * 3 + 1 = j := by omega
          rw [e] at g1 x1
          rw [g1] at hu
          injection hu with hu; subst hu
          rw [x1]
        · have e : j / 3 * 3 + 2 = j := by omega
          rw [e] at g2 x2
          rw [g2] at hu
          injection hu with hu; subst hu
          rw [x2]
    · intro z hz
      simp only [List.mem_map, List.mem_range] at hz
      obtain ⟨i, hi, rfl⟩ := hz
      exact (hq i (by omega)).2.2.2
end
end Go.Proofs.YtcaapbbbekggiaaGreatDoor
