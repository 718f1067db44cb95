/- Texts, merged in one. -/
import Derived.Test.YtlmakdclebbbkaaGreatBase2
namespace Go.Proofs.YtlmakdclebbbkaaGreat
open Go.RowKit Go.ChangeShapes Go.WideShapes Go.ChangeAt
set_option linter.unusedVariables false
section
variable {P : Program} {w : World} {base : Nat} {spare : Nat → Bool} {held : Bool} {H : Type} {enc : TypeId × Value → H}
theorem arg_rows {t e : TypeId} {fs : Array Field} {K fuel : Nat} {a0 : Option Addr} {len cap : Nat} {x : DataW H × List MemPlace} (ht : P.underlying t = some (.slice e)) (he : P.underlying e = some (.struct fs))
    (ce : P.cellsOf e = K) (hK : 0 < K) (hof : ∀ (j : Nat) (f : Field), fs[j]? = some f → f.offset = j ∧ P.cellsOf f.type = 1 ∧ j < K)
    (h : DataW.trod enc P w base spare held fuel t (Value.slice a0 len cap).cells.toList = some x) :
    ∃ V : Nat → Nat → Value, (0 < len → ∃ a, a0 = some a ∧ a.block < w.heap.size ∧ ∀ i j, i < len → j < K → w.cell? (a.add (i * K + j)) = some (V i j)) ∧ len ≤ cap ∧ cap ≤ 9223372036854775807 ∧
      ∀ (i j : Nat) (f : Field), i < len → fs[j]? = some f → ∃ k y, DataW.trod enc P w base spare held k f.type [V i j] = some y := by
  rcases Deep.open_slice ht h with ⟨hcs, _⟩ | ⟨a, l, c, m, n, D, Pl, hcs, _, hl, hm, hmm, _, hx⟩
  · simp [Value.cells] at hcs
    obtain ⟨rfl, rfl, rfl⟩ := hcs
    exact ⟨fun _ _ => .int .i64 0, fun h => absurd h (by omega), Nat.le_refl _, by omega, fun i j f hi => absurd hi (by omega)⟩
  · simp [Value.cells] at hcs
    obtain ⟨rfl, rfl, rfl⟩ := hcs
    have hlm : len ≤ m := by rw [hmm]; split <;> omega
    have each : ∀ i, i < m → ∃ v : Nat → Value, (∀ j, j < K → w.cell? (a.add (i * K + j)) = some (v j)) ∧ ∀ (j : Nat) (f : Field), fs[j]? = some f → ∃ k y, DataW.trod enc P w base spare held k f.type [v j] = some y := by
      intro i hi
      obtain ⟨cs', h1, h2⟩ := hx i hi
      rw [ce] at h1
      obtain ⟨_, hlen, hcell⟩ := World.cells?_some h1
      obtain ⟨xs, k, hk, hxy, _, hxl, hf⟩ := DataW.trod_struct he h2
      refine ⟨fun j => cs'.getD j (.int .i64 0), fun j hj => ?_, fun j f hjf => ?_⟩
      · have h3 := hcell j hj
        rw [add_add] at h3
        rw [h3]
        show cs'[j]? = some (cs'.getD j (.int .i64 0))
        rw [List.getD_eq_getElem?_getD, List.getElem?_eq_getElem (by omega)]
        rfl
      · obtain ⟨ho, hc, hjK⟩ := hof j f hjf
        have h4 := hf j f hjf
        rw [ho, hc] at h4
        have hjl : j < cs'.length := by omega
        have h5 : (cs'.drop j).take 1 = [cs'.getD j (.int .i64 0)] := by
          rw [List.drop_eq_getElem_cons hjl, List.getD_eq_getElem?_getD, List.getElem?_eq_getElem hjl]
          rfl
        rw [h5] at h4
        have hjx : j < xs.length := by rw [hxl]; exact (Array.getElem?_eq_some_iff.1 hjf).1
        exact ⟨k, xs[j], by rw [h4, List.getElem?_eq_getElem hjx]⟩
    obtain ⟨q, hq⟩ : ∃ q : Nat → Nat → Value, ∀ i, i < m → (∀ j, j < K → w.cell? (a.add (i * K + j)) = some (q i j)) ∧ ∀ (j : Nat) (f : Field), fs[j]? = some f → ∃ k y, DataW.trod enc P w base spare held k f.type [q i j] = some y := by
      have : Inhabited (Nat → Value) := ⟨fun _ => .int .i64 0⟩
      exact Deep.choose_lt each
    refine ⟨q, fun hn => ⟨a, rfl, ?_, fun i j hi hj => (hq i (by omega)).1 j hj⟩, hl, by unfold maxLen at hm; exact hm, fun i j f hi hf => (hq i (by omega)).2 j f hf⟩
    have := World.block_lt_of_cell? w _ ((hq 0 (by omega)).1 0 hK)
    rwa [add_block] at this
theorem cell_slice {t e : TypeId} {k : Nat} {v : Value} {x : DataW H × List MemPlace} (ht : P.underlying t = some (.slice e)) (h : DataW.trod enc P w base spare held k t [v] = some x) :
    ∃ a n c, v = .slice a n c ∧ DataW.trod enc P w base spare held k t (Value.slice a n c).cells.toList = some x := by
  rcases Deep.open_slice ht h with ⟨hcs, _⟩ | ⟨a, l, c, m, n, D, Pl, hcs, _⟩
  · simp at hcs
    subst hcs
    exact ⟨none, 0, 0, rfl, h⟩
  · simp at hcs
    subst hcs
    exact ⟨some a, l, c, rfl, h⟩
end
end Go.Proofs.YtlmakdclebbbkaaGreat
