/- An argument that is a slice of slices of bytes. -/
import Derived.Test.YtccajejeanbcmaaConcatU8
import Derived.Deep.Matrix
namespace Go.Proofs.Ytccajejeanbcmaa
open Go.RowKit Go.ChangeShapes Go.WideShapes Go.ChangeAt
set_option linter.unusedVariables false
theorem arg_u8rows {P : Program} {w : World} {base : Nat} {held : Bool} {H : Type} {enc : TypeId × Value → H} {t e q : TypeId} {fuel : Nat} {a0 : Option Addr} {len cap : Nat} {x : DataW H × List MemPlace}
    (ht : P.underlying t = some (.slice e)) (he : P.underlying e = some (.slice q)) (hq : P.underlying q = some (.int .u8)) (ce : P.cellsOf e = 1) (cq : P.cellsOf q = 1)
    (h : DataW.trod enc P w base (fun _ => true) held fuel t (Value.slice a0 len cap).cells.toList = some x) :
    ∃ zs : List (List Int), PartsU8 w w.heap.size a0 len zs ∧ len ≤ cap ∧ cap ≤ 9223372036854775807 := by
  rcases Deep.open_int_rows ht he hq ce cq h with ⟨hcs, _⟩ | ⟨a, l, c, A, L, C, Z, hcs, _, hl, hm, _, hx⟩
  · simp [Value.cells] at hcs
    obtain ⟨rfl, rfl, rfl⟩ := hcs
    exact ⟨[], ⟨rfl, fun j l h => by simp at h⟩, Nat.le_refl _, by omega⟩
  · simp [Value.cells] at hcs
    obtain ⟨rfl, rfl, rfl⟩ := hcs
    refine ⟨(List.range len).map fun r => (Z r).take (L r), ⟨by simp, fun j l hj => ?_⟩, hl, by unfold maxLen at hm; exact hm⟩
    have hjl : j < len := by
      have := (List.getElem?_eq_some_iff.1 hj).1
      simpa using this
    rw [List.getElem?_map, List.getElem?_range hjl] at hj
    simp only [Option.map_some, Option.some.injEq] at hj
    subst hj
    obtain ⟨h1, h2, h3, h4, h5, h6, h7⟩ := hx j (by omega)
    have hlen : ((Z j).take (L j)).length = L j := by rw [List.length_take]; omega
    refine ⟨a, A j, L j, C j, rfl, ?_, h1, ⟨by rw [u8s_length, hlen]; omega, fun hn => ?_⟩, hlen.symm, h2, by unfold maxLen at h3; exact h3⟩
    · have := World.block_lt_of_cell? w (a.add j) h1
      rwa [add_block] at this
    · cases hA : A j with
      | none => have := h6 hA; omega
      | some a' =>
        have h8 := (h7 a' hA).2
        refine ⟨a', rfl, ?_, fun i u hu => ?_⟩
        · have := World.block_lt_of_cell? w (a'.add 0) (h8 0 (by omega))
          rwa [add_block] at this
        · have hi : i < L j := by
            have := (List.getElem?_eq_some_iff.1 hu).1
            rw [u8s_length, hlen] at this; exact this
          rw [u8s_get _ i (by omega)] at hu
          injection hu with hu
          rw [h8 i (by omega), ← hu, List.getElem_take, List.getD_eq_getElem?_getD, List.getElem?_eq_getElem (by omega)]; rfl
end Go.Proofs.Ytccajejeanbcmaa
