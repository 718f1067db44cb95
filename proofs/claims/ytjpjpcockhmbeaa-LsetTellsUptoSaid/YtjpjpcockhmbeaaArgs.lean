/- What the arguments' readings say of memory: slices of ints, bools, strings. -/
import Derived.Test.YtjpjpcockhmbeaaMem
import Derived.ProofKit
import Derived.Deep.Slices
import Derived.ChangeArms
namespace Go.Proofs.Ytjpjpcockhmbeaa
open Go.RowKit Go.ChangeShapes Go.WideShapes Go.ChangeAt
set_option linter.unusedVariables false
/-- Texts as cells. -/
def strs (l : List ByteArray) : List Value := l.map Value.string
theorem strs_length (l : List ByteArray) : (strs l).length = l.length := by simp [strs]
theorem strs_get (l : List ByteArray) (k : Nat) (h : k < l.length) : (strs l)[k]? = some (.string l[k]) := by simp [strs, h]
theorem Sees.str {w : World} {B : Nat} {A : Option Addr} {n : Nat} {l : List ByteArray} (h : Sees w B 1 A n (strs l)) {k : Nat} (hk : k < n) :
    ∃ ad, ∃ hl : k < l.length, A = some ad ∧ w.cell? (ad.add k) = some (.string l[k]) := by
  have hl : k < l.length := by have := h.len; rw [strs_length] at this; omega
  obtain ⟨ad, u, e, hx, hc⟩ := h.one hk
  rw [strs_get l k hl] at hx
  injection hx with hx; subst hx
  exact ⟨ad, hl, e, hc⟩
theorem Sees.str_len {w : World} {B : Nat} {A : Option Addr} {n : Nat} {l : List ByteArray} (h : Sees w B 1 A n (strs l)) : l.length = n := by
  have := h.len; rw [strs_length] at this; omega
theorem sees_of_cells {w : World} {a : Addr} {len m : Nat} {V : Nat → Value} (hlm : len ≤ m) (h : ∀ i, i < m → w.cell? (a.add i) = some (V i)) :
    Sees w w.heap.size 1 (some a) len ((List.range len).map V) := by
  refine ⟨by simp, fun hn => ⟨a, rfl, ?_, fun j u hu => ?_⟩⟩
  · have := World.block_lt_of_cell? w (a.add 0) (h 0 (by omega))
    rwa [add_block] at this
  · have hj : j < len := by have := (List.getElem?_eq_some_iff.1 hu).1; simpa using this
    rw [List.getElem?_map, List.getElem?_range hj] at hu
    simp at hu; subst hu
    exact h j (by omega)
section
variable {P : Program} {w : World} {base : Nat} {spare : Nat → Bool} {held : Bool} {H : Type} {enc : TypeId × Value → H}
theorem arg_bools {t e : TypeId} {fuel : Nat} {a0 : Option Addr} {len cap : Nat} {x : DataW H × List MemPlace} (ht : P.underlying t = some (.slice e)) (he : P.underlying e = some .bool) (hc : P.cellsOf e = 1)
    (h : DataW.trod enc P w base spare held fuel t (Value.slice a0 len cap).cells.toList = some x) :
    ∃ zs : List Bool, Sees w w.heap.size 1 a0 len (bools zs) ∧ len ≤ cap ∧ cap ≤ 9223372036854775807 := by
  rcases Deep.open_slice1 ht hc h with ⟨hcs, _⟩ | ⟨a, l, c, m, n, V, D, Pl, hcs, _, hl, hm, hmm, _, hx⟩
  · simp [Value.cells] at hcs
    obtain ⟨rfl, rfl, rfl⟩ := hcs
    exact ⟨[], by simpa [bools] using Sees.nil, Nat.le_refl _, by omega⟩
  · simp [Value.cells] at hcs
    obtain ⟨rfl, rfl, rfl⟩ := hcs
    have hlm : len ≤ m := by rw [hmm]; split <;> omega
    refine ⟨(List.range len).map fun i => match V i with | .bool b => b | _ => false, ?_, hl, by unfold maxLen at hm; exact hm⟩
    have := sees_of_cells hlm fun i hi => (hx i hi).1
    have e : bools ((List.range len).map fun i => match V i with | .bool b => b | _ => false) = (List.range len).map V := by
      unfold bools
      rw [List.map_map]
      refine List.map_congr_left fun i hi => ?_
      have hi' : i < m := by have := List.mem_range.1 hi; omega
      obtain ⟨b, hb, _⟩ := DataW.trod_bool he (hx i hi').2
      simp at hb
      simp [hb]
    rw [e]; exact this
theorem arg_strs {t e : TypeId} {fuel : Nat} {a0 : Option Addr} {len cap : Nat} {x : DataW H × List MemPlace} (ht : P.underlying t = some (.slice e)) (he : P.underlying e = some .string) (hc : P.cellsOf e = 1)
    (h : DataW.trod enc P w base spare held fuel t (Value.slice a0 len cap).cells.toList = some x) :
    ∃ zs : List ByteArray, Sees w w.heap.size 1 a0 len (strs zs) ∧ len ≤ cap ∧ cap ≤ 9223372036854775807 ∧ ∀ s ∈ zs, s.size ≤ maxLen := by
  rcases Deep.open_slice1 ht hc h with ⟨hcs, _⟩ | ⟨a, l, c, m, n, V, D, Pl, hcs, _, hl, hm, hmm, _, hx⟩
  · simp [Value.cells] at hcs
    obtain ⟨rfl, rfl, rfl⟩ := hcs
    exact ⟨[], by simpa [strs] using Sees.nil, Nat.le_refl _, by omega, by simp⟩
  · simp [Value.cells] at hcs
    obtain ⟨rfl, rfl, rfl⟩ := hcs
    have hlm : len ≤ m := by rw [hmm]; split <;> omega
    have each : ∀ i, i < m → ∃ s : ByteArray, V i = .string s ∧ s.size ≤ maxLen := by
      intro i hi
      obtain ⟨s, hs, _, hz⟩ := DataW.trod_string he (hx i hi).2
      simp at hs
      exact ⟨s, hs, hz⟩
    refine ⟨(List.range len).map fun i => match V i with | .string b => b | _ => ByteArray.empty, ?_, hl, by unfold maxLen at hm; exact hm, ?_⟩
    · have := sees_of_cells hlm fun i hi => (hx i hi).1
      have e : strs ((List.range len).map fun i => match V i with | .string b => b | _ => ByteArray.empty) = (List.range len).map V := by
        unfold strs
        rw [List.map_map]
        refine List.map_congr_left fun i hi => ?_
        obtain ⟨s, hs, _⟩ := each i (by have := List.mem_range.1 hi; omega)
        simp [hs]
      rw [e]; exact this
    · intro s hs
      simp only [List.mem_map, List.mem_range] at hs
      obtain ⟨i, hi, rfl⟩ := hs
      obtain ⟨s, hs, hz⟩ := each i (by omega)
      simp [hs, hz]
theorem arg_ints {t e : TypeId} {fuel : Nat} {a0 : Option Addr} {len cap : Nat} {x : DataW H × List MemPlace} (ht : P.underlying t = some (.slice e)) (he : P.underlying e = some (.int .i64)) (hc : P.cellsOf e = 1)
    (h : DataW.trod enc P w base spare held fuel t (Value.slice a0 len cap).cells.toList = some x) :
    ∃ zs : List Int, Sees w w.heap.size 1 a0 len (ints zs) ∧ len ≤ cap ∧ cap ≤ 9223372036854775807 ∧ ∀ z ∈ zs, (Lit.int .i64 z).wf = true := by
  rcases open_ints ht he hc h with ⟨hcs, _⟩ | ⟨x, l, c, zs, hcs, _, hl, hm, hz, _, hcell, hwz⟩
  · simp [Value.cells] at hcs
    obtain ⟨rfl, rfl, rfl⟩ := hcs
    exact ⟨[], by simpa [ints] using Sees.nil, Nat.le_refl _, by omega, by simp⟩
  · simp [Value.cells] at hcs
    obtain ⟨rfl, rfl, rfl⟩ := hcs
    have hlz : len ≤ zs.length := by rw [hz]; split <;> omega
    refine ⟨zs.take len, ?_, hl, by unfold maxLen at hm; exact hm, fun z hzz => hwz z (List.mem_of_mem_take hzz)⟩
    have := sees_of_cells (V := fun i => .int .i64 (zs.getD i 0)) hlz fun i hi => hcell i hi
    have e : ints (zs.take len) = (List.range len).map fun i => Value.int .i64 (zs.getD i 0) := by
      refine List.ext_getElem? fun i => ?_
      by_cases hi : i < len
      · rw [ints_get _ i (by rw [List.length_take]; omega), List.getElem?_map, List.getElem?_range hi]
        simp [List.getD_eq_getElem?_getD, List.getElem?_eq_getElem (show i < zs.length by omega)]
      · rw [List.getElem?_eq_none (by rw [ints_length, List.length_take]; omega), List.getElem?_eq_none (by simp; omega)]
    rw [e]; exact this
end
end Go.Proofs.Ytjpjpcockhmbeaa
