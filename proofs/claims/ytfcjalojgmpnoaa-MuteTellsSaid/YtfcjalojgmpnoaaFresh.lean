/- 'append([]T{}, l...)': a copy in new memory. No program in it. -/
import Derived.Test.YtfcjalojgmpnoaaBase
import Derived.Test.YtfcjalojgmpnoaaKept
namespace Go.Proofs.Ytfcjalojgmpnoaa
open Go.RowKit
set_option linter.unusedVariables false
theorem append_fresh {P : Program} (w : World) (g : Nat) (t ty e : TypeId) (i : TypeInfo) (z : Value) (size bytes : Nat) (ht : P.underlying t = some (.slice e)) (hi : P.info? e = some i) (hz : i.zero = some z)
    (hsize : i.size = size) (hby : i.bytes = bytes) (hzs : z.cells.size = size) (hsz : 0 < size) (hg : Blk w g e [])
    (B : Nat) (A : Option Addr) (m c : Nat) (news : List Value) (hs : Sees w B size A m news) (h1 : ∀ u ∈ news, u.oneCell' = true)
    (h63 : m ≤ maxLen) (hbytes : m * bytes ≤ 140737488355328) :
    ∃ A' c' w', (Builtin.append_ #[t, t] ty #[.slice (some ⟨g, 0, none⟩) 0 0, .slice A m c]).run P w = .ok (.slice A' m c') w' ∧ w'.ownsRow g e size (.slice A' m c') m news ∧ Below w.heap.size w w' := by
  have hown : w.ownsRow g e size (.slice (some ⟨g, 0, none⟩) 0 0) 0 [] := ⟨by simp, .inr ⟨g, 0, #[], rfl, Nat.le_refl _, hg, Nat.le_refl _, by simp, by simp, by simp⟩⟩
  obtain ⟨v', w', hr, h2, h3⟩ := append_run (P := P) w g t ty e i z size bytes ht hi hz hsize hby hzs hsz _ 0 [] hown B A m c news hs h1 (by simpa using h63) (by simpa using hbytes) (Nat.le_of_lt hg.lt)
  rw [Nat.zero_add, List.nil_append] at h2
  obtain ⟨A', c', rfl, _, _⟩ := own_slice h2
  refine ⟨A', c', w', hr, h2, ?_⟩
  have hblk : Blk w' g e [] := by
    cases A with
    | none =>
      have hm : m = 0 := by
        rcases Nat.eq_zero_or_pos m with h | h
        · exact h
        · obtain ⟨ad, h, _⟩ := hs.at_ h; cases h
      subst hm
      rw [nothing_appended w g t ty e i size ht hi _ 0 [] hown c] at hr
      injection hr with _ hr
      rw [← hr]; exact hg
    | some ad =>
      subst hsize; subst hby
      have hl := hs.len
      have hnews : ∀ j u, news[j]? = some u → w.cell? (ad.add j) = some u := by
        intro j u hu
        have hm : 0 < m := by
          have h := (List.getElem?_eq_some_iff.1 hu).1
          rw [hs.len] at h
          rcases Nat.eq_zero_or_pos m with h0 | h0
          · subst h0; simp at h
          · exact h0
        obtain ⟨ad', h, _, hc⟩ := hs.at_ hm
        injection h with h; subst h
        exact hc j u hu
      rcases Nat.eq_zero_or_pos m with hm | hm
      · subst hm
        have hn : news = [] := List.eq_nil_of_length_eq_zero (by simpa using hl)
        subst hn
        rw [run_append_room (P := P) w t ty e i ht hi g 0 0 #[] hg ad 0 c [] hl hnews h1 (by simp) (by simp)] at hr
        injection hr with _ hr
        rw [← hr]
        exact (setRow_heap w g #[] _ e (0, 0) hg).trans (by simp)
      · rw [run_append_grow (P := P) w t ty e i z ht hi hz ⟨g, 0, none⟩ 0 0 [] (by simp) (fun j u h => by simp at h) ad m c news hl hnews (by omega) (by simp only [maxLen] at h63; omega) (growslice_fits (by omega) (by simpa using hbytes))] at hr
        injection hr with _ hr
        rw [← hr]
        exact Blk.alloc (show Blk w.drew g e [] from hg) _
  exact ⟨h3.os, h3.tape, h3.output, h3.size, fun k hk => by
    by_cases hkg : k = g
    · subst hkg; exact hblk.eq.trans hg.eq.symm
    · exact h3.block k hk (fun he => by simp [Value.ownBlock] at he; exact hkg he)⟩
end Go.Proofs.Ytfcjalojgmpnoaa
