/- Two rows of two types lie in two blocks. No program in it. -/
import Derived.Test.YtfcjalojgmpnoaaBase
namespace Go.Proofs.Ytfcjalojgmpnoaa
open Go.RowKit
set_option linter.unusedVariables false
/-- Rows of two types lie in two blocks. -/
theorem own_ne {w : World} {b b2 : Nat} {e e2 : TypeId} {s s2 n n2 : Nat} {v v2 : Value} {xs xs2 : List Value} (h : w.ownsRow b e s v n xs) (h2 : w.ownsRow b2 e2 s2 v2 n2 xs2) (he : e ≠ e2) : ∀ g, v.ownBlock = some g → v2.ownBlock ≠ some g := by
  intro g hg hg2
  rcases h.2 with ⟨rfl, _⟩ | ⟨g1, cap, cur, rfl, _, hh, _⟩
  · simp [Value.ownBlock] at hg
  · rcases h2.2 with ⟨rfl, _⟩ | ⟨g3, cap2, cur2, rfl, _, hh2, _⟩
    · simp [Value.ownBlock] at hg2
    · simp [Value.ownBlock] at hg hg2
      subst hg; subst hg2
      rw [hh] at hh2
      injection hh2 with hh2; injection hh2 with _ hh2
      exact he hh2
theorem own_grown {w w' : World} {base : Nat} {e : TypeId} {size n : Nat} {v : Value} {xs : List Value} {row : Option Nat} (h : w.ownsRow base e size v n xs) (hg : w.grownBy w' row) (hne : ∀ g, v.ownBlock = some g → row ≠ some g) : w'.ownsRow base e size v n xs := by
  refine ⟨h.1, ?_⟩
  rcases h.2 with h2 | ⟨g, cap, cur, rfl, hb, hh, rest⟩
  · exact .inl h2
  · refine .inr ⟨g, cap, cur, rfl, hb, ?_, rest⟩
    have : g < w.heap.size := (Array.getElem?_eq_some_iff.1 hh).1
    rw [hg.block g this (fun e => hne g (by simp [Value.ownBlock]) e.symm)]; exact hh
end Go.Proofs.Ytfcjalojgmpnoaa
