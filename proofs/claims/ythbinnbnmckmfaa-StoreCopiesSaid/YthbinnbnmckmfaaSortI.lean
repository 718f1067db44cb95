/- slices.Sort and slices.Compact at ints, on a row of the call's own (the shelf lays both). -/
import Derived.Test.YthbinnbnmckmfaaBase
import Derived.Test.YthbinnbnmckmfaaShelf
import Derived.Sort.OwnSortedInts
import Derived.Lib.RowBridge
namespace Go.Proofs.Ythbinnbnmckmfaa
open Go.ChangeShapes Go.WideShapes Go.ChangeAt Go.RowKit Go.Shelf Go.Sort Go.Lib
set_option linter.unusedVariables false
set_option maxRecDepth 100000
/-- x put in a rising row. -/
def insAt (x : Int) : List Int → List Int
  | [] => [x]
  | y :: ys => if x ≤ y then x :: y :: ys else y :: insAt x ys
def isort : List Int → List Int
  | [] => []
  | x :: xs => insAt x (isort xs)
theorem insAt_perm (x : Int) (l : List Int) : (insAt x l).Perm (x :: l) := by
  induction l with
  | nil => exact List.Perm.refl _
  | cons y ys ih =>
    unfold insAt
    split
    · exact List.Perm.refl _
    · exact (List.Perm.cons y ih).trans (List.Perm.swap x y ys)
theorem isort_perm (l : List Int) : (isort l).Perm l := by
  induction l with
  | nil => exact List.Perm.refl _
  | cons x xs ih => exact (insAt_perm x _).trans (List.Perm.cons x ih)
theorem insAt_rises (x : Int) (l : List Int) (h : l.Pairwise (· ≤ ·)) : (insAt x l).Pairwise (· ≤ ·) := by
  induction l with
  | nil => simp [insAt]
  | cons y ys ih =>
    have h1 := List.pairwise_cons.1 h
    unfold insAt
    split
    · rename_i hxy
      refine List.pairwise_cons.2 ⟨fun z hz => ?_, h⟩
      rcases List.mem_cons.1 hz with rfl | hz
      · exact hxy
      · exact Int.le_trans hxy (h1.1 z hz)
    · rename_i hxy
      refine List.pairwise_cons.2 ⟨fun z hz => ?_, ih h1.2⟩
      rcases List.mem_cons.1 ((insAt_perm x ys).mem_iff.1 hz) with rfl | hz
      · omega
      · exact h1.1 z hz
theorem isort_rises (l : List Int) : (isort l).Pairwise (· ≤ ·) := by
  induction l with
  | nil => exact List.Pairwise.nil
  | cons x xs ih => exact insAt_rises x _ ih
theorem mergeSort_is (l : List Int) : l.mergeSort (fun x y => decide (x ≤ y)) = isort l := by
  have h1 := List.pairwise_mergeSort (le := fun x y : Int => decide (x ≤ y)) (fun a b c h1 h2 => by simp at *; omega) (fun a b => by simp; omega) l
  refine List.Perm.eq_of_pairwise (le := (· ≤ ·)) (fun a b _ _ h1 h2 => Int.le_antisymm h1 h2) (h1.imp fun h => by simpa using h) (isort_rises l) ((List.mergeSort_perm l _).trans (isort_perm l).symm)
theorem isort_len (l : List Int) : (isort l).length = l.length := (isort_perm l).length_eq
/-- slices.Sort on a row of the call's own. -/
theorem sort_own (base : Nat) (A : Option Addr) (n c : Nat) (zs : List Int) (w : World) (h : w.ownsRow base 3 1 (.slice A n c) n (ints zs)) (hn : n ≤ 1000000) :
    Calls Try.prog 30 #[.slice A n c] w fun e w' => e = .returned (.tuple #[]) ∧ w'.ownsRow base 3 1 (.slice A n c) n (ints (isort zs)) ∧ w.grownBy w' (Value.slice A n c).ownBlock := by
  have hl : zs.length = n := by have := h.1; rw [ints_length] at this; omega
  rcases h.2 with ⟨h1, h2⟩ | ⟨g, cap, cur, hv, hb, hh, hnc, hcm, hs, ht⟩
  · injection h1 with h1 _ h3
    subst h1; subst h2; subst h3
    obtain rfl : zs = [] := List.eq_nil_of_length_eq_zero hl
    refine (Try.slices_Sort_int_none none 0 w).mono ?_
    rintro e w' ⟨rfl, rfl⟩
    exact ⟨rfl, h, World.grownBy.refl _ _⟩
  · injection hv with h1 h2 h3
    subst h1; subst h3
    have hH : Holds (Value.int .i64) w g 0 zs.toArray := holds_of_blockI hh (by rw [hl, ← Nat.mul_one n]; exact ht)
    have hg : g < w.heap.size := (Array.getElem?_eq_some_iff.1 hh).1
    have h2 := Try.slices_Sort_int g 0 c zs w hH hg (by omega)
    rw [hl] at h2
    refine h2.mono ?_
    rintro e w' ⟨rfl, m, os, rfl⟩
    rw [mergeSort_is]
    have h3 := ownsRow_sortedI (n := m) (os := os) (ss := zs) (ts := isort zs) (isort_len zs) hb hh (by omega) hcm hs
    rw [hl] at h3
    refine ⟨rfl, h3, ?_⟩
    exact grownBy_sortedI _
theorem own_cut {w : World} {base g n k c : Nat} {e : TypeId} {size : Nat} {xs : List Value} (h : w.ownsRow base e size (.slice (some ⟨g, 0, none⟩) n c) n xs) (hk : k ≤ n) : w.ownsRow base e size (.slice (some ⟨g, 0, none⟩) k c) k (xs.take (k * size)) := by
  refine ⟨by rw [List.length_take, h.1]; exact Nat.min_eq_left (Nat.mul_le_mul_right _ hk), ?_⟩
  rcases h.2 with ⟨h1, _⟩ | ⟨g1, cap, cur, hv, hb, hh, hnc, hcm, hs, ht⟩
  · cases h1
  · injection hv with h1 h2 h3
    injection h1 with h1; injection h1 with h1; subst h1; subst h3
    refine .inr ⟨g, c, cur, rfl, hb, hh, by omega, hcm, hs, ?_⟩
    rw [← ht, List.take_take, Nat.min_eq_left (Nat.mul_le_mul_right _ hk)]
theorem compact_ownI (base : Nat) (A : Option Addr) (n c : Nat) (zs : List Int) (w : World) (h : w.ownsRow base 3 1 (.slice A n c) n (ints zs)) (hn : n ≤ 1000000) :
    Calls Try.prog 31 #[.slice A n c] w fun e w' => e = .returned (.slice A (compact zs).length c) ∧ w'.ownsRow base 3 1 (.slice A (compact zs).length c) (compact zs).length (ints (compact zs)) ∧ w.grownBy w' (Value.slice A n c).ownBlock := by
  have hl : zs.length = n := by have := h.1; rw [ints_length] at this; omega
  have hcl := compact_length_le zs
  rcases h.2 with ⟨h1, h2⟩ | ⟨g, cap, cur, hv, hb, hh, hnc, hcm, hs, ht⟩
  · injection h1 with h1 _ h3
    subst h1; subst h2; subst h3
    obtain rfl : zs = [] := List.eq_nil_of_length_eq_zero hl
    refine (Try.slices_Compact_int_empty none 0 w).mono ?_
    rintro e w' ⟨rfl, rfl⟩
    exact ⟨rfl, by simpa [compact, compactUpTo] using h, World.grownBy.refl _ _⟩
  · injection hv with h1 h2 h3
    subst h1; subst h3
    have hH : Holds (Value.int .i64) w g 0 zs.toArray := holds_of_blockI hh (by rw [hl, ← Nat.mul_one n]; exact ht)
    have h2 := Try.slices_Compact_int g 0 c zs w hH (by omega) (by omega)
    rw [hl] at h2
    refine h2.mono ?_
    rintro e w' ⟨rfl, m, rfl⟩
    have hg0 : ∀ W : World, grow W #[] = W := fun W => by simp [grow]
    have hlt : (compact zs ++ List.replicate (n - (compact zs).length) 0).length = zs.length := by rw [List.length_append, List.length_replicate]; omega
    have h3 := ownsRow_sortedI (n := m) (os := #[]) (ss := zs) (ts := compact zs ++ List.replicate (n - (compact zs).length) 0) hlt hb hh (by omega) hcm hs
    rw [hg0, hl] at h3
    have h4 := own_cut (k := (compact zs).length) h3 (by omega)
    rw [Nat.mul_one, List.map_append, List.take_append_of_le_length (by simp), List.take_of_length_le (by simp)] at h4
    have h5 := grownBy_sortedI (w := w) (g := g) (n := m) (os := #[]) (compact zs ++ List.replicate (n - (compact zs).length) 0).toArray
    rw [hg0] at h5
    exact ⟨rfl, h4, h5⟩
end Go.Proofs.Ythbinnbnmckmfaa
