/- slices.Sort and slices.Clone at ints, on a row of the call's own. -/
import Derived.Test.YtogdollfndpleaaSpan
import Derived.Shelf.Sort.Plain
import Derived.Shelf.Slices.In.SortNone
import Derived.Sort.OwnSortedInts
namespace Go.Proofs.Ytogdollfndpleaa
open Go.ChangeShapes Go.WideShapes Go.ChangeAt Go.RowKit Go.Shelf Go.Sort
set_option linter.unusedVariables false
set_option maxRecDepth 100000
/-- The numbers of what slices.Sort at ints comes to. -/
def sortRen : Go.Shelf.Ren where
  f := fun x => match x with
    | 125 => 24
    | 128 => 37
    | 129 => 38
    | 189 => 15
    | 215 => 27
    | 216 => 34
    | 257 => 23
    | 294 => 28
    | 295 => 29
    | 296 => 30
    | 297 => 31
    | 298 => 32
    | 299 => 33
    | 300 => 35
    | 301 => 36
    | 328 => 47
    | 329 => 48
    | 330 => 49
    | 331 => 50
    | 332 => 51
    | 343 => 55
    | n => n
  t := fun x => match x with
    | 0 => 0
    | 3 => 3
    | 4 => 4
    | 5 => 5
    | 9 => 9
    | 28 => 22
    | 46 => 50
    | 51 => 64
    | 53 => 66
    | 131 => 61
    | 182 => 55
    | 183 => 56
    | 218 => 72
    | 222 => 76
    | 228 => 80
    | 229 => 81
    | n => n
  g := fun n => n
theorem sortLays : Lays.n189 Try.prog sortRen :=
{ mixed := Eq.refl true, f125 := Eq.trans Try.func24 (congrArg some (Eq.refl (Body.n125 sortRen))),
  f128 := Eq.trans Try.func37 (congrArg some (Eq.refl (Body.n128 sortRen))),
  f129 := Eq.trans Try.func38 (congrArg some (Eq.refl (Body.n129 sortRen))),
  f189 := Eq.trans Try.func15 (congrArg some (Eq.refl (Body.n189 sortRen))),
  f215 := Eq.trans Try.func27 (congrArg some (Eq.refl (Body.n215 sortRen))),
  f216 := Eq.trans Try.func34 (congrArg some (Eq.refl (Body.n216 sortRen))),
  f257 := Eq.trans Try.func23 (congrArg some (Eq.refl (Body.n257 sortRen))),
  f294 := Eq.trans Try.func28 (congrArg some (Eq.refl (Body.n294 sortRen))),
  f295 := Eq.trans Try.func29 (congrArg some (Eq.refl (Body.n295 sortRen))),
  f296 := Eq.trans Try.func30 (congrArg some (Eq.refl (Body.n296 sortRen))),
  f297 := Eq.trans Try.func31 (congrArg some (Eq.refl (Body.n297 sortRen))),
  f298 := Eq.trans Try.func32 (congrArg some (Eq.refl (Body.n298 sortRen))),
  f299 := Eq.trans Try.func33 (congrArg some (Eq.refl (Body.n299 sortRen))),
  f300 := Eq.trans Try.func35 (congrArg some (Eq.refl (Body.n300 sortRen))),
  f301 := Eq.trans Try.func36 (congrArg some (Eq.refl (Body.n301 sortRen))),
  f328 := Eq.trans Try.func47 (congrArg some (Eq.refl (Body.n328 sortRen))),
  f329 := Eq.trans Try.func48 (congrArg some (Eq.refl (Body.n329 sortRen))),
  f330 := Eq.trans Try.func49 (congrArg some (Eq.refl (Body.n330 sortRen))),
  f331 := Eq.trans Try.func50 (congrArg some (Eq.refl (Body.n331 sortRen))),
  f332 := Eq.trans Try.func51 (congrArg some (Eq.refl (Body.n332 sortRen))),
  f343 := Eq.trans Try.func55 (congrArg some (Eq.refl (Body.n343 sortRen))), t0 := Try.underlying0,
  a0 := Try.isAgg0, z0 := Try.sizeOf0, v0 := Try.zeroValue0, t3 := Try.underlying3, a3 := Try.isAgg3, z3 := Try.sizeOf3,
  v3 := Try.zeroValue3, t4 := Try.underlying4, a4 := Try.isAgg4, z4 := Try.sizeOf4, v4 := Try.zeroValue4,
  t5 := Try.underlying5, a5 := Try.isAgg5, z5 := Try.sizeOf5, v5 := Try.zeroValue5, t9 := Try.underlying9,
  a9 := Try.isAgg9, z9 := Try.sizeOf9, v9 := Try.zeroValue9, t28 := Try.underlying22, a28 := Try.isAgg22,
  z28 := Try.sizeOf22, v28 := Try.zeroValue22, t46 := Try.underlying50, a46 := Try.isAgg50, z46 := Try.sizeOf50,
  v46 := Try.zeroValue50, t51 := Try.underlying64, a51 := Try.isAgg64, z51 := Try.sizeOf64, v51 := Try.zeroValue64,
  t53 := Try.underlying66, a53 := Try.isAgg66, z53 := Try.sizeOf66, v53 := Try.zeroValue66, t131 := Try.underlying61,
  a131 := Try.isAgg61, z131 := Try.sizeOf61, v131 := Try.zeroValue61, t182 := Try.underlying55, a182 := Try.isAgg55,
  z182 := Try.sizeOf55, v182 := Try.zeroValue55, t183 := Try.underlying56, a183 := Try.isAgg56, z183 := Try.sizeOf56,
  v183 := Try.zeroValue56, t218 := Try.underlying72, a218 := Try.isAgg72, z218 := Try.sizeOf72, v218 := Try.zeroValue72,
  t222 := Try.underlying76, a222 := Try.isAgg76, z222 := Try.sizeOf76, v222 := Try.zeroValue76,
  t228 := Try.underlying80, a228 := Try.isAgg80, z228 := Try.sizeOf80, v228 := Try.zeroValue80,
  t229 := Try.underlying81, a229 := Try.isAgg81, z229 := Try.sizeOf81, v229 := Try.zeroValue81 }

/-- x put in a rising row. -/
def insAt (x : Int) : List Int → List Int
  | [] => [x]
  | y :: ys => if x ≤ y then x :: y :: ys else y :: insAt x ys
def isort : List Int → List Int
  | [] => []
  | x :: xs => insAt x (isort xs)
theorem insAt_perm (x : Int) (l : List Int) : (insAt x l).Perm (x :: l) := by
  induction l with
  | nil => exact List.Perm.refl _
  | cons y ys ih =>
    unfold insAt
    split
    · exact List.Perm.refl _
    · exact (List.Perm.cons y ih).trans (List.Perm.swap x y ys)
theorem isort_perm (l : List Int) : (isort l).Perm l := by
  induction l with
  | nil => exact List.Perm.refl _
  | cons x xs ih => exact (insAt_perm x _).trans (List.Perm.cons x ih)
theorem insAt_rises (x : Int) (l : List Int) (h : l.Pairwise (· ≤ ·)) : (insAt x l).Pairwise (· ≤ ·) := by
  induction l with
  | nil => simp [insAt]
  | cons y ys ih =>
    have h1 := List.pairwise_cons.1 h
    unfold insAt
    split
    · rename_i hxy
      refine List.pairwise_cons.2 ⟨fun z hz => ?_, h⟩
      rcases List.mem_cons.1 hz with rfl | hz
      · exact hxy
      · exact Int.le_trans hxy (h1.1 z hz)
    · rename_i hxy
      refine List.pairwise_cons.2 ⟨fun z hz => ?_, ih h1.2⟩
      rcases List.mem_cons.1 ((insAt_perm x ys).mem_iff.1 hz) with rfl | hz
      · omega
      · exact h1.1 z hz
theorem isort_rises (l : List Int) : (isort l).Pairwise (· ≤ ·) := by
  induction l with
  | nil => exact List.Pairwise.nil
  | cons x xs ih => exact insAt_rises x _ ih
theorem mergeSort_is (l : List Int) : l.mergeSort (fun x y => decide (x ≤ y)) = isort l := by
  have h1 := List.pairwise_mergeSort (le := fun x y : Int => decide (x ≤ y)) (fun a b c h1 h2 => by simp at *; omega) (fun a b => by simp; omega) l
  refine List.Perm.eq_of_pairwise (le := (· ≤ ·)) (fun a b _ _ h1 h2 => Int.le_antisymm h1 h2) (h1.imp fun h => by simpa using h) (isort_rises l) ((List.mergeSort_perm l _).trans (isort_perm l).symm)
theorem isort_len (l : List Int) : (isort l).length = l.length := (isort_perm l).length_eq
/-- slices.Sort on a row of the call's own. -/
theorem sort_own (base : Nat) (A : Option Addr) (n c : Nat) (zs : List Int) (w : World) (h : w.ownsRow base 3 1 (.slice A n c) n (ints zs)) (hn : n ≤ 1000000) :
    Calls Try.prog 15 #[.slice A n c] w fun e w' => e = .returned (.tuple #[]) ∧ w'.ownsRow base 3 1 (.slice A n c) n (ints (isort zs)) ∧ w.grownBy w' (Value.slice A n c).ownBlock := by
  have hl : zs.length = n := by have := h.1; rw [ints_length] at this; omega
  rcases h.2 with ⟨h1, h2⟩ | ⟨g, cap, cur, hv, hb, hh, hnc, hcm, hs, ht⟩
  · injection h1 with h1 _ h3
    subst h1; subst h2; subst h3
    obtain rfl : zs = [] := List.eq_nil_of_length_eq_zero hl
    refine (Any.slices_Sort_int_none sortLays none 0 w).mono ?_
    rintro e w' ⟨rfl, rfl⟩
    exact ⟨rfl, h, World.grownBy.refl _ _⟩
  · injection hv with h1 h2 h3
    subst h1; subst h3
    have hH : Holds (Value.int .i64) w g 0 zs.toArray := holds_of_blockI hh (by rw [hl, ← Nat.mul_one n]; exact ht)
    have hg : g < w.heap.size := (Array.getElem?_eq_some_iff.1 hh).1
    have h2 := Any.slices_Sort_int sortLays g 0 c zs w hH hg (by omega)
    rw [hl] at h2
    refine h2.mono ?_
    rintro e w' ⟨rfl, m, os, rfl⟩
    rw [mergeSort_is]
    have h3 := ownsRow_sortedI (n := m) (os := os) (ss := zs) (ts := isort zs) (isort_len zs) hb hh (by omega) hcm hs
    rw [hl] at h3
    refine ⟨rfl, h3, ?_⟩
    exact grownBy_sortedI _
end Go.Proofs.Ytogdollfndpleaa
