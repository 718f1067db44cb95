/- slices.Sort and slices.Compact at texts, on a row of the call's own (gen_sortstr.py). -/
import Derived.Test.YtddkkfjgdfdcnaaSameStr
import Derived.Test.YtddkkfjgdfdcnaaKept
import Derived.Shelf.Small.Bits
import Derived.Shelf.Sort.Plain
import Derived.Shelf.Slices.CompactS
import Derived.Shelf.Slices.In.SortNone
import Derived.Sort.OwnSorted
namespace Go.Proofs
open Go.Shelf
def Try.lays190_ren : Go.Shelf.Ren := ⟨fun | 190 => 27 | 125 => 35 | 258 => 34 | 128 => 50 | 129 => 51 | 302 => 41 | 303 => 42 | 304 => 43 | 305 => 44 | 306 => 45 | 307 => 46 | 308 => 47 | 309 => 48 | 310 => 49 | 333 => 55 | 329 => 56 | 330 => 57 | 334 => 58 | 335 => 59 | 336 => 60 | 344 => 62 | n => n, fun | 31 => 33 | 9 => 9 | 3 => 3 | 46 => 72 | 0 => 0 | 51 => 87 | 53 => 89 | 4 => 4 | 183 => 79 | 182 => 78 | 131 => 84 | 5 => 5 | 218 => 90 | 222 => 94 | 228 => 96 | 229 => 97 | n => n, fun | n => n⟩
theorem Try.lays190 : Go.Proofs.Lays.n190 Try.prog Try.lays190_ren := {
  mixed := by kernel_rfl
  f125 := Try.func35.trans (congrArg some (by kernel_rfl))
  f128 := Try.func50.trans (congrArg some (by kernel_rfl))
  f129 := Try.func51.trans (congrArg some (by kernel_rfl))
  f190 := Try.func27.trans (congrArg some (by kernel_rfl))
  f258 := Try.func34.trans (congrArg some (by kernel_rfl))
  f302 := Try.func41.trans (congrArg some (by kernel_rfl))
  f303 := Try.func42.trans (congrArg some (by kernel_rfl))
  f304 := Try.func43.trans (congrArg some (by kernel_rfl))
  f305 := Try.func44.trans (congrArg some (by kernel_rfl))
  f306 := Try.func45.trans (congrArg some (by kernel_rfl))
  f307 := Try.func46.trans (congrArg some (by kernel_rfl))
  f308 := Try.func47.trans (congrArg some (by kernel_rfl))
  f309 := Try.func48.trans (congrArg some (by kernel_rfl))
  f310 := Try.func49.trans (congrArg some (by kernel_rfl))
  f329 := Try.func56.trans (congrArg some (by kernel_rfl))
  f330 := Try.func57.trans (congrArg some (by kernel_rfl))
  f333 := Try.func55.trans (congrArg some (by kernel_rfl))
  f334 := Try.func58.trans (congrArg some (by kernel_rfl))
  f335 := Try.func59.trans (congrArg some (by kernel_rfl))
  f336 := Try.func60.trans (congrArg some (by kernel_rfl))
  f344 := Try.func62.trans (congrArg some (by kernel_rfl))
  t0 := Try.underlying0
  a0 := Try.isAgg0
  z0 := Try.sizeOf0
  v0 := Try.zeroValue0
  t3 := Try.underlying3
  a3 := Try.isAgg3
  z3 := Try.sizeOf3
  v3 := Try.zeroValue3
  t4 := Try.underlying4
  a4 := Try.isAgg4
  z4 := Try.sizeOf4
  v4 := Try.zeroValue4
  t5 := Try.underlying5
  a5 := Try.isAgg5
  z5 := Try.sizeOf5
  v5 := Try.zeroValue5
  t9 := Try.underlying9
  a9 := Try.isAgg9
  z9 := Try.sizeOf9
  v9 := Try.zeroValue9
  t31 := Try.underlying33
  a31 := Try.isAgg33
  z31 := Try.sizeOf33
  v31 := Try.zeroValue33
  t46 := Try.underlying72
  a46 := Try.isAgg72
  z46 := Try.sizeOf72
  v46 := Try.zeroValue72
  t51 := Try.underlying87
  a51 := Try.isAgg87
  z51 := Try.sizeOf87
  v51 := Try.zeroValue87
  t53 := Try.underlying89
  a53 := Try.isAgg89
  z53 := Try.sizeOf89
  v53 := Try.zeroValue89
  t131 := Try.underlying84
  a131 := Try.isAgg84
  z131 := Try.sizeOf84
  v131 := Try.zeroValue84
  t182 := Try.underlying78
  a182 := Try.isAgg78
  z182 := Try.sizeOf78
  v182 := Try.zeroValue78
  t183 := Try.underlying79
  a183 := Try.isAgg79
  z183 := Try.sizeOf79
  v183 := Try.zeroValue79
  t218 := Try.underlying90
  a218 := Try.isAgg90
  z218 := Try.sizeOf90
  v218 := Try.zeroValue90
  t222 := Try.underlying94
  a222 := Try.isAgg94
  z222 := Try.sizeOf94
  v222 := Try.zeroValue94
  t228 := Try.underlying96
  a228 := Try.isAgg96
  z228 := Try.sizeOf96
  v228 := Try.zeroValue96
  t229 := Try.underlying97
  a229 := Try.isAgg97
  z229 := Try.sizeOf97
  v229 := Try.zeroValue97 }
open Go.Sort Go.RowKit in
theorem Try.slices_Sort_string (blk off cap : Nat) (ss : List (List UInt8)) (w : World) (hH : Holds encStr w blk off ss.toArray) (hblk : blk < w.heap.size) (hsz : ss.length < 4611686018427387904) :
    Calls Try.prog 27 #[.slice (some ⟨blk, off, none⟩) ss.length cap] w fun e w' =>
      e = .returned (.tuple #[]) ∧ ∃ n os, w' = grow (putRow encStr (Sort.ahead w n) blk off (ss.mergeSort fun x y => decide (x ≤ y)).toArray) os := Any.slices_Sort_string Try.lays190 blk off cap ss w hH hblk hsz
open Go.RowKit Go.Sort in
theorem Try.slices_Sort_string_none (p : Option Addr) (cap : Nat) (w : World) :
    Calls Try.prog 27 #[.slice p 0 cap] w fun e w' => e = .returned (.tuple #[]) ∧ w' = w := Any.slices_Sort_string_none Try.lays190 p cap w

end Go.Proofs
namespace Go.Proofs.Ytddkkfjgdfdcnaa
open Go.ChangeShapes Go.WideShapes Go.ChangeAt Go.RowKit Go.Sort Go.Lib
set_option linter.unusedVariables false
set_option maxRecDepth 100000
/-- Rising, each once. -/
def Rises (l : List (List UInt8)) : Prop := l.Pairwise fun x y => x ≤ y ∧ x ≠ y
theorem rises_nodup {l : List (List UInt8)} (h : Rises l) : l.Nodup := h.imp fun h => h.2
theorem rises_eq {a b : List (List UInt8)} (ha : Rises a) (hb : Rises b) (h : ∀ x, x ∈ a ↔ x ∈ b) : a = b := by
  refine List.Perm.eq_of_pairwise (le := fun x y : List UInt8 => x ≤ y) (fun x y _ _ h1 h2 => List.le_antisymm h1 h2) (ha.imp fun h => h.1) (hb.imp fun h => h.1) ?_
  rw [List.perm_iff_count]
  intro x
  have h1 := List.nodup_iff_count.1 (rises_nodup ha) x
  have h2 := List.nodup_iff_count.1 (rises_nodup hb) x
  by_cases hx : x ∈ a
  · have := List.count_pos_iff.2 hx
    have := List.count_pos_iff.2 ((h x).1 hx)
    omega
  · rw [List.count_eq_zero.2 hx, List.count_eq_zero.2 (fun h3 => hx ((h x).2 h3))]
theorem compactUpTo_ok {zs : List (List UInt8)} (hs : zs.Pairwise fun x y => x ≤ y) : ∀ m, m ≤ zs.length → (∀ x, x ∈ compactUpTo zs.toArray m ↔ x ∈ zs.take m) ∧ Rises (compactUpTo zs.toArray m)
  | 0, _ => ⟨fun x => by simp [compactUpTo], by simp [compactUpTo, Rises]⟩
  | m + 1, hm => by
    obtain ⟨h1, h2⟩ := compactUpTo_ok hs m (by omega)
    have hml : m < zs.length := by omega
    have hg : zs.toArray[m]! = zs[m] := by simp [hml]
    rw [compactUpTo_succ, hg, List.take_succ_eq_append_getElem hml]
    by_cases hk : keeps zs.toArray m = true
    · rw [if_pos hk]
      refine ⟨fun x => by rw [List.mem_append, List.mem_append, h1], ?_⟩
      unfold Rises
      rw [List.pairwise_append]
      refine ⟨h2, by simp, fun x hx y hy => ?_⟩
      rw [List.mem_singleton] at hy; subst hy
      rw [h1] at hx
      obtain ⟨j, hj, rfl⟩ := List.getElem_of_mem hx
      rw [List.length_take] at hj
      rw [List.getElem_take]
      have hle : ∀ p q (hp : p < zs.length) (hq : q < zs.length), p ≤ q → zs[p] ≤ zs[q] := by
        intro p q hp hq hpq
        rcases Nat.lt_or_ge p q with h | h
        · exact List.pairwise_iff_getElem.1 hs p q hp hq h
        · have : p = q := by omega
          subst this; exact List.le_refl _
      have hne : zs[m] ≠ zs[m - 1] := by
        have h3 := hk
        unfold keeps at h3
        rw [decide_eq_true_eq] at h3
        rcases h3 with h3 | h3
        · omega
        · rw [hg] at h3
          rwa [show zs.toArray[m - 1]! = zs[m - 1] by simp [show m - 1 < zs.length by omega]] at h3
      have h5 := hle j (m - 1) (by omega) (by omega) (by omega)
      have h6 := hle (m - 1) m (by omega) hml (by omega)
      refine ⟨List.le_trans h5 h6, fun e => hne ?_⟩
      exact List.le_antisymm (e ▸ h5) h6
    · rw [if_neg hk, List.append_nil]
      refine ⟨fun x => ?_, h2⟩
      rw [h1, List.mem_append, List.mem_singleton]
      refine ⟨.inl, fun h => ?_⟩
      rcases h with h | h
      · exact h
      · have h3 : ¬ (m = 0 ∨ zs.toArray[m]! ≠ zs.toArray[m - 1]!) := by unfold keeps at hk; simpa using hk
        have hm0 : m ≠ 0 := fun h => h3 (.inl h)
        have heq : zs.toArray[m]! = zs.toArray[m - 1]! := Classical.byContradiction fun h => h3 (.inr h)
        rw [hg, show zs.toArray[m - 1]! = zs[m - 1] by simp [show m - 1 < zs.length by omega]] at heq
        rw [h, heq]
        exact List.mem_iff_getElem.2 ⟨m - 1, by rw [List.length_take]; omega, by rw [List.getElem_take]⟩
/-- Texts, rising, each once. -/
def sortC (l : List (List UInt8)) : List (List UInt8) := compact (l.mergeSort fun x y => decide (x ≤ y))
theorem sortC_ok (l : List (List UInt8)) : (∀ x, x ∈ sortC l ↔ x ∈ l) ∧ Rises (sortC l) := by
  have tr : ∀ a b c : List UInt8, decide (a ≤ b) = true → decide (b ≤ c) = true → decide (a ≤ c) = true := fun a b c h1 h2 => by simp only [decide_eq_true_eq] at *; exact List.le_trans h1 h2
  have tot_ : ∀ a b : List UInt8, (decide (a ≤ b) || decide (b ≤ a)) = true := fun a b => by simp only [Bool.or_eq_true, decide_eq_true_eq]; exact List.le_total a b
  have hs := List.pairwise_mergeSort (le := fun x y : List UInt8 => decide (x ≤ y)) tr tot_ l
  obtain ⟨h1, h2⟩ := compactUpTo_ok (hs.imp fun h => by simpa using h) _ (Nat.le_refl _)
  refine ⟨fun x => ?_, h2⟩
  show x ∈ compactUpTo _ _ ↔ _
  rw [h1, List.take_length]
  exact (List.mergeSort_perm l _).mem_iff
/-- Texts as lists of bytes. -/
def bts (l : List ByteArray) : List (List UInt8) := l.map fun b => b.data.toList
def txs (l : List (List UInt8)) : List ByteArray := l.map fun b => ⟨b.toArray⟩
theorem txs_bts (l : List ByteArray) : txs (bts l) = l := by
  unfold txs bts; rw [List.map_map]
  conv => rhs; rw [← List.map_id l]
  exact List.map_congr_left fun b _ => by simp
theorem bts_txs (l : List (List UInt8)) : bts (txs l) = l := by unfold txs bts; rw [List.map_map]; simp [Function.comp_def]
theorem strs_enc (l : List ByteArray) : strs l = (bts l).map encStr := by
  unfold strs bts; rw [List.map_map]; exact List.map_congr_left fun b _ => by simp
theorem enc_strs (l : List (List UInt8)) : l.map encStr = strs (txs l) := by unfold strs txs; rw [List.map_map]; rfl
theorem sort_own (base : Nat) (A : Option Addr) (n c : Nat) (zs : List ByteArray) (w : World) (h : w.ownsRow base 9 1 (.slice A n c) n (strs zs)) (hn : n ≤ 1000000) :
    Calls Try.prog 27 #[.slice A n c] w fun e w' => e = .returned (.tuple #[]) ∧ w'.ownsRow base 9 1 (.slice A n c) n (((bts zs).mergeSort fun x y => decide (x ≤ y)).map encStr) ∧ w.grownBy w' (Value.slice A n c).ownBlock := by
  have hl : zs.length = n := by have := h.1; simp [strs] at this; omega
  have hlb : (bts zs).length = n := by simp [bts, hl]
  rcases h.2 with ⟨h1, h2⟩ | ⟨g, cap, cur, hv, hb, hh, hnc, hcm, hs, ht⟩
  · injection h1 with h1 _ h3
    subst h1; subst h2; subst h3
    obtain rfl : zs = [] := List.eq_nil_of_length_eq_zero hl
    refine (Try.slices_Sort_string_none none 0 w).mono ?_
    rintro e w' ⟨rfl, rfl⟩
    exact ⟨rfl, by simpa [bts, strs] using h, World.grownBy.refl _ _⟩
  · injection hv with h1 h2 h3
    subst h1; subst h3
    have hH : Holds encStr w g 0 (bts zs).toArray := holds_of_block hh (by rw [hlb, ← Nat.mul_one n, ← strs_enc]; exact ht)
    have hg : g < w.heap.size := (Array.getElem?_eq_some_iff.1 hh).1
    have h2 := Try.slices_Sort_string g 0 c (bts zs) w hH hg (by omega)
    rw [hlb] at h2
    refine h2.mono ?_
    rintro e w' ⟨rfl, m, os, rfl⟩
    have h3 := ownsRow_sorted (n := m) (os := os) (ss := bts zs) (ts := (bts zs).mergeSort fun x y => decide (x ≤ y)) (List.length_mergeSort _) hb hh (by omega) hcm hs
    rw [hlb] at h3
    exact ⟨rfl, h3, grownBy_sorted _⟩
end Go.Proofs.Ytddkkfjgdfdcnaa
