/- A row of spans as slices.SortFunc holds it; spans joined in order. -/
import Derived.Test.YtogdollfndpleaaSpanBoth
import Derived.Shelf.GgSortFunc.InsertionK
import Derived.Sort.OwnSortedInts
namespace Go.Proofs.Ytogdollfndpleaa
open Go.ChangeShapes Go.WideShapes Go.ChangeAt Go.RowKit Go.Shelf Go.Sort
set_option linter.unusedVariables false
set_option maxRecDepth 100000
def encSp (x : Int × Int) : List Value := [.int .i64 x.1, .int .i64 x.2]
theorem flat_sp (l : List (Int × Int)) : flatK encSp 2 l.toArray = (smps l).toArray := by
  apply Array.ext
  · simp [smps_length]
  · intro i h1 h2
    have hl : i < l.length * 2 := by simpa using h1
    have hq : i / 2 < l.length := by omega
    rw [← getElem!_pos (flatK encSp 2 l.toArray) i h1, get_flatK _ _ _ _ (by simpa using hl)]
    have e1 : l.toArray[i / 2]! = l[i / 2] := by rw [getElem!_pos _ _ (by simpa using hq)]; simp
    rw [e1]
    obtain ⟨g0, g1⟩ := smps_get l (i / 2) hq
    rcases Nat.mod_two_eq_zero_or_one i with hm | hm
    · rw [hm]
      have e : i = i / 2 * 2 := by omega
      have h3 := (List.getElem?_eq_some_iff.1 g0).2
      simp only [List.getElem_toArray]
      rw [← show (smps l)[i / 2 * 2]'(by rw [smps_length]; omega) = (smps l)[i]'(by rw [smps_length]; omega) by congr 1; omega, h3]
      rfl
    · rw [hm]
      have h3 := (List.getElem?_eq_some_iff.1 g1).2
      simp only [List.getElem_toArray]
      rw [← show (smps l)[i / 2 * 2 + 1]'(by rw [smps_length]; omega) = (smps l)[i]'(by rw [smps_length]; omega) by congr 1; omega, h3]
      rfl
theorem holds_sp {w : World} {g n : Nat} {t : TypeId} {cur : Array Value} {zs : List (Int × Int)} (hb : w.heap[g]? = some (.cells cur t (0, 0))) (hl : zs.length = n) (ht : cur.toList.take (n * 2) = smps zs) : HoldsK encSp 2 w g 0 zs.toArray := by
  intro j hj
  rw [size_flatK] at hj
  have hj' : j < (smps zs).length := by rw [smps_length]; simpa using hj
  refine ⟨?_, by simp [World.frozen?, hb]⟩
  rw [flat_sp, getElem!_pos _ _ (by simpa using hj')]
  have h1 : (cur.toList.take (n * 2))[j]? = (smps zs)[j]? := by rw [ht]
  rw [List.getElem?_take_of_lt (by rw [smps_length, hl] at hj'; exact hj'), Array.getElem?_toList] at h1
  simp only [World.cell?, hb, Nat.zero_add]
  simp only [Option.isSome_none, Bool.false_eq_true, if_false]
  rw [h1, List.getElem?_eq_getElem hj']
  simp
theorem heap_sorted_sp {w : World} {g n : Nat} {os : Array Obj} {cur : Array Value} {e : TypeId} {fr : Nat × Nat} (d : Array (Int × Int)) (hb : w.heap[g]? = some (.cells cur e fr)) :
    (sortWorldK encSp 2 w g 0 n d os).heap[g]? = some (.cells (putCells id 0 (flatK encSp 2 d) cur) e fr) := by
  have hg : g < w.heap.size := (Array.getElem?_eq_some_iff.1 hb).1
  unfold sortWorldK
  rw [heap_grow_old _ _ (by simpa [putRowK] using hg)]
  simp [putRowK, putRow, mapBlock, Sort.ahead, Array.getElem?_modify, hb, onCells]
theorem grownBy_sorted_sp {w : World} {g n : Nat} {os : Array Obj} (d : Array (Int × Int)) : w.grownBy (sortWorldK encSp 2 w g 0 n d os) (some g) := by
  unfold sortWorldK
  refine ⟨rfl, rfl, rfl, by simp [putRowK], fun k hk hne => ?_⟩
  rw [heap_grow_old _ _ (by simpa [putRowK] using hk)]
  have : g ≠ k := fun e => hne (by rw [e])
  simp [putRowK, putRow, mapBlock, Sort.ahead, Array.getElem?_modify, this]
theorem take_put_sp (cur : Array Value) (ts : List Value) (h : ts.length ≤ cur.size) : (putCells id 0 ts.toArray cur).toList.take ts.length = ts := by
  apply List.ext_getElem?
  intro j
  by_cases hj : j < ts.length
  · rw [List.getElem?_take_of_lt hj, Array.getElem?_toList]
    simp [putCells, hj, show j < cur.size by omega]
  · rw [List.getElem?_take_eq_none (by omega), List.getElem?_eq_none (by omega)]
theorem own_sorted_sp {w : World} {base g cap n m : Nat} {e : TypeId} {os : Array Obj} {cur : Array Value} {ts : List (Int × Int)} (hl : ts.length = m) (hbase : base ≤ g) (hb : w.heap[g]? = some (.cells cur e (0, 0)))
    (h1 : m ≤ cap) (h2 : cap ≤ maxLen) (h3 : cur.size = cap * 2) :
    (sortWorldK encSp 2 w g 0 n ts.toArray os).ownsRow base e 2 (.slice (some ⟨g, 0, none⟩) m cap) m (smps ts) :=
  ⟨by rw [smps_length, hl], .inr ⟨g, cap, _, rfl, hbase, heap_sorted_sp _ hb, h1, h2, by simp [putCells, h3], by
    rw [flat_sp, ← hl, ← smps_length]
    exact take_put_sp cur (smps ts) (by rw [smps_length, hl, h3]; exact Nat.mul_le_mul_right _ h1)⟩⟩
theorem inL_ex (l : List (Int × Int)) (t : Int) : InL l t ↔ ∃ x ∈ l, x.1 ≤ t ∧ t ≤ x.2 := by
  induction l with
  | nil => simp [InL]
  | cons x r ih => simp only [InL, ih, List.mem_cons, exists_eq_or_imp]
theorem inL_perm {l m : List (Int × Int)} (h : l.Perm m) (t : Int) : InL l t ↔ InL m t := by
  rw [inL_ex, inL_ex]
  exact ⟨fun ⟨x, h1, h2⟩ => ⟨x, h.mem_iff.1 h1, h2⟩, fun ⟨x, h1, h2⟩ => ⟨x, h.mem_iff.2 h1, h2⟩⟩
theorem withS_last_from {l : List (Int × Int)} {x : Int × Int} (h : ∀ y ∈ l.getLast?, y.1 ≤ x.1) : ∀ y ∈ (withS l x).getLast?, y.1 ≤ x.1 := by
  rcases List.eq_nil_or_concat l with rfl | ⟨us, z, rfl⟩
  · intro y hy; simp [withS_nil] at hy; subst hy; exact Int.le_refl _
  · rw [List.concat_eq_append] at *
    have hz := h z (by simp)
    rw [withS_last]
    intro y hy
    split at hy
    · simp at hy; subst hy; exact hz
    · simp at hy; subst hy; exact Int.le_refl _
theorem fold_spec : ∀ (s acc : List (Int × Int)), Rise 0 acc → (∀ y ∈ acc.getLast?, ∀ x ∈ s, y.1 ≤ x.1) → s.Pairwise (fun x y => x.1 ≤ y.1) → (∀ x ∈ s, 0 ≤ x.1 ∧ x.1 ≤ x.2) →
    (∀ t, InL (s.foldl withS acc) t ↔ InL acc t ∨ InL s t) ∧ Rise 0 (s.foldl withS acc)
  | [], acc, h, _, _, _ => ⟨fun t => by simp [InL], h⟩
  | x :: s, acc, h, hl, hp, hb => by
    have hp2 := List.pairwise_cons.1 hp
    have hx := hb x (by simp)
    have hlast : ∀ y ∈ acc.getLast?, y.1 ≤ x.1 := fun y hy => hl y hy x (by simp)
    obtain ⟨h1, h2⟩ := withS_spec h hx.1 hx.2 hlast
    obtain ⟨i1, i2⟩ := fold_spec s (withS acc x) h2 (fun y hy z hz => Int.le_trans (withS_last_from hlast y hy) (hp2.1 z hz)) hp2.2 (fun y hy => hb y (by simp [hy]))
    refine ⟨fun t => ?_, i2⟩
    rw [List.foldl_cons, i1, h1]
    simp only [InL, or_assoc]
theorem fold_len : ∀ (s acc : List (Int × Int)), (s.foldl withS acc).length ≤ acc.length + s.length
  | [], acc => by simp
  | x :: s, acc => by
    have h1 := withS_len acc x
    have h2 := fold_len s (withS acc x)
    rw [List.foldl_cons, List.length_cons]; omega
theorem fold_in : ∀ (s acc : List (Int × Int)), In200 acc → In200 s → In200 (s.foldl withS acc)
  | [], acc, h, _ => h
  | x :: s, acc, h, hs => fold_in s (withS acc x) (withS_in h (hs x (by simp))) (fun y hy => hs y (by simp [hy]))
theorem fold_step {l : List (Int × Int)} {k : Nat} (h : k < l.length) : (l.take (k + 1)).foldl withS [] = withS ((l.take k).foldl withS []) l[k] := by
  rw [List.take_succ_eq_append_getElem h, List.foldl_append]; rfl
/-- r is the spans of all ticks that l has. -/
def JoinOf (l r : List (Int × Int)) : Prop := Rise 0 r ∧ In200 r ∧ ∀ t, InL r t ↔ InL (clip l) t
theorem clip_le {l : List (Int × Int)} : ∀ x ∈ clip l, 0 ≤ x.1 ∧ x.1 ≤ x.2 := by
  intro z hz
  obtain ⟨x, _, hz⟩ := List.mem_flatMap.1 hz
  unfold clip1 at hz
  dsimp only at hz
  generalize hf : (if x.1 < 0 then 0 else x.1) = f at hz
  generalize (if 199 < x.2 then 199 else x.2) = t at hz
  have h1 : 0 ≤ f := by rw [← hf]; split <;> omega
  split at hz
  · rename_i hle; rw [List.mem_singleton] at hz; subst hz; exact ⟨h1, hle⟩
  · cases hz
theorem joinOf_fold {l s : List (Int × Int)} (hp : s.Perm (clip l)) (hs : s.Pairwise (fun x y => x.1 ≤ y.1)) : JoinOf l (s.foldl withS []) := by
  obtain ⟨h1, h2⟩ := fold_spec s [] trivial (fun y hy => by simp at hy) hs (fun x hx => clip_le x (hp.mem_iff.1 hx))
  refine ⟨h2, fold_in s [] (fun y hy => by cases hy) (fun y hy => clip_in l y (hp.mem_iff.1 hy)), fun t => ?_⟩
  rw [h1, inL_perm hp]
  simp [InL]
end Go.Proofs.Ytogdollfndpleaa
