/- Texts, merged in one. -/
import Derived.Test.YtlmakdclebbbkaaGreatBase10
import Derived.Test.YtlmakdclebbbkaaGreatBase5
import Derived.Lib.Overlaps
import Derived.Lib.AppendZerosOnto
import Derived.Test.YtlmakdclebbbkaaGreatBase2
import Derived.WalkSpells
import Derived.Test.YtlmakdclebbbkaaGreatBase7
namespace Go.Proofs.YtlmakdclebbbkaaGreat
open Go.ChangeShapes Go.WideShapes Go.ChangeAt Go.RowKit
set_option linter.unusedVariables false
set_option maxRecDepth 100000
theorem Tryz.infoRow : (Tryz.prog.info? 90).map (fun i => (i.zero, i.size, i.bytes)) = some (some (.agg #[.string ⟨#[]⟩, .slice none 0 0, .slice none 0 0]), 3, 64) := by kernel_rfl
theorem infoSizeR : (Tryz.prog.info? 90).map (·.size) = some 3 := by kernel_rfl
theorem srs_sub {l m : List SR} (h : ∀ u ∈ srs m, u.oneCell' = true) (hs : ∀ y ∈ l, y ∈ m) : ∀ u ∈ srs l, u.oneCell' = true := by
  intro u hu
  simp only [srs, List.mem_flatMap] at hu
  obtain ⟨x, hx, hu⟩ := hu
  exact h u (List.mem_flatMap.2 ⟨x, hs x hx, hu⟩)
theorem roverlaps_no (w : World) (xb g off lb cb : Nat) (cx cg : List Value) (hx : Blk w xb 90 cx) (hg : Blk w g 90 cg) (hne : xb ≠ g) (hl : cg.length ≠ 0) :
    (callFunc 67 #[.slice (some ⟨xb, 0, none⟩) 1 1, .slice (some ⟨g, off, none⟩) lb cb]).run Tryz.prog w = .ok (.value (.bool false)) w := by
  rw [run_callFunc_extern Tryz.func67 (by kernel_rfl) (by kernel_rfl) (by kernel_rfl) (e := Extern.SlicesOverlaps.overlaps #[79, 79] #[4]) (by kernel_rfl),
    Lib.run_overlaps_apart w 79 4 90 Tryz.underlying79 3 Tryz.sizeOf90 ⟨xb, 0, none⟩ ⟨g, off, none⟩ 1 1 lb cb hne 90 90 cx.length cg.length
      (by have h := hx.eq; simp [World.shape?, h]) (by have h := hg.eq; simp [World.shape?, h]) hl (hx.frozen 0) (hx.frozen _)]
  rfl
set_option maxHeartbeats 4000000 in
theorem rinsert_room (g n c i xb : Nat) (cur : List Value) (l : List SR) (x : SR) (w : World) (hK : Blk w g 90 cur) (hc : cur.length = c * 3) (ht : cur.take (n * 3) = srs l)
    (hi : i < n) (hr : n + 1 ≤ c) (hcm : c ≤ 9223372036854775807) (hnm : n ≤ 1000000) (hX : Blk w xb 90 (srs [x])) (ho1 : ∀ u ∈ srs [x], u.oneCell' = true) (ho2 : ∀ u ∈ srs l, u.oneCell' = true) (hne : xb ≠ g) :
    Calls Tryz.prog 33 #[.slice (some ⟨g, 0, none⟩) n c, .int .i64 i, .slice (some ⟨xb, 0, none⟩) 1 1] w fun e w' => e = .returned (.slice (some ⟨g, 0, none⟩) (n + 1) c) ∧
      ∃ cur', Blk w' g 90 cur' ∧ cur'.length = c * 3 ∧ cur'.take ((n + 1) * 3) = srs (l.take i ++ x :: l.drop i) ∧ w.grownBy w' (some g) := by
  have hov : ∀ off lb cb, (callFunc 67 #[.slice (some ⟨xb, 0, none⟩) 1 1, .slice (some ⟨g, off, none⟩) lb cb]).run Tryz.prog w = .ok (.value (.bool false)) w := fun off lb cb => roverlaps_no w xb g off lb cb _ _ hX hK hne (by omega)
  have b1 : ¬ c = i := by omega
  have b2 : ¬ c = i + 1 := by omega
  have b3 : ¬ ((i : Int) = n) := by omega
  have b4 : (i : Int) ≤ n := by omega
  have b5 : (i : Int) ≤ c := by omega
  have b6 : ((i : Int) == n) = false := by rw [beq_eq_false_iff_ne]; omega
  have b7 : ((i : Int) + 1).toNat = i + 1 := by omega
  have b8 : IntKind.i64.wrap ((i : Int) + 1) = (i : Int) + 1 := IntWalk.i64_in _ (by omega)
  have b9 : 0 ≤ (i : Int) + 1 := by omega
  have b10 : (i : Int) + 1 ≤ (n : Int) + 1 := by omega
  have b11 : (i : Int) ≤ (n : Int) + 1 := by omega
  have hln : l.length = n := by
    have h := congrArg List.length ht
    rw [srs_length, List.length_take] at h; omega
  obtain ⟨W1, hW1⟩ : ∃ W1, w.drew.setRow g (cur.take ((i + 1) * 3) ++ srs (l.drop i) ++ cur.drop ((i + 1) * 3 + (srs (l.drop i)).length)).toArray = W1 := ⟨_, rfl⟩
  have hcl : (srs (l.drop i)).length = (n - i) * 3 := by rw [srs_length, List.length_drop, hln]
  have hKd : Blk w.drew g 90 cur := hK
  have hcp1 : ∀ ty dc sc, (Builtin.copy_ #[79, 79] ty #[.slice (some ⟨g, (i + 1) * 3, none⟩) (n - i) dc, .slice (some ⟨g, i * 3, none⟩) (n + 1 - i) sc]).run Tryz.prog w.drew = .ok (goInt (n - i)) W1 := fun ty dc sc => by
    have h := run_copy_n (P := Tryz.prog) w.drew 79 79 ty 90 3 g ((i + 1) * 3) (n - i) dc ⟨g, i * 3, none⟩ (n + 1 - i) sc cur.toArray 90 (srs (l.drop i)) Tryz.underlying79 infoSizeR hKd
      (by rw [hcl]; congr 1; show n - i = min (n + 1 - i) (n - i); omega) (fun j v hj => by
        have hj' : j < (n - i) * 3 := by have := (List.getElem?_eq_some_iff.1 hj).1; omega
        rw [← srs_drop, ← ht, List.getElem?_drop, List.getElem?_take, if_pos (by omega)] at hj
        have := hKd.cell (i * 3 + j)
        rw [hj] at this
        by_cases h0 : j = 0
        · subst h0; rw [add_zero']; simpa using this
        · unfold Addr.add; rw [if_neg h0]; exact this) (by simp; omega) (srs_sub ho2 fun y hy => List.mem_of_mem_drop hy)
    rw [show Nat.min (n + 1 - i) (n - i) = n - i from Nat.min_eq_right (by omega)] at h
    rw [h, ← hW1]
    congr 2; omega
  have hK1 : Blk W1 g 90 (cur.take ((i + 1) * 3) ++ srs (l.drop i) ++ cur.drop ((i + 1) * 3 + (srs (l.drop i)).length)) := by
    rw [← hW1]; exact Blk.mk (setRow_heap w.drew g _ _ _ _ hKd)
  have hX1 : Blk W1 xb 90 (srs [x]) := by
    rw [← hW1]; exact Blk.mk ((setRow_other w.drew g xb _ hne).trans hX)
  have hG1 : w.grownBy W1 (some g) := by
    rw [← hW1]; exact ⟨rfl, rfl, rfl, by simp [World.setRow], fun k hk hn => setRow_other w.drew g k _ (fun e => hn (by rw [e]))⟩
  obtain ⟨r1, hr1⟩ : ∃ r1, cur.take ((i + 1) * 3) ++ srs (l.drop i) ++ cur.drop ((i + 1) * 3 + (srs (l.drop i)).length) = r1 := ⟨_, rfl⟩
  rw [hr1] at hK1
  have hl1 : r1.length = c * 3 := by rw [← hr1, List.length_append, List.length_append, List.length_take, List.length_drop, hcl]; omega
  obtain ⟨W2, hW2⟩ : ∃ W2, W1.setRow g (r1.take (i * 3) ++ srs [x] ++ r1.drop (i * 3 + 3)).toArray = W2 := ⟨_, rfl⟩
  have hcp2 : ∀ ty dc, (Builtin.copy_ #[79, 79] ty #[.slice (some ⟨g, i * 3, none⟩) (n + 1 - i) dc, .slice (some ⟨xb, 0, none⟩) 1 1]).run Tryz.prog W1 = .ok (goInt 1) W2 := fun ty dc => by
    have h := run_copy_n (P := Tryz.prog) W1 79 79 ty 90 3 g (i * 3) (n + 1 - i) dc ⟨xb, 0, none⟩ 1 1 r1.toArray 90 (srs [x]) Tryz.underlying79 infoSizeR hK1
      (by show (srs [x]).length = min 1 (n + 1 - i) * 3; rw [srs_length, show min 1 (n + 1 - i) = 1 by omega]; rfl) (fun j v hj => by
        have := hX1.cell j
        rw [hj] at this
        by_cases h0 : j = 0
        · subst h0; rw [add_zero']; simpa using this
        · unfold Addr.add; rw [if_neg h0]; simpa using this) (by rw [srs_length]; simp; omega) ho1
    rw [show Nat.min 1 (n + 1 - i) = 1 from Nat.min_eq_left (by omega)] at h
    rw [h, ← hW2]
    rfl
  have hK2 : Blk W2 g 90 (r1.take (i * 3) ++ srs [x] ++ r1.drop (i * 3 + 3)) := by
    rw [← hW2]; exact Blk.mk (setRow_heap W1 g _ _ _ _ hK1)
  have hG2 : w.grownBy W2 (some g) := by
    rw [← hW2]; exact ⟨hG1.os, hG1.tape, hG1.output, by simpa [World.setRow] using hG1.size, fun k hk hn => (setRow_other W1 g k _ (fun e => hn (by rw [e]))).trans (hG1.block k hk hn)⟩
  have hl2 : (r1.take (i * 3) ++ srs [x] ++ r1.drop (i * 3 + 3)).length = c * 3 := by rw [List.length_append, List.length_append, List.length_take, List.length_drop, srs_length]; simp; omega
  have hE : (r1.take (i * 3) ++ srs [x] ++ r1.drop (i * 3 + 3)).take ((n + 1) * 3) = srs (l.take i ++ x :: l.drop i) := by
    have e1 : r1.take (i * 3) = srs (l.take i) := by
      rw [← hr1, List.append_assoc, List.take_append_of_le_length (by rw [List.length_take]; omega), List.take_take, show min (i * 3) ((i + 1) * 3) = i * 3 by omega, ← srs_take, ← ht, List.take_take, show min (i * 3) (n * 3) = i * 3 by omega]
    have e2 : r1.drop (i * 3 + 3) = srs (l.drop i) ++ cur.drop ((i + 1) * 3 + (srs (l.drop i)).length) := by
      rw [← hr1, List.append_assoc, show i * 3 + 3 = (cur.take ((i + 1) * 3)).length by rw [List.length_take]; omega, List.drop_left]
    rw [e1, e2, ← List.append_assoc, List.take_append_of_le_length (by rw [List.length_append, List.length_append, hcl, srs_length, srs_length, List.length_take]; simp; omega),
      List.take_of_length_le (by rw [List.length_append, List.length_append, hcl, srs_length, srs_length, List.length_take]; simp; omega)]
    rw [List.append_assoc, srs_append, ← srs_append [x], List.singleton_append]
  have HFIN := Lib.hid (show ∃ cur', Blk W2 g 90 cur' ∧ cur'.length = c * 3 ∧ cur'.take ((n + 1) * 3) = srs (l.take i ++ x :: l.drop i) ∧ w.grownBy W2 (some g) from ⟨_, hK2, hl2, hE, hG2⟩)
  have HCP1 := Lib.hid hcp1; have HCP2 := Lib.hid hcp2
  clear hW1 hW2 hr1 hE hl2 hG2 hK2 hl1 hG1 hX1 hK1 hcl hKd hln hcp1 hcp2 hK hX hc ht hne
  go_enter Tryz.func33, Tryz.ntmps33
  go_wp2_with (simp only [hov])
  have hcp1 := HCP1.out
  go_region
  clear hcp1
  have hcp2 := HCP2.out
  go_wp2_with fail
  go_ret
  exact ⟨rfl, HFIN.out⟩
set_option maxHeartbeats 4000000 in
theorem rinsert_grow (g n i xb : Nat) (cur : List Value) (l : List SR) (x : SR) (w : World) (hK : Blk w g 90 cur) (hc : cur.length = n * 3) (ht : cur.take (n * 3) = srs l)
    (hi : i < n) (hcm : n ≤ 1000000) (hX : Blk w xb 90 (srs [x])) (ho1 : ∀ u ∈ srs [x], u.oneCell' = true) (ho2 : ∀ u ∈ srs l, u.oneCell' = true) :
    Calls Tryz.prog 33 #[.slice (some ⟨g, 0, none⟩) n n, .int .i64 i, .slice (some ⟨xb, 0, none⟩) 1 1] w fun e w' => ∃ G, e = .returned (.slice (some ⟨w.heap.size, 0, none⟩) (n + 1) G) ∧ n + 1 ≤ G ∧ G ≤ 9223372036854775807 ∧
      ∃ cur', Blk w' w.heap.size 90 cur' ∧ cur'.length = G * 3 ∧ cur'.take ((n + 1) * 3) = srs (l.take i ++ x :: l.drop i) ∧ w.grownBy w' none := by
  obtain ⟨i0, hi0, hz0, hz1, hz2⟩ := info_parts Tryz.infoRow
  have b1 : ¬ n = i := by omega
  have b3 : ¬ ((i : Int) = n) := by omega
  have b4 : (i : Int) ≤ n := by omega
  have b6 : ((i : Int) == n) = false := by rw [beq_eq_false_iff_ne]; omega
  have b7 : ((i : Int) + 1).toNat = i + 1 := by omega
  have b8 : IntKind.i64.wrap ((i : Int) + 1) = (i : Int) + 1 := IntWalk.i64_in _ (by omega)
  have b9 : 0 ≤ (i : Int) + 1 := by omega
  have b10 : (i : Int) + 1 ≤ (n : Int) + 1 := by omega
  have b11 : (i : Int) ≤ (n : Int) + 1 := by omega
  have b12 : (n : Int) < (n : Int) + 1 := by omega
  have hln : l.length = n := by
    have h := congrArg List.length ht
    rw [srs_length, List.length_take] at h; omega
  have hik : i + (n + 1 - i) = n + 1 := by omega
  have hgl := hK.lt
  have hxl := hX.lt
  have hcell : ∀ j v, cur[j]? = some v → w.cell? ⟨g, j, none⟩ = some v := fun j v h => (hK.cell j).trans h
  have hkk : (n : Int) + 1 - (i : Int) = ((n + 1 - i : Nat) : Int) := by omega
  have hold : (Builtin.firstCells i0.size i (.slice (some ⟨g, 0, none⟩) i n)).run Tryz.prog w.drew = .ok (cur.take (i * 3)).toArray w.drew := by
    rw [hz1]
    refine run_firstCells_some w.drew 3 i ⟨g, 0, none⟩ i n (cur.take (i * 3)) (by rw [List.length_take]; omega) (fun j v hj => ?_)
    rw [List.getElem?_take] at hj
    split at hj
    · have := hcell j v hj
      by_cases h0 : j = 0
      · subst h0; rw [add_zero']; exact this
      · unfold Addr.add; rw [if_neg h0]; simpa using this
    · cases hj
  obtain ⟨G, hG⟩ : ∃ G, G = grownCap w (n + 1) n 90 := ⟨_, rfl⟩
  obtain ⟨Z1, hZ1⟩ : ∃ Z1 : List Value, Z1 = (Builtin.zeroCells (Value.agg #[.string ⟨#[]⟩, .slice none 0 0, .slice none 0 0]).cells (n + 1 - i)).toList := ⟨_, rfl⟩
  obtain ⟨Z2, hZ2⟩ : ∃ Z2 : List Value, Z2 = (Builtin.zeroCells (Value.agg #[.string ⟨#[]⟩, .slice none 0 0, .slice none 0 0]).cells (G - (n + 1))).toList := ⟨_, rfl⟩
  have hGn : n + 1 ≤ G := by rw [hG]; exact grownCap_ge w _ _ _
  have hG63 : G ≤ 9223372036854775807 := by
    have := grownCap_le_maxLen w (n + 1) n 90 (by unfold maxLen; omega)
    rw [← hG] at this
    unfold maxLen at this
    omega
  have hZl1 : Z1.length = (n + 1 - i) * 3 := by rw [hZ1, Array.length_toList, size_zeroCells]; rfl
  have hZl2 : Z2.length = (G - (n + 1)) * 3 := by rw [hZ2, Array.length_toList, size_zeroCells]; rfl
  obtain ⟨W1, hW1⟩ : ∃ W1, w.drew.alloc (.cells (cur.take (i * 3) ++ Z1 ++ Z2).toArray 90) = W1 := ⟨_, rfl⟩
  have hrz : ∀ ty, (Builtin.append_ #[79, 3] ty #[.slice (some ⟨g, 0, none⟩) i n, .int .i64 ((n : Int) + 1 - (i : Int))]).run Tryz.prog w = .ok (.slice (some ⟨w.heap.size, 0, none⟩) (n + 1) G) W1 := fun ty => by
    have h := Lib.run_append_grow_zeros w 79 3 ty 90 i0 _ .i64 .i64 Tryz.underlying79 Tryz.underlying3 hi0 hz0 (some ⟨g, 0, none⟩) i n (cur.take (i * 3)) hold (n + 1 - i) (by omega) (by omega) (by omega) (by omega) (by rw [hz2]; omega) (by rw [hz2, hik]; exact growslice_fits (by omega) (by omega))
    rw [hik] at h
    have hA : ((cur.take (i * 3)).toArray ++ Builtin.zeroCells (Value.agg #[.string ⟨#[]⟩, .slice none 0 0, .slice none 0 0]).cells (n + 1 - i) ++ Builtin.zeroCells (Value.agg #[.string ⟨#[]⟩, .slice none 0 0, .slice none 0 0]).cells (G - (n + 1))) = (cur.take (i * 3) ++ Z1 ++ Z2).toArray := Array.toList_inj.1 (by rw [hZ1, hZ2]; simp)
    rw [hkk, h, ← hG, hA, hW1]
  have hK1 : Blk W1 w.heap.size 90 (cur.take (i * 3) ++ Z1 ++ Z2) := by rw [← hW1]; exact Blk.mk (heap_alloc_new w.drew _)
  have hg1 : Blk W1 g 90 cur := by rw [← hW1]; exact Blk.alloc (w := w.drew) hK _
  have hX1 : Blk W1 xb 90 (srs [x]) := by rw [← hW1]; exact Blk.alloc (w := w.drew) hX _
  have hG1 : w.grownBy W1 none := by rw [← hW1]; exact only_alloc (a := w) (w := w.drew) (show w.grownBy w.drew none from ⟨rfl, rfl, rfl, Nat.le_refl _, fun _ _ _ => rfl⟩) _
  obtain ⟨r1, hr1⟩ : ∃ r1, cur.take (i * 3) ++ Z1 ++ Z2 = r1 := ⟨_, rfl⟩
  rw [hr1] at hK1
  have hct : (cur.take (i * 3)).length = i * 3 := by rw [List.length_take]; omega
  have hl1 : r1.length = G * 3 := by rw [← hr1, List.length_append, List.length_append, hct, hZl1, hZl2]; omega
  have hsz1 : w.heap.size < W1.heap.size := hK1.lt
  -- the first copy: x at i
  obtain ⟨W2, hW2⟩ : ∃ W2, W1.setRow w.heap.size (r1.take (i * 3) ++ srs [x] ++ r1.drop (i * 3 + 3)).toArray = W2 := ⟨_, rfl⟩
  have hcp1 : ∀ ty dc, (Builtin.copy_ #[79, 79] ty #[.slice (some ⟨w.heap.size, i * 3, none⟩) (n + 1 - i) dc, .slice (some ⟨xb, 0, none⟩) 1 1]).run Tryz.prog W1 = .ok (goInt 1) W2 := fun ty dc => by
    have h := run_copy_n (P := Tryz.prog) W1 79 79 ty 90 3 w.heap.size (i * 3) (n + 1 - i) dc ⟨xb, 0, none⟩ 1 1 r1.toArray 90 (srs [x]) Tryz.underlying79 infoSizeR hK1
      (by show (srs [x]).length = min 1 (n + 1 - i) * 3; rw [srs_length, show min 1 (n + 1 - i) = 1 by omega]; rfl) (fun j v hj => by
        have := hX1.cell j
        rw [hj] at this
        by_cases h0 : j = 0
        · subst h0; rw [add_zero']; simpa using this
        · unfold Addr.add; rw [if_neg h0]; simpa using this) (by rw [srs_length]; simp; omega) ho1
    rw [show Nat.min 1 (n + 1 - i) = 1 from Nat.min_eq_left (by omega)] at h
    rw [h, ← hW2]
    rfl
  have hK2 : Blk W2 w.heap.size 90 (r1.take (i * 3) ++ srs [x] ++ r1.drop (i * 3 + 3)) := by rw [← hW2]; exact Blk.mk (setRow_heap W1 w.heap.size _ _ _ _ hK1)
  have hg2 : Blk W2 g 90 cur := by rw [← hW2]; exact Blk.mk ((setRow_other W1 w.heap.size g _ (by omega)).trans hg1)
  have hG2 : w.grownBy W2 none := by
    rw [← hW2]; exact ⟨hG1.os, hG1.tape, hG1.output, by simpa [World.setRow] using hG1.size, fun k hk hn => (setRow_other W1 w.heap.size k _ (by omega)).trans (hG1.block k hk hn)⟩
  obtain ⟨r2, hr2⟩ : ∃ r2, r1.take (i * 3) ++ srs [x] ++ r1.drop (i * 3 + 3) = r2 := ⟨_, rfl⟩
  rw [hr2] at hK2
  have hl2 : r2.length = G * 3 := by rw [← hr2, List.length_append, List.length_append, List.length_take, List.length_drop, srs_length]; simp; omega
  -- the second copy: what stood from i on
  have hcl : (srs (l.drop i)).length = (n - i) * 3 := by rw [srs_length, List.length_drop, hln]
  obtain ⟨W3, hW3⟩ : ∃ W3, W2.drew.setRow w.heap.size (r2.take ((i + 1) * 3) ++ srs (l.drop i) ++ r2.drop ((i + 1) * 3 + (srs (l.drop i)).length)).toArray = W3 := ⟨_, rfl⟩
  have hg2d : Blk W2.drew g 90 cur := hg2
  have hK2d : Blk W2.drew w.heap.size 90 r2 := hK2
  have hcp2 : ∀ ty dc sc, (Builtin.copy_ #[79, 79] ty #[.slice (some ⟨w.heap.size, (i + 1) * 3, none⟩) (n - i) dc, .slice (some ⟨g, i * 3, none⟩) (n - i) sc]).run Tryz.prog W2.drew = .ok (goInt (n - i)) W3 := fun ty dc sc => by
    have h := run_copy_n (P := Tryz.prog) W2.drew 79 79 ty 90 3 w.heap.size ((i + 1) * 3) (n - i) dc ⟨g, i * 3, none⟩ (n - i) sc r2.toArray 90 (srs (l.drop i)) Tryz.underlying79 infoSizeR hK2d
      (by rw [hcl]; congr 1; show n - i = min (n - i) (n - i); omega) (fun j v hj => by
        have hj' : j < (n - i) * 3 := by have := (List.getElem?_eq_some_iff.1 hj).1; omega
        rw [← srs_drop, ← ht, List.getElem?_drop, List.getElem?_take, if_pos (by omega)] at hj
        have := hg2d.cell (i * 3 + j)
        rw [hj] at this
        by_cases h0 : j = 0
        · subst h0; rw [add_zero']; simpa using this
        · unfold Addr.add; rw [if_neg h0]; exact this) (by simp; omega) (srs_sub ho2 fun y hy => List.mem_of_mem_drop hy)
    rw [show Nat.min (n - i) (n - i) = n - i from Nat.min_self _] at h
    rw [h, ← hW3]
    congr 2; omega
  have hK3 : Blk W3 w.heap.size 90 (r2.take ((i + 1) * 3) ++ srs (l.drop i) ++ r2.drop ((i + 1) * 3 + (srs (l.drop i)).length)) := by rw [← hW3]; exact Blk.mk (setRow_heap W2.drew w.heap.size _ _ _ _ hK2d)
  have hG3 : w.grownBy W3 none := by
    rw [← hW3]; exact ⟨hG2.os, hG2.tape, hG2.output, by simpa [World.setRow] using hG2.size, fun k hk hn => (setRow_other W2.drew w.heap.size k _ (by omega)).trans (hG2.block k hk hn)⟩
  have hl3 : (r2.take ((i + 1) * 3) ++ srs (l.drop i) ++ r2.drop ((i + 1) * 3 + (srs (l.drop i)).length)).length = G * 3 := by rw [List.length_append, List.length_append, List.length_take, List.length_drop, hcl]; omega
  have hE : (r2.take ((i + 1) * 3) ++ srs (l.drop i) ++ r2.drop ((i + 1) * 3 + (srs (l.drop i)).length)).take ((n + 1) * 3) = srs (l.take i ++ x :: l.drop i) := by
    have e1 : r2.take ((i + 1) * 3) = srs (l.take i) ++ srs [x] := by
      rw [← hr2, List.take_append_of_le_length (by rw [List.length_append, List.length_take, srs_length]; simp; omega), List.take_of_length_le (by rw [List.length_append, List.length_take, srs_length]; simp; omega)]
      congr 1
      rw [← hr1, List.append_assoc, List.take_append_of_le_length (by rw [hct]; exact Nat.le_refl _), List.take_of_length_le (by rw [hct]; exact Nat.le_refl _), ← srs_take, ← ht, List.take_take, show min (i * 3) (n * 3) = i * 3 by omega]
    have hl4 : (srs (l.take i)).length = i * 3 := by rw [srs_length, List.length_take, hln]; omega
    rw [e1, List.take_append_of_le_length (by rw [List.length_append, List.length_append, hcl, hl4, srs_length]; simp; omega),
      List.take_of_length_le (by rw [List.length_append, List.length_append, hcl, hl4, srs_length]; simp; omega)]
    rw [List.append_assoc, srs_append, ← srs_append [x], List.singleton_append]
  have HFIN := Lib.hid (show ∃ cur', Blk W3 w.heap.size 90 cur' ∧ cur'.length = G * 3 ∧ cur'.take ((n + 1) * 3) = srs (l.take i ++ x :: l.drop i) ∧ w.grownBy W3 none from ⟨_, hK3, hl3, hE, hG3⟩)
  have HRZ := Lib.hid hrz; have HCP1 := Lib.hid hcp1; have HCP2 := Lib.hid hcp2
  have c1 : ¬ G = i := by omega
  have c2 : ¬ G = i + 1 := by omega
  have c3 : (i : Int) ≤ G := by omega
  clear hE hl3 hG3 hK3 hcp2 hK2d hg2d hW3 hcl hl2 hr2 hG2 hg2 hK2 hcp1 hW2 hsz1 hl1 hct hr1 hG1 hX1 hg1 hK1 hrz hW1 hZl1 hZl2 hZ1 hZ2 hG hold hkk hcell hln hK hX hc ht hgl hxl hik
  obtain ⟨B, hB⟩ : ∃ B, w.heap.size = B := ⟨_, rfl⟩
  rw [hB] at HFIN HRZ HCP1 HCP2 ⊢
  clear hB
  go_enter Tryz.func33, Tryz.ntmps33
  have hcp1 := HCP1.out
  go_wp2_with (at_builtin; refine Lib.wpList_append_run _ rfl (.tmp 34) (.tmp 39) 79 3 rfl _ _ rfl rfl _ _ (HRZ.out _) ?_)
  clear hcp1
  have hcp2 := HCP2.out
  go_region
  clear hcp2
  go_wp2_with fail
  go_ret
  exact ⟨G, rfl, hGn, hG63, HFIN.out⟩
theorem rinsert_end (A : Option Addr) (n c : Nat) (l : List SR) (x : SR) (xb : Nat) (w : World) (h : w.ownsRow 0 90 3 (.slice A n c) n (srs l)) (hX : Blk w xb 90 (srs [x])) (ho1 : ∀ u ∈ srs [x], u.oneCell' = true) (hnm : n ≤ 1000000) :
    Calls Tryz.prog 33 #[.slice A n c, .int .i64 n, .slice (some ⟨xb, 0, none⟩) 1 1] w fun e w' => ∃ A2 c2, e = .returned (.slice A2 (n + 1) c2) ∧ w'.ownsRow 0 90 3 (.slice A2 (n + 1) c2) (n + 1) (srs (l ++ [x])) ∧ w.grownBy w' (Value.slice A n c).ownBlock ∧ Where w (.slice A n c) (.slice A2 (n + 1) c2) := by
  obtain ⟨i0, hi0, hz0, hz1, hz2⟩ := info_parts Tryz.infoRow
  obtain ⟨A', c', hv, hc1, hc2⟩ := own_slice h
  injection hv with hv1 _ hv2; subst hv1; subst hv2
  have HS := Lib.hid (hX.sees (size := 3) (n := 1) (by rw [srs_length]; rfl) (List.prefix_refl _))
  have H := Lib.hid h; have HO := Lib.hid ho1
  obtain ⟨X, hXX⟩ : ∃ X, (if c = n then A else A.map (·.add (n * 3))) = X := ⟨_, rfl⟩
  clear h hX ho1
  go_enter Tryz.func33, Tryz.ntmps33
  go_wp2_with (at_builtin; refine wpList_append_at rfl (.tmp 23) (.tmp 24) 79 rfl 0 90 i0 (.agg #[.string ⟨#[]⟩, .slice none 0 0, .slice none 0 0]) 3 64 Tryz.underlying79 hi0 hz0 hz1 hz2 rfl (by decide) (.slice A n c) n (srs l) rfl H.out _ _ 1 1 (srs [x]) rfl HS.out HO.out (by unfold maxLen; omega) (by omega) (Nat.zero_le _) ?_)
  intro v3 w3 hown3 hgr3 hwh3
  obtain ⟨A6, c6, rfl, hc3, hc4⟩ := own_slice hown3
  have HA := Lib.hid hown3; have HG := Lib.hid hgr3; have HW := Lib.hid hwh3
  clear hown3 hgr3 hwh3
  go_wp2_with fail
  go_ret
  exact ⟨A6, c6, rfl, by rw [srs_append]; exact HA.out, HG.out, HW.out⟩
theorem rinsert_any (A : Option Addr) (n c i : Nat) (l : List SR) (x : SR) (xb : Nat) (w : World) (h : w.ownsRow 0 90 3 (.slice A n c) n (srs l)) (hX : Blk w xb 90 (srs [x])) (ho1 : ∀ u ∈ srs [x], u.oneCell' = true) (ho2 : ∀ u ∈ srs l, u.oneCell' = true) (hne : (Value.slice A n c).ownBlock ≠ some xb) (hnm : n ≤ 1000000) (hi : i ≤ n) :
    Calls Tryz.prog 33 #[.slice A n c, .int .i64 i, .slice (some ⟨xb, 0, none⟩) 1 1] w fun e w' => ∃ A2 c2, e = .returned (.slice A2 (n + 1) c2) ∧ w'.ownsRow 0 90 3 (.slice A2 (n + 1) c2) (n + 1) (srs (l.take i ++ x :: l.drop i)) ∧ w.grownBy w' (Value.slice A n c).ownBlock ∧ Where w (.slice A n c) (.slice A2 (n + 1) c2) := by
  have hln : l.length = n := by have := h.1; rw [srs_length] at this; omega
  by_cases hin : i = n
  · subst hin
    rw [List.take_of_length_le (by omega), List.drop_of_length_le (by omega)]
    exact rinsert_end A i c l x xb w h hX ho1 hnm
  · have hlt : i < n := by omega
    rcases h.2 with ⟨h1, h2⟩ | ⟨g, cap, cur, hv, hb, hh, hnc, hcm, hcs, htk⟩
    · injection h1 with _ h1 _; omega
    · injection hv with hv1 _ hv2; subst hv1; subst hv2
      have hK : Blk w g 90 cur.toList := by unfold Blk; simpa using hh
      have hcl : cur.toList.length = c * 3 := by simpa using hcs
      have hown : ∀ (w' : World) (G : Nat) (gg : Nat) (cur' : List Value), Blk w' gg 90 cur' → n + 1 ≤ G → G ≤ 9223372036854775807 → cur'.length = G * 3 → cur'.take ((n + 1) * 3) = srs (l.take i ++ x :: l.drop i) → w'.ownsRow 0 90 3 (.slice (some ⟨gg, 0, none⟩) (n + 1) G) (n + 1) (srs (l.take i ++ x :: l.drop i)) := fun w' G gg cur' k1 k2 k3 k4 k5 => by
        rw [← k5]; exact k1.owns (Nat.zero_le _) k2 (by unfold maxLen; omega) k4
      by_cases hr : n + 1 ≤ c
      · refine (rinsert_room g n c i xb cur.toList l x w hK hcl htk hlt hr (by unfold maxLen at hcm; omega) hnm hX ho1 ho2 (fun e => hne (by rw [e]; rfl))).mono ?_
        rintro e w' ⟨rfl, cur', k1, k2, k3, k4⟩
        exact ⟨_, _, rfl, hown w' c g cur' k1 hr (by unfold maxLen at hcm; omega) k2 k3, k4, .inl rfl⟩
      · obtain rfl : c = n := by omega
        refine (rinsert_grow g c i xb cur.toList l x w hK hcl htk hlt hnm hX ho1 ho2).mono ?_
        rintro e w' ⟨G, rfl, hG1, hG2, cur', k1, k2, k3, k4⟩
        exact ⟨_, _, rfl, hown w' G w.heap.size cur' k1 hG1 hG2 k2 k3, ⟨k4.os, k4.tape, k4.output, k4.size, fun k hk hn => k4.block k hk (fun e => by cases e)⟩, .inr fun k hk => by simp [Value.ownBlock] at hk; omega⟩
end Go.Proofs.YtlmakdclebbbkaaGreat

namespace Go.Proofs.YtlmakdclebbbkaaGreat
open Go.ChangeShapes Go.WideShapes Go.ChangeAt Go.RowKit
set_option linter.unusedVariables false
set_option maxRecDepth 100000
theorem clone_lbl (A : Option Addr) (n c B : Nat) (zs : List (ByteArray × ByteArray)) (w : World) (h : Sees w B 2 A n (lbls zs)) (hB : B ≤ w.heap.size) (hn : n ≤ 1000000) :
    Calls Tryz.prog 32 #[.slice A n c] w (OwnAns 25 2 n (lbls zs) w) := by
  have HL := Lib.hid h.lbl_len
  have H := Lib.hid h; clear h
  obtain ⟨i0, hi, hz0, hz1, hz2⟩ := info_parts Tryz.infoLabel
  have hnil := fun w => Lib.run_eql_slice_nil (P := Tryz.prog) w 26 25 A n c 0 0 Tryz.underlying26
  cases A with
  | none =>
    have hn0 : n = 0 := by
      rcases Nat.eq_zero_or_pos n with h | h
      · exact h
      · obtain ⟨ad, h, _⟩ := H.out.at_ h; cases h
    subst hn0
    have hl0 : zs = [] := List.eq_nil_of_length_eq_zero HL.out
    subst hl0
    have hr := Lib.hid (show w.ownsRow w.heap.size 25 2 (.slice none 0 0) 0 (lbls []) by simpa [lbls] using World.ownsRow_nil w w.heap.size 25 2)
    go_enter Tryz.func32, Tryz.ntmps32
    go_wp2_with fail
    go_ret
    exact ownAns hr.out (Below.refl _ _) rfl (Nat.le_refl _) (by omega)
  | some ad =>
    have hown0 : (w.alloc (.cells #[] 25)).ownsRow w.heap.size 25 2 (.slice (some ⟨w.heap.size, 0, none⟩) 0 0) 0 [] := World.ownsRow_made w #[] 0 (Nat.le_refl _) (by unfold maxLen; omega) rfl
    have HO := Lib.hid hown0; clear hown0
    have HS := Lib.hid (H.out.below (((Below.refl B w).alloc hB (.cells #[] 25)))); clear H
    go_enter Tryz.func32, Tryz.ntmps32
    go_wp2_with (at_builtin; refine wpList_append_sees rfl (.tmp 5) (.tmp 6) 26 rfl w.heap.size 25 i0 (.agg #[.string ⟨#[]⟩, .string ⟨#[]⟩]) 2 32 Tryz.underlying26 hi hz0 hz1 hz2 rfl (by decide) _ 0 [] rfl HO.out B (some ad) n _ (lbls zs) rfl HS.out (lbls_one _) (by unfold maxLen; omega) (by omega) (by simp) ?_)
    intro v' w1 hown hg
    have hb := ((Below.refl w.heap.size w).alloc (Nat.le_refl _) _).grown hg (by simp) (by simp [Value.ownBlock])
    try simp only [Nat.zero_add, List.nil_append] at hown
    obtain ⟨A2, c2, rfl, hc3, hc4⟩ := own_slice hown
    have H1 := Lib.hid hown; have H2 := Lib.hid hb; clear hown hb hg
    go_wp2_with fail
    go_ret
    exact ownAns H1.out H2.out rfl hc3 hc4
end Go.Proofs.YtlmakdclebbbkaaGreat

namespace Go.Proofs.YtlmakdclebbbkaaGreat
open Go.ChangeShapes Go.WideShapes Go.ChangeAt Go.RowKit
set_option linter.unusedVariables false
set_option maxRecDepth 100000
def OwnL (w : World) (v : Value) (l : List Lbl) : Prop := ∃ A c, v = .slice A l.length c ∧ w.ownsRow 0 25 2 (.slice A l.length c) l.length (lbls l)
theorem OwnL.hasL {w : World} {v : Value} {l : List Lbl} (h : OwnL w v l) : HasL w v l := by
  obtain ⟨A, c, rfl, h2⟩ := h
  obtain ⟨A', c', h3, h4, h5⟩ := own_slice h2
  injection h3 with h3 _ h6; subst h3; subst h6
  exact ⟨A, c, rfl, Sees.of_own h2, h4, h5⟩
theorem OwnL.below {w w' : World} {v : Value} {l : List Lbl} (h : OwnL w v l) (hb : Below w.heap.size w w') : OwnL w' v l := by
  obtain ⟨A, c, rfl, h2⟩ := h
  exact ⟨A, c, rfl, own_below h2 hb (Nat.le_refl _)⟩
theorem OwnL.stays {w : World} {v : Value} {l : List Lbl} (h : OwnL w v l) : Stays (fun W => OwnL W v l) w := fun _ hb => h.below hb
theorem ownL_of {l : List Lbl} {w w' : World} {e : Ending} (h : OwnAns 25 2 l.length (lbls l) w e w') : ∃ A c, e = .returned (.slice A l.length c) ∧ OwnL w' (.slice A l.length c) l ∧ Below w.heap.size w w' := by
  obtain ⟨A, c, h1, h2, h3, _⟩ := h
  exact ⟨A, c, h1, ⟨A, c, rfl, own_mono h2 (Nat.zero_le _)⟩, h3⟩
end Go.Proofs.YtlmakdclebbbkaaGreat
