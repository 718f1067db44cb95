/- slices.Insert of one label. -/
import Derived.Test.YtpeakblpmcfdnaaWith
import Derived.Test.YtpeakblpmcfdnaaCopyN
import Derived.Lib.Overlaps
import Derived.Lib.AppendZerosOnto
namespace Go.Proofs.Ytpeakblpmcfdnaa
open Go.ChangeShapes Go.WideShapes Go.ChangeAt Go.RowKit
set_option linter.unusedVariables false
set_option maxRecDepth 100000
/-- A copy whose run is known, as one step of a region that draws. -/
theorem step_copy_known {P : Program} {ops : Array Oper} {o : Oper} {a : Act} {w : World} {K : Act → World → Prop} {Q : Exit → Act → World → Prop} {E : Prop}
    (hg : o.guard = none) (d x : Operand) (dT sT : TypeId) (hop : o.op = Op.call { callee := Callee.builtin Builtin.copy, args := #[d, x], argTypes := #[dT, sT] })
    (v u : Value) (hd : a.eval d = v) (hx : a.eval x = u) (v' : Value) (w' : World) (hr : (Builtin.copy_ #[dT, sT] o.type #[v, u]).run P w = .ok v' w') (hK : K (a.put o.dst v') w') :
    if Region.wanted o (yielded ops a.tmps) = true then Oper.wp P o a w K Q else E := by
  have hw : Region.wanted o (yielded ops a.tmps) = true := by simp [Region.wanted, hg]
  rw [if_pos hw]
  unfold Oper.wp
  simp [execOp, hop, resolve, invoke, builtin, hd, hx, hr, Result.andThen]
  exact hK
theorem wpList_copy_known {P : Program} {w : World} {ops : Array Oper} {rest : List Oper} {o : Oper} {a : Act} {Q : Exit → Act → World → Prop} (hgd : o.guard = none) (d s : Operand) (dT sT : TypeId)
    (ho : o.op = .call { callee := .builtin .copy, args := #[d, s], argTypes := #[dT, sT] }) (v u : Value) (hd : a.eval d = v) (hs : a.eval s = u) (v' : Value) (w' : World)
    (hr : (Builtin.copy_ #[dT, sT] o.type #[v, u]).run P w = .ok v' w') (h : wpList P ops Q rest (a.put o.dst v') w') : wpList P ops Q (o :: rest) a w := by
  refine wpList_plain hgd fun K hK => ?_
  unfold Oper.wp
  simp [execOp, ho, resolve, invoke, builtin, hd, hs, hr, Result.andThen]
  exact hK _ _ h
theorem infoSize : (Try.prog.info? 26).map (·.size) = some 2 := by kernel_rfl
theorem overlaps_no (w : World) (xb g off lb cb : Nat) (cx cg : List Value) (hx : Blk w xb 26 cx) (hg : Blk w g 26 cg) (hne : xb ≠ g) (hl : cg.length ≠ 0) :
    (callFunc 45 #[.slice (some ⟨xb, 0, none⟩) 1 1, .slice (some ⟨g, off, none⟩) lb cb]).run Try.prog w = .ok (.value (.bool false)) w := by
  rw [run_callFunc_extern Try.func45 (by kernel_rfl) (by kernel_rfl) (by kernel_rfl) (e := Extern.SlicesOverlaps.overlaps #[27, 27] #[4]) (by kernel_rfl),
    Lib.run_overlaps_apart w 27 4 26 Try.underlying27 2 Try.sizeOf26 ⟨xb, 0, none⟩ ⟨g, off, none⟩ 1 1 lb cb hne 26 26 cx.length cg.length
      (by have h := hx.eq; simp [World.shape?, h]) (by have h := hg.eq; simp [World.shape?, h]) hl (hx.frozen 0) (hx.frozen _)]
  rfl
set_option maxHeartbeats 4000000 in
theorem insert_room (g n c i xb : Nat) (cur : List Value) (l : List (ByteArray × ByteArray)) (x : ByteArray × ByteArray) (w : World) (hK : Blk w g 26 cur) (hc : cur.length = c * 2) (ht : cur.take (n * 2) = lbls l)
    (hi : i < n) (hr : n + 1 ≤ c) (hcm : c ≤ 9223372036854775807) (hnm : n ≤ 1000000) (hX : Blk w xb 26 (lbls [x])) (hne : xb ≠ g) :
    Calls Try.prog 37 #[.slice (some ⟨g, 0, none⟩) n c, .int .i64 i, .slice (some ⟨xb, 0, none⟩) 1 1] w fun e w' => e = .returned (.slice (some ⟨g, 0, none⟩) (n + 1) c) ∧
      ∃ cur', Blk w' g 26 cur' ∧ cur'.length = c * 2 ∧ cur'.take ((n + 1) * 2) = lbls (l.take i ++ x :: l.drop i) ∧ w.grownBy w' (some g) := by
  have hov : ∀ off lb cb, (callFunc 45 #[.slice (some ⟨xb, 0, none⟩) 1 1, .slice (some ⟨g, off, none⟩) lb cb]).run Try.prog w = .ok (.value (.bool false)) w := fun off lb cb => overlaps_no w xb g off lb cb _ _ hX hK hne (by omega)
  have b1 : ¬ c = i := by omega
  have b2 : ¬ c = i + 1 := by omega
  have b3 : ¬ ((i : Int) = n) := by omega
  have b4 : (i : Int) ≤ n := by omega
  have b5 : (i : Int) ≤ c := by omega
  have b6 : ((i : Int) == n) = false := by rw [beq_eq_false_iff_ne]; omega
  have b7 : ((i : Int) + 1).toNat = i + 1 := by omega
  have b8 : IntKind.i64.wrap ((i : Int) + 1) = (i : Int) + 1 := IntWalk.i64_in _ (by omega)
  have b9 : 0 ≤ (i : Int) + 1 := by omega
  have b10 : (i : Int) + 1 ≤ (n : Int) + 1 := by omega
  have b11 : (i : Int) ≤ (n : Int) + 1 := by omega
  have hln : l.length = n := by
    have h := congrArg List.length ht
    rw [lbls_length, List.length_take] at h; omega
  obtain ⟨W1, hW1⟩ : ∃ W1, w.drew.setRow g (cur.take ((i + 1) * 2) ++ lbls (l.drop i) ++ cur.drop ((i + 1) * 2 + (lbls (l.drop i)).length)).toArray = W1 := ⟨_, rfl⟩
  have hcl : (lbls (l.drop i)).length = (n - i) * 2 := by rw [lbls_length, List.length_drop, hln]
  have hKd : Blk w.drew g 26 cur := hK
  have hcp1 : ∀ ty dc sc, (Builtin.copy_ #[27, 27] ty #[.slice (some ⟨g, (i + 1) * 2, none⟩) (n - i) dc, .slice (some ⟨g, i * 2, none⟩) (n + 1 - i) sc]).run Try.prog w.drew = .ok (goInt (n - i)) W1 := fun ty dc sc => by
    have h := run_copy_n (P := Try.prog) w.drew 27 27 ty 26 2 g ((i + 1) * 2) (n - i) dc ⟨g, i * 2, none⟩ (n + 1 - i) sc cur.toArray 26 (lbls (l.drop i)) Try.underlying27 infoSize hKd
      (by rw [hcl]; congr 1; show n - i = min (n + 1 - i) (n - i); omega) (fun j v hj => by
        have hj' : j < (n - i) * 2 := by have := (List.getElem?_eq_some_iff.1 hj).1; omega
        rw [← lbls_drop, ← ht, List.getElem?_drop, List.getElem?_take, if_pos (by omega)] at hj
        have := hKd.cell (i * 2 + j)
        rw [hj] at this
        by_cases h0 : j = 0
        · subst h0; rw [add_zero']; simpa using this
        · unfold Addr.add; rw [if_neg h0]; exact this) (by simp; omega) (lbls_one _)
    rw [show Nat.min (n + 1 - i) (n - i) = n - i from Nat.min_eq_right (by omega)] at h
    rw [h, ← hW1]
    congr 2; omega
  have hK1 : Blk W1 g 26 (cur.take ((i + 1) * 2) ++ lbls (l.drop i) ++ cur.drop ((i + 1) * 2 + (lbls (l.drop i)).length)) := by
    rw [← hW1]; exact Blk.mk (setRow_heap w.drew g _ _ _ _ hKd)
  have hX1 : Blk W1 xb 26 (lbls [x]) := by
    rw [← hW1]; exact Blk.mk ((setRow_other w.drew g xb _ hne).trans hX)
  have hG1 : w.grownBy W1 (some g) := by
    rw [← hW1]; exact ⟨rfl, rfl, rfl, by simp [World.setRow], fun k hk hn => setRow_other w.drew g k _ (fun e => hn (by rw [e]))⟩
  obtain ⟨r1, hr1⟩ : ∃ r1, cur.take ((i + 1) * 2) ++ lbls (l.drop i) ++ cur.drop ((i + 1) * 2 + (lbls (l.drop i)).length) = r1 := ⟨_, rfl⟩
  rw [hr1] at hK1
  have hl1 : r1.length = c * 2 := by rw [← hr1, List.length_append, List.length_append, List.length_take, List.length_drop, hcl]; omega
  obtain ⟨W2, hW2⟩ : ∃ W2, W1.setRow g (r1.take (i * 2) ++ lbls [x] ++ r1.drop (i * 2 + 2)).toArray = W2 := ⟨_, rfl⟩
  have hcp2 : ∀ ty dc, (Builtin.copy_ #[27, 27] ty #[.slice (some ⟨g, i * 2, none⟩) (n + 1 - i) dc, .slice (some ⟨xb, 0, none⟩) 1 1]).run Try.prog W1 = .ok (goInt 1) W2 := fun ty dc => by
    have h := run_copy_n (P := Try.prog) W1 27 27 ty 26 2 g (i * 2) (n + 1 - i) dc ⟨xb, 0, none⟩ 1 1 r1.toArray 26 (lbls [x]) Try.underlying27 infoSize hK1
      (by show (lbls [x]).length = min 1 (n + 1 - i) * 2; rw [lbls_length, show min 1 (n + 1 - i) = 1 by omega]; rfl) (fun j v hj => by
        have := hX1.cell j
        rw [hj] at this
        by_cases h0 : j = 0
        · subst h0; rw [add_zero']; simpa using this
        · unfold Addr.add; rw [if_neg h0]; simpa using this) (by rw [lbls_length]; simp; omega) (lbls_one _)
    rw [show Nat.min 1 (n + 1 - i) = 1 from Nat.min_eq_left (by omega)] at h
    rw [h, ← hW2]
    rfl
  have hK2 : Blk W2 g 26 (r1.take (i * 2) ++ lbls [x] ++ r1.drop (i * 2 + 2)) := by
    rw [← hW2]; exact Blk.mk (setRow_heap W1 g _ _ _ _ hK1)
  have hG2 : w.grownBy W2 (some g) := by
    rw [← hW2]; exact ⟨hG1.os, hG1.tape, hG1.output, by simpa [World.setRow] using hG1.size, fun k hk hn => (setRow_other W1 g k _ (fun e => hn (by rw [e]))).trans (hG1.block k hk hn)⟩
  have hl2 : (r1.take (i * 2) ++ lbls [x] ++ r1.drop (i * 2 + 2)).length = c * 2 := by rw [List.length_append, List.length_append, List.length_take, List.length_drop, lbls_length]; simp; omega
  have hE : (r1.take (i * 2) ++ lbls [x] ++ r1.drop (i * 2 + 2)).take ((n + 1) * 2) = lbls (l.take i ++ x :: l.drop i) := by
    have e1 : r1.take (i * 2) = lbls (l.take i) := by
      rw [← hr1, List.append_assoc, List.take_append_of_le_length (by rw [List.length_take]; omega), List.take_take, show min (i * 2) ((i + 1) * 2) = i * 2 by omega, ← lbls_take, ← ht, List.take_take, show min (i * 2) (n * 2) = i * 2 by omega]
    have e2 : r1.drop (i * 2 + 2) = lbls (l.drop i) ++ cur.drop ((i + 1) * 2 + (lbls (l.drop i)).length) := by
      rw [← hr1, List.append_assoc, show i * 2 + 2 = (cur.take ((i + 1) * 2)).length by rw [List.length_take]; omega, List.drop_left]
    rw [e1, e2, ← List.append_assoc, List.take_append_of_le_length (by rw [List.length_append, List.length_append, hcl, lbls_length, lbls_length, List.length_take]; simp; omega),
      List.take_of_length_le (by rw [List.length_append, List.length_append, hcl, lbls_length, lbls_length, List.length_take]; simp; omega)]
    rw [List.append_assoc, lbls_append, ← lbls_append [x], List.singleton_append]
  have HFIN := Lib.hid (show ∃ cur', Blk W2 g 26 cur' ∧ cur'.length = c * 2 ∧ cur'.take ((n + 1) * 2) = lbls (l.take i ++ x :: l.drop i) ∧ w.grownBy W2 (some g) from ⟨_, hK2, hl2, hE, hG2⟩)
  have HCP1 := Lib.hid hcp1; have HCP2 := Lib.hid hcp2
  clear hW1 hW2 hr1 hE hl2 hG2 hK2 hl1 hG1 hX1 hK1 hcl hKd hln hcp1 hcp2 hK hX hc ht hne
  go_enter Try.func37, Try.ntmps37
  go_wp2_with (simp only [hov])
  have hcp1 := HCP1.out
  go_region
  clear hcp1
  have hcp2 := HCP2.out
  go_wp2_with fail
  go_ret
  exact ⟨rfl, HFIN.out⟩
set_option maxHeartbeats 4000000 in
theorem insert_grow (g n i xb : Nat) (cur : List Value) (l : List (ByteArray × ByteArray)) (x : ByteArray × ByteArray) (w : World) (hK : Blk w g 26 cur) (hc : cur.length = n * 2) (ht : cur.take (n * 2) = lbls l)
    (hi : i < n) (hcm : n ≤ 1000000) (hX : Blk w xb 26 (lbls [x])) :
    Calls Try.prog 37 #[.slice (some ⟨g, 0, none⟩) n n, .int .i64 i, .slice (some ⟨xb, 0, none⟩) 1 1] w fun e w' => ∃ G, e = .returned (.slice (some ⟨w.heap.size, 0, none⟩) (n + 1) G) ∧ n + 1 ≤ G ∧ G ≤ 9223372036854775807 ∧
      ∃ cur', Blk w' w.heap.size 26 cur' ∧ cur'.length = G * 2 ∧ cur'.take ((n + 1) * 2) = lbls (l.take i ++ x :: l.drop i) ∧ w.grownBy w' none := by
  obtain ⟨i0, hi0, hz0, hz1, hz2⟩ := info_parts Try.infoLabel
  have b1 : ¬ n = i := by omega
  have b3 : ¬ ((i : Int) = n) := by omega
  have b4 : (i : Int) ≤ n := by omega
  have b6 : ((i : Int) == n) = false := by rw [beq_eq_false_iff_ne]; omega
  have b7 : ((i : Int) + 1).toNat = i + 1 := by omega
  have b8 : IntKind.i64.wrap ((i : Int) + 1) = (i : Int) + 1 := IntWalk.i64_in _ (by omega)
  have b9 : 0 ≤ (i : Int) + 1 := by omega
  have b10 : (i : Int) + 1 ≤ (n : Int) + 1 := by omega
  have b11 : (i : Int) ≤ (n : Int) + 1 := by omega
  have b12 : (n : Int) < (n : Int) + 1 := by omega
  have hln : l.length = n := by
    have h := congrArg List.length ht
    rw [lbls_length, List.length_take] at h; omega
  have hik : i + (n + 1 - i) = n + 1 := by omega
  have hgl := hK.lt
  have hxl := hX.lt
  have hcell : ∀ j v, cur[j]? = some v → w.cell? ⟨g, j, none⟩ = some v := fun j v h => (hK.cell j).trans h
  have hkk : (n : Int) + 1 - (i : Int) = ((n + 1 - i : Nat) : Int) := by omega
  have hold : (Builtin.firstCells i0.size i (.slice (some ⟨g, 0, none⟩) i n)).run Try.prog w.drew = .ok (cur.take (i * 2)).toArray w.drew := by
    rw [hz1]
    refine run_firstCells_some w.drew 2 i ⟨g, 0, none⟩ i n (cur.take (i * 2)) (by rw [List.length_take]; omega) (fun j v hj => ?_)
    rw [List.getElem?_take] at hj
    split at hj
    · have := hcell j v hj
      by_cases h0 : j = 0
      · subst h0; rw [add_zero']; exact this
      · unfold Addr.add; rw [if_neg h0]; simpa using this
    · cases hj
  obtain ⟨G, hG⟩ : ∃ G, G = grownCap w (n + 1) n 26 := ⟨_, rfl⟩
  obtain ⟨Z1, hZ1⟩ : ∃ Z1 : List Value, Z1 = (Builtin.zeroCells (Value.agg #[.string ⟨#[]⟩, .string ⟨#[]⟩]).cells (n + 1 - i)).toList := ⟨_, rfl⟩
  obtain ⟨Z2, hZ2⟩ : ∃ Z2 : List Value, Z2 = (Builtin.zeroCells (Value.agg #[.string ⟨#[]⟩, .string ⟨#[]⟩]).cells (G - (n + 1))).toList := ⟨_, rfl⟩
  have hGn : n + 1 ≤ G := by rw [hG]; exact grownCap_ge w _ _ _
  have hG63 : G ≤ 9223372036854775807 := by
    have := grownCap_le_maxLen w (n + 1) n 26 (by unfold maxLen; omega)
    rw [← hG] at this
    unfold maxLen at this
    omega
  have hZl1 : Z1.length = (n + 1 - i) * 2 := by rw [hZ1, Array.length_toList, size_zeroCells]; rfl
  have hZl2 : Z2.length = (G - (n + 1)) * 2 := by rw [hZ2, Array.length_toList, size_zeroCells]; rfl
  obtain ⟨W1, hW1⟩ : ∃ W1, w.drew.alloc (.cells (cur.take (i * 2) ++ Z1 ++ Z2).toArray 26) = W1 := ⟨_, rfl⟩
  have hrz : ∀ ty, (Builtin.append_ #[27, 3] ty #[.slice (some ⟨g, 0, none⟩) i n, .int .i64 ((n : Int) + 1 - (i : Int))]).run Try.prog w = .ok (.slice (some ⟨w.heap.size, 0, none⟩) (n + 1) G) W1 := fun ty => by
    have h := Lib.run_append_grow_zeros w 27 3 ty 26 i0 _ .i64 .i64 Try.underlying27 Try.underlying3 hi0 hz0 (some ⟨g, 0, none⟩) i n (cur.take (i * 2)) hold (n + 1 - i) (by omega) (by omega) (by omega) (by omega) (by rw [hz2]; omega) (by rw [hz2, hik]; exact growslice_fits (by omega) (by omega))
    rw [hik] at h
    have hA : ((cur.take (i * 2)).toArray ++ Builtin.zeroCells (Value.agg #[.string ⟨#[]⟩, .string ⟨#[]⟩]).cells (n + 1 - i) ++ Builtin.zeroCells (Value.agg #[.string ⟨#[]⟩, .string ⟨#[]⟩]).cells (G - (n + 1))) = (cur.take (i * 2) ++ Z1 ++ Z2).toArray := Array.toList_inj.1 (by rw [hZ1, hZ2]; simp)
    rw [hkk, h, ← hG, hA, hW1]
  have hK1 : Blk W1 w.heap.size 26 (cur.take (i * 2) ++ Z1 ++ Z2) := by rw [← hW1]; exact Blk.mk (heap_alloc_new w.drew _)
  have hg1 : Blk W1 g 26 cur := by rw [← hW1]; exact Blk.alloc (w := w.drew) hK _
  have hX1 : Blk W1 xb 26 (lbls [x]) := by rw [← hW1]; exact Blk.alloc (w := w.drew) hX _
  have hG1 : w.grownBy W1 none := by rw [← hW1]; exact only_alloc (a := w) (w := w.drew) (show w.grownBy w.drew none from ⟨rfl, rfl, rfl, Nat.le_refl _, fun _ _ _ => rfl⟩) _
  obtain ⟨r1, hr1⟩ : ∃ r1, cur.take (i * 2) ++ Z1 ++ Z2 = r1 := ⟨_, rfl⟩
  rw [hr1] at hK1
  have hct : (cur.take (i * 2)).length = i * 2 := by rw [List.length_take]; omega
  have hl1 : r1.length = G * 2 := by rw [← hr1, List.length_append, List.length_append, hct, hZl1, hZl2]; omega
  have hsz1 : w.heap.size < W1.heap.size := hK1.lt
  -- the first copy: x at i
  obtain ⟨W2, hW2⟩ : ∃ W2, W1.setRow w.heap.size (r1.take (i * 2) ++ lbls [x] ++ r1.drop (i * 2 + 2)).toArray = W2 := ⟨_, rfl⟩
  have hcp1 : ∀ ty dc, (Builtin.copy_ #[27, 27] ty #[.slice (some ⟨w.heap.size, i * 2, none⟩) (n + 1 - i) dc, .slice (some ⟨xb, 0, none⟩) 1 1]).run Try.prog W1 = .ok (goInt 1) W2 := fun ty dc => by
    have h := run_copy_n (P := Try.prog) W1 27 27 ty 26 2 w.heap.size (i * 2) (n + 1 - i) dc ⟨xb, 0, none⟩ 1 1 r1.toArray 26 (lbls [x]) Try.underlying27 infoSize hK1
      (by show (lbls [x]).length = min 1 (n + 1 - i) * 2; rw [lbls_length, show min 1 (n + 1 - i) = 1 by omega]; rfl) (fun j v hj => by
        have := hX1.cell j
        rw [hj] at this
        by_cases h0 : j = 0
        · subst h0; rw [add_zero']; simpa using this
        · unfold Addr.add; rw [if_neg h0]; simpa using this) (by rw [lbls_length]; simp; omega) (lbls_one _)
    rw [show Nat.min 1 (n + 1 - i) = 1 from Nat.min_eq_left (by omega)] at h
    rw [h, ← hW2]
    rfl
  have hK2 : Blk W2 w.heap.size 26 (r1.take (i * 2) ++ lbls [x] ++ r1.drop (i * 2 + 2)) := by rw [← hW2]; exact Blk.mk (setRow_heap W1 w.heap.size _ _ _ _ hK1)
  have hg2 : Blk W2 g 26 cur := by rw [← hW2]; exact Blk.mk ((setRow_other W1 w.heap.size g _ (by omega)).trans hg1)
  have hG2 : w.grownBy W2 none := by
    rw [← hW2]; exact ⟨hG1.os, hG1.tape, hG1.output, by simpa [World.setRow] using hG1.size, fun k hk hn => (setRow_other W1 w.heap.size k _ (by omega)).trans (hG1.block k hk hn)⟩
  obtain ⟨r2, hr2⟩ : ∃ r2, r1.take (i * 2) ++ lbls [x] ++ r1.drop (i * 2 + 2) = r2 := ⟨_, rfl⟩
  rw [hr2] at hK2
  have hl2 : r2.length = G * 2 := by rw [← hr2, List.length_append, List.length_append, List.length_take, List.length_drop, lbls_length]; simp; omega
  -- the second copy: what stood from i on
  have hcl : (lbls (l.drop i)).length = (n - i) * 2 := by rw [lbls_length, List.length_drop, hln]
  obtain ⟨W3, hW3⟩ : ∃ W3, W2.drew.setRow w.heap.size (r2.take ((i + 1) * 2) ++ lbls (l.drop i) ++ r2.drop ((i + 1) * 2 + (lbls (l.drop i)).length)).toArray = W3 := ⟨_, rfl⟩
  have hg2d : Blk W2.drew g 26 cur := hg2
  have hK2d : Blk W2.drew w.heap.size 26 r2 := hK2
  have hcp2 : ∀ ty dc sc, (Builtin.copy_ #[27, 27] ty #[.slice (some ⟨w.heap.size, (i + 1) * 2, none⟩) (n - i) dc, .slice (some ⟨g, i * 2, none⟩) (n - i) sc]).run Try.prog W2.drew = .ok (goInt (n - i)) W3 := fun ty dc sc => by
    have h := run_copy_n (P := Try.prog) W2.drew 27 27 ty 26 2 w.heap.size ((i + 1) * 2) (n - i) dc ⟨g, i * 2, none⟩ (n - i) sc r2.toArray 26 (lbls (l.drop i)) Try.underlying27 infoSize hK2d
      (by rw [hcl]; congr 1; show n - i = min (n - i) (n - i); omega) (fun j v hj => by
        have hj' : j < (n - i) * 2 := by have := (List.getElem?_eq_some_iff.1 hj).1; omega
        rw [← lbls_drop, ← ht, List.getElem?_drop, List.getElem?_take, if_pos (by omega)] at hj
        have := hg2d.cell (i * 2 + j)
        rw [hj] at this
        by_cases h0 : j = 0
        · subst h0; rw [add_zero']; simpa using this
        · unfold Addr.add; rw [if_neg h0]; exact this) (by simp; omega) (lbls_one _)
    rw [show Nat.min (n - i) (n - i) = n - i from Nat.min_self _] at h
    rw [h, ← hW3]
    congr 2; omega
  have hK3 : Blk W3 w.heap.size 26 (r2.take ((i + 1) * 2) ++ lbls (l.drop i) ++ r2.drop ((i + 1) * 2 + (lbls (l.drop i)).length)) := by rw [← hW3]; exact Blk.mk (setRow_heap W2.drew w.heap.size _ _ _ _ hK2d)
  have hG3 : w.grownBy W3 none := by
    rw [← hW3]; exact ⟨hG2.os, hG2.tape, hG2.output, by simpa [World.setRow] using hG2.size, fun k hk hn => (setRow_other W2.drew w.heap.size k _ (by omega)).trans (hG2.block k hk hn)⟩
  have hl3 : (r2.take ((i + 1) * 2) ++ lbls (l.drop i) ++ r2.drop ((i + 1) * 2 + (lbls (l.drop i)).length)).length = G * 2 := by rw [List.length_append, List.length_append, List.length_take, List.length_drop, hcl]; omega
  have hE : (r2.take ((i + 1) * 2) ++ lbls (l.drop i) ++ r2.drop ((i + 1) * 2 + (lbls (l.drop i)).length)).take ((n + 1) * 2) = lbls (l.take i ++ x :: l.drop i) := by
    have e1 : r2.take ((i + 1) * 2) = lbls (l.take i) ++ lbls [x] := by
      rw [← hr2, List.take_append_of_le_length (by rw [List.length_append, List.length_take, lbls_length]; simp; omega), List.take_of_length_le (by rw [List.length_append, List.length_take, lbls_length]; simp; omega)]
      congr 1
      rw [← hr1, List.append_assoc, List.take_append_of_le_length (by rw [hct]; exact Nat.le_refl _), List.take_of_length_le (by rw [hct]; exact Nat.le_refl _), ← lbls_take, ← ht, List.take_take, show min (i * 2) (n * 2) = i * 2 by omega]
    have hl4 : (lbls (l.take i)).length = i * 2 := by rw [lbls_length, List.length_take, hln]; omega
    rw [e1, List.take_append_of_le_length (by rw [List.length_append, List.length_append, hcl, hl4, lbls_length]; simp; omega),
      List.take_of_length_le (by rw [List.length_append, List.length_append, hcl, hl4, lbls_length]; simp; omega)]
    rw [List.append_assoc, lbls_append, ← lbls_append [x], List.singleton_append]
  have HFIN := Lib.hid (show ∃ cur', Blk W3 w.heap.size 26 cur' ∧ cur'.length = G * 2 ∧ cur'.take ((n + 1) * 2) = lbls (l.take i ++ x :: l.drop i) ∧ w.grownBy W3 none from ⟨_, hK3, hl3, hE, hG3⟩)
  have HRZ := Lib.hid hrz; have HCP1 := Lib.hid hcp1; have HCP2 := Lib.hid hcp2
  have c1 : ¬ G = i := by omega
  have c2 : ¬ G = i + 1 := by omega
  have c3 : (i : Int) ≤ G := by omega
  clear hE hl3 hG3 hK3 hcp2 hK2d hg2d hW3 hcl hl2 hr2 hG2 hg2 hK2 hcp1 hW2 hsz1 hl1 hct hr1 hG1 hX1 hg1 hK1 hrz hW1 hZl1 hZl2 hZ1 hZ2 hG hold hkk hcell hln hK hX hc ht hgl hxl hik
  obtain ⟨B, hB⟩ : ∃ B, w.heap.size = B := ⟨_, rfl⟩
  rw [hB] at HFIN HRZ HCP1 HCP2 ⊢
  clear hB
  go_enter Try.func37, Try.ntmps37
  have hcp1 := HCP1.out
  go_wp2_with (at_builtin; refine Lib.wpList_append_run _ rfl (.tmp 34) (.tmp 39) 27 3 rfl _ _ rfl rfl _ _ (HRZ.out _) ?_)
  clear hcp1
  have hcp2 := HCP2.out
  go_region
  clear hcp2
  go_wp2_with fail
  go_ret
  exact ⟨G, rfl, hGn, hG63, HFIN.out⟩
end Go.Proofs.Ytpeakblpmcfdnaa
