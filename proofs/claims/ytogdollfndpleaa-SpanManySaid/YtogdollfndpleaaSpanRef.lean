/- The document's own spans of flags. -/
import Derived.Test.YtogdollfndpleaaSpanSet
import Derived.Laws.MakeOwn
namespace Go.Proofs.Ytogdollfndpleaa
open Go.ChangeShapes Go.WideShapes Go.ChangeAt Go.RowKit
set_option linter.unusedVariables false
set_option maxRecDepth 100000
/-- The spans of the first k flags. -/
def spK (bs : List Bool) : Nat → List (Int × Int)
  | 0 => []
  | k + 1 => if bs.getD k false = true then withS (spK bs k) ((k : Int), (k : Int)) else spK bs k
theorem withS_end {l : List (Int × Int)} {t : Int} (h : ∀ y ∈ l.getLast?, y.2 < t) : ∀ y ∈ (withS l (t, t)).getLast?, y.2 = t := by
  rcases List.eq_nil_or_concat l with rfl | ⟨us, y, rfl⟩
  · intro z hz; simp [withS_nil] at hz; subst hz; rfl
  · rw [List.concat_eq_append] at *
    have hy := h y (by simp)
    rw [withS_last]
    intro z hz
    split at hz
    · first | rw [if_pos hy] at hz | skip
      simp at hz; subst hz; rfl
    · simp at hz; subst hz; rfl
theorem withS_some (l : List (Int × Int)) (x : Int × Int) : withS l x ≠ [] := by
  rcases List.eq_nil_or_concat l with rfl | ⟨us, y, rfl⟩
  · simp [withS_nil]
  · rw [List.concat_eq_append, withS_last]; split <;> simp
theorem spK_last (bs : List Bool) : ∀ k : Nat, (∀ y ∈ (spK bs k).getLast?, y.2 < k) ∧
    (∀ j, k = j + 1 → bs.getD j false = true → spK bs k ≠ [] ∧ ∀ y ∈ (spK bs k).getLast?, y.2 = j) ∧ (∀ j, k = j + 1 → bs.getD j false = false → ∀ y ∈ (spK bs k).getLast?, y.2 < j)
  | 0 => ⟨fun y hy => by simp [spK] at hy, fun j h => by omega, fun j h => by omega⟩
  | k + 1 => by
    obtain ⟨h1, h2, h3⟩ := spK_last bs k
    unfold spK
    by_cases hb : bs.getD k false = true
    · rw [if_pos hb]
      have he := withS_end (t := (k : Int)) h1
      refine ⟨fun y hy => by have := he y hy; omega, fun j hj _ => ⟨withS_some _ _, fun y hy => by have := he y hy; omega⟩, fun j hj hb2 => ?_⟩
      obtain rfl : j = k := by omega
      rw [hb] at hb2; cases hb2
    · rw [if_neg hb]
      refine ⟨fun y hy => by have := h1 y hy; omega, fun j hj hb2 => ?_, fun j hj _ y hy => ?_⟩
      · obtain rfl : j = k := by omega
        exact (hb hb2).elim
      · obtain rfl : j = k := by omega
        exact h1 y hy
theorem spK_spec (bs : List Bool) : ∀ k : Nat, (∀ t, InL (spK bs k) t ↔ ∃ j : Nat, j < k ∧ t = j ∧ bs.getD j false = true) ∧ Rise 0 (spK bs k) ∧ (∀ y ∈ spK bs k, y.2 < k)
  | 0 => ⟨fun t => by simp [spK, InL], trivial, fun y hy => by simp [spK] at hy⟩
  | k + 1 => by
    obtain ⟨h1, h2, h3⟩ := spK_spec bs k
    have hl := (spK_last bs k).1
    unfold spK
    by_cases hb : bs.getD k false = true
    · rw [if_pos hb]
      have hlast : ∀ y ∈ (spK bs k).getLast?, y.1 ≤ (k : Int) := by
        intro y hy
        have hm := List.mem_of_getLast? hy
        have h5 := h3 y hm
        have : y.1 ≤ y.2 := by
          obtain ⟨us, hus⟩ : ∃ us, spK bs k = us ++ [y] := by
            rcases List.eq_nil_or_concat (spK bs k) with e | ⟨us, z, e⟩
            · rw [e] at hy; simp at hy
            · rw [e, List.concat_eq_append] at hy
              simp at hy; subst hy
              exact ⟨us, by rw [e, List.concat_eq_append]⟩
          rw [hus] at h2
          exact ((rise_snoc 0 us y).1 h2).2.2
        omega
      obtain ⟨q1, q2⟩ := withS_spec (x := ((k : Int), (k : Int))) h2 (by show (0 : Int) ≤ k; omega) (Int.le_refl _) hlast
      refine ⟨fun t => ?_, q2, fun y hy => ?_⟩
      · rw [q1, h1]
        constructor
        · rintro (⟨j, g1, g2, g3⟩ | g)
          · exact ⟨j, by omega, g2, g3⟩
          · exact ⟨k, by omega, by simp only at g; omega, hb⟩
        · rintro ⟨j, g1, g2, g3⟩
          rcases Nat.lt_or_ge j k with g4 | g4
          · exact .inl ⟨j, g4, g2, g3⟩
          · obtain rfl : j = k := by omega
            exact .inr (by simp only; omega)
      · rcases List.eq_nil_or_concat (spK bs k) with e | ⟨us, z, e⟩
        · rw [e, withS_nil] at hy
          simp at hy; subst hy; show (k : Int) < _; omega
        · rw [e, List.concat_eq_append, withS_last] at hy
          have hz := h3 z (by rw [e, List.concat_eq_append]; simp)
          have hu : ∀ u ∈ us, u.2 < (k : Int) := fun u hu => h3 u (by rw [e, List.concat_eq_append]; simp [hu])
          rw [if_pos hz] at hy
          split at hy
          · rcases List.mem_append.1 hy with hy | hy
            · have := hu y hy; omega
            · rw [List.mem_singleton] at hy; subst hy; show (k : Int) < _; omega
          · rcases List.mem_append.1 hy with hy | hy
            · rcases List.mem_append.1 hy with hy | hy
              · have := hu y hy; omega
              · rw [List.mem_singleton] at hy; subst hy; omega
            · rw [List.mem_singleton] at hy; subst hy; show (k : Int) < _; omega
    · rw [if_neg hb]
      refine ⟨fun t => ?_, h2, fun y hy => by have := h3 y hy; omega⟩
      rw [h1]
      constructor
      · rintro ⟨j, g1, g2, g3⟩; exact ⟨j, by omega, g2, g3⟩
      · rintro ⟨j, g1, g2, g3⟩
        rcases Nat.lt_or_ge j k with g4 | g4
        · exact ⟨j, g4, g2, g3⟩
        · obtain rfl : j = k := by omega
          exact (hb g3).elim
theorem spK_len (bs : List Bool) : ∀ k : Nat, (spK bs k).length ≤ k
  | 0 => by simp [spK]
  | k + 1 => by
    have := spK_len bs k
    unfold spK
    split
    · have := withS_len (spK bs k) ((k : Int), (k : Int)); omega
    · omega
set_option maxHeartbeats 2000000 in
theorem spans_any (A : Option Addr) (n c : Nat) (bs : List Bool) (B : Nat) (w : World) (h : Sees w B 1 A n (bools bs)) (hB : B ≤ w.heap.size) (hn : n ≤ 1000) :
    Calls Try.prog 22 #[.slice A n c] w (OwnAns 28 2 (spK bs n).length (smps (spK bs n)) w) := by
  have H := Lib.hid h; clear h
  have HL := Lib.hid H.out.bool_len
  obtain ⟨i0, hi, hz0, hz1, hz2⟩ := info_parts Try.infoSpan
  go_enter Try.func22, Try.ntmps22
  go_wp2_with fail
  go_loopg [3, 8] n (fun g x3 x8 wr => ∃ (k : Nat) (A2 : Option Addr) (c2 : Nat) (ts : List (Int × Int)), k + g = n ∧ x8 = .int .i64 k ∧ x3 = .slice A2 ts.length c2 ∧ ts = spK bs k ∧ wr.ownsRow w.heap.size 28 2 (.slice A2 ts.length c2) ts.length (smps ts) ∧ Below w.heap.size w wr)
  case atStart => exact ⟨0, none, 0, [], by omega, rfl, rfl, rfl, World.ownsRow_nil _ _ _ _, Below.refl _ _⟩
  case round =>
    obtain ⟨k, A2, c2, ts, hkg, rfl, rfl, hts, hown, hbel⟩ := hrel
    have hsz := hbel.size
    have HO := Lib.hid hown; have HBL := Lib.hid hbel; have HT := Lib.hid hts
    have htl : ts.length ≤ k := by rw [hts]; exact spK_len bs k
    have HSL := Lib.hid (spK_last bs k)
    clear hown hbel hts
    cases gk with
    | zero =>
      obtain rfl : k = n := by omega
      obtain ⟨_, _, e, hc3, hc4⟩ := own_slice HO.out
      injection e with e1 _ e2; subst e1; subst e2
      go_wp2_with fail
      go_ret
      rw [← HT.out]
      exact ownAns HO.out HBL.out rfl hc3 hc4
    | succ g =>
      have hlt : k < n := by omega
      obtain ⟨ad, hkl, rfl, hc⟩ := (H.out.below (HBL.out.mono hB)).bool hlt
      have HBK := Lib.hid (show bs.getD k false = bs[k] by simp [List.getD_eq_getElem?_getD, List.getElem?_eq_getElem hkl])
      generalize hx : bs[k] = x at *
      have HX := Lib.hid hx; clear hx
      cases x with
      | false =>
        have HN := Lib.hid (show ts = spK bs (k + 1) by rw [spK, if_neg (by rw [HBK.out]; simp)]; exact HT.out)
        clear HSL
        go_wp2_with fail
        go_roundg g
        case measure => omega
        case rel => exact ⟨k + 1, A2, c2, ts, by omega, by go_num, rfl, HN.out, HO.out, HBL.out⟩
      | true =>
        have HN := Lib.hid (show spK bs (k + 1) = withS ts ((k : Int), (k : Int)) by rw [spK, if_pos HBK.out, HT.out])
        by_cases hk0 : k = 0
        · have hkn : ¬ (0 : Int) < k := by omega
          have hkn2 : ¬ 0 < k := by omega
          have HTE := Lib.hid (show ts = [] by rw [HT.out, hk0]; rfl)
          have HN2 := Lib.hid (show spK bs (k + 1) = ts ++ [((k : Int), (k : Int))] by rw [HN.out, HTE.out]; rfl)
          clear hk0 HSL
          have HO2 := Lib.hid (HO.out.alloc (.cells #[.int .i64 k, .int .i64 k] 28))
          have HX2 := Lib.hid (pair_sees (w := wr) (t := 28) (k : Int) (k : Int))
          have HB2 := Lib.hid (HBL.out.alloc hsz (.cells #[.int .i64 k, .int .i64 k] 28))
          go_wp2_with (at_builtin; refine wpList_append_sees rfl (.tmp 33) (.tmp 37) 24 rfl w.heap.size 28 i0 (.agg #[.int .i64 0, .int .i64 0]) 2 16 Try.underlying24 hi hz0 hz1 hz2 rfl (by decide) _ ts.length (smps ts) rfl HO2.out _ _ 1 1 (smps [((k : Int), (k : Int))]) rfl HX2.out (smps_one _) (by unfold maxLen; omega) (by omega) (by simp; omega) ?_)
          intro v' w2 hown' hgrow
          have R := own_pair HB2.out HO2.out hown' hgrow (by simp; omega)
          obtain ⟨A3, c3, rfl, hc5, hc6⟩ := own_slice R.1
          have RR := Lib.hid R
          clear hown' hgrow HO2 HB2 HX2 R
          go_wp2_with fail
          go_roundg g
          case measure => omega
          case rel => exact ⟨k + 1, A3, c3, _, by omega, by go_num, rfl, HN2.out.symm, RR.out.1, RR.out.2⟩
        · obtain ⟨j, hj⟩ : ∃ j, k = j + 1 := ⟨k - 1, by omega⟩
          have HJ := Lib.hid hj
          have hkj : (k : Int) - 1 = j := by omega
          obtain ⟨ad', hjl, hA, hcj⟩ := (H.out.below (HBL.out.mono hB)).bool (show j < n by omega)
          injection hA with hA; subst hA
          have HBJ := Lib.hid (show bs.getD j false = bs[j] by simp [List.getD_eq_getElem?_getD, List.getElem?_eq_getElem hjl])
          have hk1 : (0 : Int) < k := by omega
          have hk3 : j < n := by omega
          have hk2 : (0 : Int) ≤ (j : Int) := by omega
          generalize hy : bs[j] = y at *
          have HY := Lib.hid hy; clear hy hk0 hj
          cases y with
          | false =>
            have HN2 := Lib.hid (show spK bs (k + 1) = ts ++ [((k : Int), (k : Int))] by
              rw [HN.out]
              have h9 := HSL.out.2.2 j HJ.out HBJ.out
              rw [← HT.out] at h9
              rcases List.eq_nil_or_concat ts with e | ⟨us, z, e⟩
              · rw [e]; rfl
              · rw [e, List.concat_eq_append] at h9 ⊢
                have := h9 z (by simp)
                have := HJ.out
                rw [withS_last, if_neg (by show ¬ (k : Int) ≤ z.2 + 1; omega)])
            clear HSL
            have HO2 := Lib.hid (HO.out.alloc (.cells #[.int .i64 (k : Int), .int .i64 (k : Int)] 28))
            have HX2 := Lib.hid (pair_sees (w := wr) (t := 28) (k : Int) (k : Int))
            have HB2 := Lib.hid (HBL.out.alloc hsz (.cells #[.int .i64 (k : Int), .int .i64 (k : Int)] 28))
            go_wp2_with (at_builtin; refine wpList_append_sees rfl (.tmp 33) (.tmp 37) 24 rfl w.heap.size 28 i0 (.agg #[.int .i64 0, .int .i64 0]) 2 16 Try.underlying24 hi hz0 hz1 hz2 rfl (by decide) _ ts.length (smps ts) rfl HO2.out _ _ 1 1 (smps [((k : Int), (k : Int))]) rfl HX2.out (smps_one _) (by unfold maxLen; omega) (by omega) (by simp; omega) ?_)
            intro v' w2 hown' hgrow
            have R := own_pair HB2.out HO2.out hown' hgrow (by simp; omega)
            obtain ⟨A3, c3, rfl, hc5, hc6⟩ := own_slice R.1
            have RR := Lib.hid R
            clear hown' hgrow HO2 HB2 HX2 R
            go_wp2_with fail
            go_roundg g
            case measure => omega
            case rel => exact ⟨k + 1, A3, c3, _, by omega, by go_num, rfl, HN2.out.symm, RR.out.1, RR.out.2⟩
          | true =>
            obtain ⟨hne, hlast⟩ := HSL.out.2.1 j HJ.out HBJ.out
            rw [← HT.out] at hne hlast
            obtain ⟨us, z, e⟩ : ∃ us z, ts = us ++ [z] := by
              rcases List.eq_nil_or_concat ts with e | ⟨us, z, e⟩
              · exact (hne e).elim
              · exact ⟨us, z, by rw [e, List.concat_eq_append]⟩
            subst e
            obtain ⟨z1, z2⟩ := z
            have hz := hlast (z1, z2) (by simp)
            simp only at hz
            have hj2 := HJ.out
            have HN2 := Lib.hid (show spK bs (k + 1) = us ++ [(z1, (k : Int))] by
              rw [HN.out, withS_last]
              show (if (k : Int) ≤ z2 + 1 then us ++ [(z1, if z2 < (k : Int) then (k : Int) else z2)] else _) = _
              rw [if_pos (by omega), if_pos (by omega)])
            obtain ⟨gb, hnn, rfl, hbg, hgl, hfr, hc0, hc1, hset⟩ := own_last HO.out
            have HSET := Lib.hid (hset (k : Int))
            have hcap : us.length + 1 ≤ c2 := by obtain ⟨_, _, e, h1, _⟩ := own_slice HO.out; injection e with _ _ e; rw [List.length_append, List.length_singleton] at h1; omega
            have hll : (us ++ [(z1, z2)]).length = us.length + 1 := by simp
            have e2 : wr.frozen? ⟨gb, us.length * 2 + 1, none⟩ = false := hfr _
            have hmb : us.length ≤ 1000 := by rw [hll] at htl; omega
            rw [hll] at HSET ⊢
            clear hne hlast hset hfr hc0 HSL hnn htl hj2
            generalize hm : us.length = m at *
            have HM := Lib.hid hm; clear hm
            have hm0 : (0 : Int) ≤ m := by omega
            go_wp2_with fail
            go_roundg g
            case measure => omega
            case rel => exact ⟨k + 1, _, c2, us ++ [(z1, (k : Int))], by omega, by go_num, by rw [List.length_append, List.length_singleton, HM.out], HN2.out.symm, by rw [List.length_append, List.length_singleton, HM.out]; exact HSET.out, HBL.out.setCell hbg _⟩
theorem Try.infoBool3 : (Try.prog.info? 4).map (fun i => (i.zero, i.size, i.bytes)) = some (some (.bool false), 1, 1) := by kernel_rfl
theorem make60 {i0 : TypeInfo} (hi : Try.prog.info? 4 = some i0) (hz : i0.zero = some (.bool false)) (hs : i0.size = 1) (hb : i0.bytes = 1) :
    ∃ (Z : Array Value) (l : List Bool), l = List.replicate 60 false ∧ Z = (bools l).toArray ∧ ∀ w, (Instr.makeSlice 33 (.int .i64 60) (.int .i64 60)).run Try.prog w = .ok (.slice (some ⟨w.heap.size, 0, none⟩) 60 60) (w.alloc (.cells Z 4)) := by
  refine ⟨madeCells #[.bool false] 60, List.replicate 60 false, rfl, ?_, fun w => ?_⟩
  · apply Array.toList_inj.1
    rw [toList_madeCells_one]
    simp only [bools, List.map_replicate]
  · have h := run_makeSlice (P := Try.prog) w 33 4 i0 (.bool false) Try.underlying33 hi hz .i64 .i64 60 60 (by omega) (by omega) (by rw [hs]; decide) (by rw [hb]; decide) (by decide)
    rw [hs] at h
    exact h
def flagAt (bs : List Bool) (z : Int) : List Bool := bs.set (nWithin z 0 59).toNat true
def flagsL (zs : List Int) : List Bool := (zs.take 40).foldl flagAt (List.replicate 60 false)
theorem flagAt_len (bs : List Bool) (z : Int) : (flagAt bs z).length = bs.length := by simp [flagAt]
theorem flagFold_len (zs : List Int) (bs : List Bool) : (zs.foldl flagAt bs).length = bs.length := by
  induction zs generalizing bs with
  | nil => rfl
  | cons z zs ih => rw [List.foldl_cons, ih, flagAt_len]
theorem flagsL_len (zs : List Int) : (flagsL zs).length = 60 := by unfold flagsL; rw [flagFold_len]; simp
theorem flagFold_step {l : List Int} {k : Nat} (h : k < l.length) (b : List Bool) : (l.take (k + 1)).foldl flagAt b = flagAt ((l.take k).foldl flagAt b) l[k] := by
  rw [List.take_succ_eq_append_getElem h, List.foldl_append]; rfl
theorem bools_set (l : List Bool) (i : Nat) (b : Bool) : (bools l).set i (.bool b) = bools (l.set i b) := by simp [bools, List.map_set]
/-- Flags, and their spans. -/
def FlagsAns (bs : List Bool) (w : World) (e : Ending) (w' : World) : Prop :=
  ∃ A A2 c2, e = .returned (.tuple #[.slice A 60 60, .slice A2 (spK bs 60).length c2]) ∧ Sees w' w'.heap.size 1 A 60 (bools bs) ∧ Sees w' w'.heap.size 2 A2 (spK bs 60).length (smps (spK bs 60)) ∧ Below w.heap.size w w' ∧ (spK bs 60).length ≤ c2 ∧ c2 ≤ 9223372036854775807
theorem flagsAns {bs : List Bool} {w : World} {e : Ending} {w' : World} {A A2 : Option Addr} {c2 : Nat} (he : e = .returned (.tuple #[.slice A 60 60, .slice A2 (spK bs 60).length c2])) (h1 : Sees w' w'.heap.size 1 A 60 (bools bs)) (h2 : Sees w' w'.heap.size 2 A2 (spK bs 60).length (smps (spK bs 60)))
    (h3 : Below w.heap.size w w') (h4 : (spK bs 60).length ≤ c2) (h5 : c2 ≤ 9223372036854775807) : FlagsAns bs w e w' := ⟨A, A2, c2, he, h1, h2, h3, h4, h5⟩
set_option maxHeartbeats 2000000 in
theorem flags_any (A : Option Addr) (n c : Nat) (zs : List Int) (B : Nat) (w : World) (h : Sees w B 1 A n (ints zs)) (hz : ∀ z ∈ zs, I64 z) (hB : B ≤ w.heap.size) (hn : n ≤ 9223372036854775807) :
    Calls Try.prog 10 #[.slice A n c] w (FlagsAns (flagsL zs) w) := by
  have H := Lib.hid h; have HZ := Lib.hid hz
  have HL := Lib.hid h.int_len
  clear h hz
  obtain ⟨i0, hi, hz0, hz1, hz2⟩ := info_parts Try.infoBool3
  obtain ⟨Z, l0, hl0, hZ, hmk⟩ := make60 hi hz0 hz1 hz2
  obtain ⟨m, hm⟩ : ∃ m, min n 40 = m := ⟨_, rfl⟩
  have HM := Lib.hid hm; clear hm
  obtain ⟨gb, hgb⟩ : ∃ gb, w.heap.size = gb := ⟨_, rfl⟩
  have k1 : Blk (w.alloc (.cells Z 4)) gb 4 (bools l0) := by rw [← hgb, hZ]; exact Blk.mk (heap_alloc_new w _)
  have HK1 := Lib.hid k1
  have HB1 := Lib.hid (show Below gb w (w.alloc (.cells Z 4)) by rw [← hgb]; exact (Below.refl _ _).alloc (Nat.le_refl _) _)
  have HL0 := Lib.hid hl0
  clear k1 hl0 hZ hi hz0 hz1 hz2
  obtain ⟨tot, htot⟩ : ∃ tot, flagsL zs = tot := ⟨_, rfl⟩
  rw [htot]
  have HTOT := Lib.hid htot; clear htot
  rw [hgb] at hB
  go_enter Try.func10, Try.ntmps10
  go_wp2_with fail
  clear hmk
  generalize w.alloc (.cells Z 4) = w1 at *
  go_loopg [5] m (fun g i wr => ∃ (k : Nat) (bs : List Bool), k + g = m ∧ i = .int .i64 k ∧ bs = (zs.take k).foldl flagAt l0 ∧ bs.length = 60 ∧ Blk wr gb 4 (bools bs) ∧ Below gb w wr)
  case atStart => exact ⟨0, l0, by omega, rfl, rfl, by rw [HL0.out]; simp, HK1.out, HB1.out⟩
  case round =>
    obtain ⟨k, bs, hkg, rfl, hbs, hbl, hblk, hbel⟩ := hrel
    have HK := Lib.hid hblk; have HB := Lib.hid hbel; have HBS := Lib.hid hbs
    have hgl := hblk.lt
    have hmm := HM.out
    clear hbs hblk hbel HK1 HB1
    cases gk with
    | zero =>
      obtain rfl : k = m := by omega
      have HE := Lib.hid (show bs = tot by
        rw [HBS.out, ← HTOT.out, HL0.out]
        unfold flagsL
        rcases Nat.lt_or_ge n 40 with h | h
        · rw [List.take_of_length_le (by rw [HL.out]; omega), List.take_of_length_le (by rw [HL.out]; omega)]
        · rw [show k = 40 by omega])
      have hno : ¬ ((k : Int) < n ∧ (k : Int) < 40) := by omega
      have HS1 := Lib.hid (HK.out.sees (show (bools bs).length = 60 * 1 by rw [bools_length, hbl]) (List.prefix_refl _))
      have hbw := HB.out
      rw [HE.out] at HS1 hbl
      have HBL := Lib.hid hbl
      clear hbl hmm hbw
      by_cases h1 : (k : Int) < n
      · have h2 : ¬ (k : Int) < 40 := fun h => hno ⟨h1, h⟩
        clear hno
        go_wp2_with fail
        refine (spans_any (some ⟨gb, 0, none⟩) 60 60 tot _ wr HS1.out (Nat.le_refl _) (by omega)).mono ?_; rintro e w3 ⟨A3, c3, rfl, hown3, hbel3, hc3, hc4⟩
        have HS3 := Lib.hid (Sees.of_own hown3)
        have HS4 := Lib.hid ((HS1.out.below hbel3).more hbel3.size)
        have HB3 := Lib.hid (show Below w.heap.size w w3 by rw [hgb]; exact HB.out.trans (hbel3.mono (Nat.le_of_lt hgl)))
        clear hown3 hbel3
        go_wp2_with fail
        go_ret2
        exact flagsAns rfl HS4.out HS3.out HB3.out hc3 hc4
      · clear hno
        go_wp2_with fail
        refine (spans_any (some ⟨gb, 0, none⟩) 60 60 tot _ wr HS1.out (Nat.le_refl _) (by omega)).mono ?_; rintro e w3 ⟨A3, c3, rfl, hown3, hbel3, hc3, hc4⟩
        have HS3 := Lib.hid (Sees.of_own hown3)
        have HS4 := Lib.hid ((HS1.out.below hbel3).more hbel3.size)
        have HB3 := Lib.hid (show Below w.heap.size w w3 by rw [hgb]; exact HB.out.trans (hbel3.mono (Nat.le_of_lt hgl)))
        clear hown3 hbel3
        go_wp2_with fail
        go_ret2
        exact flagsAns rfl HS4.out HS3.out HB3.out hc3 hc4
    | succ g =>
      have h1 : (k : Int) < n := by omega
      have h2 : (k : Int) < 40 := by omega
      have h3 : k < n := by omega
      obtain ⟨ad, hkl, rfl, hc⟩ := (H.out.below (HB.out.mono hB)).int h3
      have HI := Lib.hid (HZ.out zs[k] (List.getElem_mem _))
      have HST := Lib.hid (flagFold_step hkl l0)
      generalize zs[k] = z at *
      obtain ⟨hq1, hq2⟩ := nWithin_in z (lo := 0) (hi := 59) (by omega)
      have HSTEP := Lib.hid (show (zs.take (k + 1)).foldl flagAt l0 = bs.set (nWithin z 0 59).toNat true by rw [HST.out, ← HBS.out]; rfl)
      have hfz := fun o => HK.out.frozen o
      clear hmm
      go_wp2_with fail
      refine (within_any z 0 59 _ HI.out (by omega) (by omega) (by omega)).mono ?_; rintro e w' ⟨rfl, rfl⟩
      generalize nWithin z 0 59 = q at *
      obtain ⟨p, rfl⟩ := Int.eq_ofNat_of_zero_le hq1
      have hcell : wr.cell? ⟨gb, p, none⟩ = some (.bool (bs[p]'(by omega))) := by rw [HK.out.cell p, bools_get _ _ (by omega)]
      have HK2 := Lib.hid (HK.out.set p (.bool true))
      have hp59 : p ≤ 59 := by omega
      clear hc
      go_wp2_with fail
      go_roundg g
      case measure => omega
      case rel => exact ⟨k + 1, bs.set p true, by omega, by go_num, by rw [HSTEP.out]; simp, by rw [List.length_set]; exact hbl, by rw [← bools_set]; exact HK2.out, HB.out.setCell (Nat.le_refl _) _⟩
end Go.Proofs.Ytogdollfndpleaa
