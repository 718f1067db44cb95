/- The walk of DefineMore, out of the contracts. -/
import Derived.Test.YtokcmppcmobbmaaDefineTells
import Derived.Test.YtokcmppcmobbmaaAppend
import Derived.RegionTactic
namespace Go.Proofs.Ytokcmppcmobbmaa
open Go.ChangeShapes Go.WideShapes Go.ChangeAt Go.RowKit
set_option linter.unusedVariables false
set_option maxRecDepth 100000
theorem ans_is_yes {P : Prop} {p : Program} {f : FuncId} {args : Array Value} {w : World} (h : P) (hc : Calls p f args w (Answers P w)) : Calls p f args w fun e w' => e = .returned (.bool true) ∧ w = w' := ans_is (by simp [h]) hc
theorem ans_is_no {P : Prop} {p : Program} {f : FuncId} {args : Array Value} {w : World} (h : ¬ P) (hc : Calls p f args w (Answers P w)) : Calls p f args w fun e w' => e = .returned (.bool false) ∧ w = w' := ans_is (by simp [h]) hc
/-- A store into a row of the call's own. -/
theorem own_set {w : World} {base : Nat} {e : TypeId} {A : Option Addr} {n c : Nat} {xs : List Value} (h : w.ownsRow base e 1 (.slice A n c) n xs) {i : Nat} (hi : i < n) (u : Value) :
    ∃ g, A = some ⟨g, 0, none⟩ ∧ base ≤ g ∧ g < w.heap.size ∧ (∀ o, w.frozen? ⟨g, o, none⟩ = false) ∧ w.cell? ⟨g, i, none⟩ = xs[i]? ∧ (w.setCell ⟨g, i, none⟩ u).ownsRow base e 1 (.slice A n c) n (xs.set i u) := by
  rcases h.2 with ⟨_, h2⟩ | ⟨g, cap, cur, hv, hb, hh, hnc, hcm, hs, ht⟩
  · omega
  injection hv with h1 h2 h3
  subst h1; subst h3
  have hk : Blk w g e cur.toList := by unfold Blk; simpa using hh
  refine ⟨g, rfl, hb, hk.lt, fun o => hk.frozen o, ?_, ?_⟩
  · rw [hk.cell i, ← ht, List.getElem?_take_of_lt (by omega)]
  · have := (hk.set i u).owns (base := base) (size := 1) (n := n) (cap := c) hb hnc hcm (by simp; omega)
    rwa [List.take_set, ht] at this
theorem Holds.refl (r : Nat → Int) : Holds r r := ⟨fun _ h => h, fun _ => Iff.rfl, fun _ h => h⟩
theorem Holds.turn {r : Nat → Int} {i : Nat} (h : r i = 0) : Holds r fun x => if x = i then 1 else r x := by
  refine ⟨fun x hx => ?_, fun x => ?_, fun x hx => ?_⟩ <;> by_cases hxi : x = i
  · simp [hxi]
  · simp [hxi, hx]
  · subst hxi; simp [h]
  · simp [hxi]
  · simp [hxi]
  · simp [hxi, hx]
theorem ints_turn {r : Nat → Int} {m i : Nat} (hi : i < m) : (ints ((List.range m).map r)).set i (.int .i64 1) = ints ((List.range m).map fun x => if x = i then 1 else r x) := by
  refine List.ext_getElem? fun x => ?_
  by_cases hx : x < m
  · by_cases hxi : x = i
    · subst hxi; simp [ints, hx]
    · rw [List.getElem?_set_ne (by omega)]; simp [ints, hx, hxi]
  · rw [List.getElem?_eq_none (by simp [ints]; omega), List.getElem?_eq_none (by simp [ints]; omega)]
theorem made_two {w W : World} (h : Below w.heap.size w W) : Blk (((W.alloc (.cells #[Value.int .i64 0, Value.int .i64 0, Value.int .i64 0, Value.int .i64 0, Value.int .i64 0, Value.int .i64 0, Value.int .i64 0, Value.int .i64 0, Value.int .i64 0, Value.int .i64 0, Value.int .i64 0, Value.int .i64 0] 3)).alloc (.cells #[Value.int .i64 0, Value.int .i64 0, Value.int .i64 0, Value.int .i64 0, Value.int .i64 0, Value.int .i64 0, Value.int .i64 0, Value.int .i64 0, Value.int .i64 0, Value.int .i64 0, Value.int .i64 0, Value.int .i64 0] 3)).drew) W.heap.size 3 (ints (List.replicate 12 0)) ∧ Blk (((W.alloc (.cells #[Value.int .i64 0, Value.int .i64 0, Value.int .i64 0, Value.int .i64 0, Value.int .i64 0, Value.int .i64 0, Value.int .i64 0, Value.int .i64 0, Value.int .i64 0, Value.int .i64 0, Value.int .i64 0, Value.int .i64 0] 3)).alloc (.cells #[Value.int .i64 0, Value.int .i64 0, Value.int .i64 0, Value.int .i64 0, Value.int .i64 0, Value.int .i64 0, Value.int .i64 0, Value.int .i64 0, Value.int .i64 0, Value.int .i64 0, Value.int .i64 0, Value.int .i64 0] 3)).drew) (W.heap.size + 1) 3 (ints (List.replicate 12 0)) ∧ Below w.heap.size w (((W.alloc (.cells #[Value.int .i64 0, Value.int .i64 0, Value.int .i64 0, Value.int .i64 0, Value.int .i64 0, Value.int .i64 0, Value.int .i64 0, Value.int .i64 0, Value.int .i64 0, Value.int .i64 0, Value.int .i64 0, Value.int .i64 0] 3)).alloc (.cells #[Value.int .i64 0, Value.int .i64 0, Value.int .i64 0, Value.int .i64 0, Value.int .i64 0, Value.int .i64 0, Value.int .i64 0, Value.int .i64 0, Value.int .i64 0, Value.int .i64 0, Value.int .i64 0, Value.int .i64 0] 3)).drew) := by
  have hs := h.size
  have b1 : Blk (W.alloc (.cells #[Value.int .i64 0, Value.int .i64 0, Value.int .i64 0, Value.int .i64 0, Value.int .i64 0, Value.int .i64 0, Value.int .i64 0, Value.int .i64 0, Value.int .i64 0, Value.int .i64 0, Value.int .i64 0, Value.int .i64 0] 3)) W.heap.size 3 [Value.int .i64 0, Value.int .i64 0, Value.int .i64 0, Value.int .i64 0, Value.int .i64 0, Value.int .i64 0, Value.int .i64 0, Value.int .i64 0, Value.int .i64 0, Value.int .i64 0, Value.int .i64 0, Value.int .i64 0] := Blk.mk (heap_alloc_new W _)
  have b2 : Blk ((W.alloc (.cells #[Value.int .i64 0, Value.int .i64 0, Value.int .i64 0, Value.int .i64 0, Value.int .i64 0, Value.int .i64 0, Value.int .i64 0, Value.int .i64 0, Value.int .i64 0, Value.int .i64 0, Value.int .i64 0, Value.int .i64 0] 3)).alloc (.cells #[Value.int .i64 0, Value.int .i64 0, Value.int .i64 0, Value.int .i64 0, Value.int .i64 0, Value.int .i64 0, Value.int .i64 0, Value.int .i64 0, Value.int .i64 0, Value.int .i64 0, Value.int .i64 0, Value.int .i64 0] 3)) (W.heap.size + 1) 3 [Value.int .i64 0, Value.int .i64 0, Value.int .i64 0, Value.int .i64 0, Value.int .i64 0, Value.int .i64 0, Value.int .i64 0, Value.int .i64 0, Value.int .i64 0, Value.int .i64 0, Value.int .i64 0, Value.int .i64 0] := Blk.mk (by simpa using heap_alloc_new (W.alloc (.cells #[Value.int .i64 0, Value.int .i64 0, Value.int .i64 0, Value.int .i64 0, Value.int .i64 0, Value.int .i64 0, Value.int .i64 0, Value.int .i64 0, Value.int .i64 0, Value.int .i64 0, Value.int .i64 0, Value.int .i64 0] 3)) (.cells #[Value.int .i64 0, Value.int .i64 0, Value.int .i64 0, Value.int .i64 0, Value.int .i64 0, Value.int .i64 0, Value.int .i64 0, Value.int .i64 0, Value.int .i64 0, Value.int .i64 0, Value.int .i64 0, Value.int .i64 0] 3))
  exact ⟨(b1.alloc _).eq, b2.eq, ((h.alloc hs _).alloc (by simp; omega) _).drew⟩
theorem set_one (j : Nat) (h : j < 12) : (ints (List.replicate j 1 ++ List.replicate (12 - j) 0)).set j (.int .i64 1) = ints (List.replicate (j + 1) 1 ++ List.replicate (12 - (j + 1)) 0) := by
  unfold ints
  rw [show 12 - j = (12 - (j + 1)) + 1 by omega, List.replicate_succ (a := 0), List.map_append, List.map_append, List.map_cons]
  rw [List.set_append_right _ _ (by simp)]
  have e : j - (List.map (Value.int .i64) (List.replicate j 1)).length = 0 := by simp
  rw [e, List.set_cons_zero, List.replicate_succ' (a := 1), List.map_append]
  simp
theorem get_nought (j : Nat) (h : j < 12) : ∃ b, (ints (List.replicate j 1 ++ List.replicate (12 - j) 0))[j]? = some (.int .i64 b) := by
  rw [ints_get _ j (by simp; omega)]; exact ⟨_, rfl⟩
set_option maxHeartbeats 4000000 in
theorem define_more (A : Option Addr) (n c : Nat) (s0 f0 k0 at0 m0 : Int) (zs : List Int) (w : World) (hl : Sees w w.heap.size 1 A n (ints zs)) (hz : ∀ z ∈ zs, I64 z) (hn : n ≤ 9223372036854775807) (ws : I64 s0) (wf : I64 f0) (wk : I64 k0) (wa : I64 at0) (wm : I64 m0) :
    Calls Try.prog 7 #[.slice A n c, .int .i64 s0, .int .i64 f0, .int .i64 k0, .int .i64 at0, .int .i64 m0] w fun e w' => e = .returned (.bool true) ∧ Below w.heap.size w w' := by
  obtain ⟨r, hr, hr3⟩ := row_of zs
  have HROW := Lib.hid (row_any A n c zs r w hl hz hn hr); clear hl hz hr hr3
  have hm24 : min n 24 ≤ 24 := Nat.min_le_right _ _
  generalize min n 24 = m at *
  obtain ⟨hs1, hs2⟩ := nWithin_in s0 (lo := 1) (hi := 9) (by omega)
  obtain ⟨hf1, hf2⟩ := nWithin_in f0 (lo := 0) (hi := 40) (by omega)
  obtain ⟨hk1, hk2⟩ := nWithin_in k0 (lo := 0) (hi := 40) (by omega)
  have WS := Lib.hid ws; have WF := Lib.hid wf; have WK := Lib.hid wk; have WA := Lib.hid wa; have WM := Lib.hid wm; clear ws wf wk wa wm
  obtain ⟨i0, hi, hz0, hz1, hz2⟩ := info_parts Try.infoI
  go_enter Try.func7, Try.ntmps7
  go_wp2_with fail
  refine HROW.out.mono ?_; rintro e w1 ⟨A1, c1, rfl, hown, hbel, hc1, hc2⟩
  have HRD := Lib.hid (Reads.of_own hown); have HB := Lib.hid hbel; clear hown hbel HROW
  have hs1' := HB.out.size
  go_wp2_with fail
  refine (within_any s0 1 9 _ WS.out (by omega) (by omega) (by omega)).mono ?_; rintro e w' ⟨rfl, rfl⟩
  go_wp2_with fail
  refine (within_any f0 0 40 _ WF.out (by omega) (by omega) (by omega)).mono ?_; rintro e w' ⟨rfl, rfl⟩
  go_wp2_with fail
  refine (within_any k0 0 40 _ WK.out (by omega) (by omega) (by omega)).mono ?_; rintro e w' ⟨rfl, rfl⟩
  generalize nWithin s0 1 9 = s at *
  generalize nWithin f0 0 40 = f at *
  generalize nWithin k0 0 40 = q at *
  clear WS WF WK
  by_cases hm0 : m = 0
  · subst hm0
    go_wp2_with fail
    refine (define_runs _).mono ?_; rintro e w4 ⟨rfl, hbel⟩
    have HB4 := Lib.hid (HB.out.trans (hbel.mono (by omega))); clear hbel
    go_wp2_with fail
    go_ret
    exact ⟨rfl, HB4.out⟩
  have hmb : ((m : Int) == 0) = false := by simp; omega
  have hmp : 0 < m := by omega
  clear hm0
  obtain ⟨ha1, ha2⟩ := nWithin_in at0 (lo := 0) (hi := (m : Int) - 1) (by omega)
  go_wp2_with fail
  refine (within_any at0 0 ((m : Int) - 1) _ WA.out (by omega) (by omega) (by omega)).mono ?_; rintro e w' ⟨rfl, rfl⟩
  generalize nWithin at0 0 ((m : Int) - 1) = i at *
  obtain ⟨i, rfl⟩ := Int.eq_ofNat_of_zero_le ha1
  have him : i < m := by omega
  clear WA ha1 ha2
  have hown0 : (w1.alloc (.cells #[] 3)).ownsRow w1.heap.size 3 1 (.slice (some ⟨w1.heap.size, 0, none⟩) 0 0) 0 [] := World.ownsRow_made w1 #[] 0 (Nat.le_refl _) (by unfold maxLen; omega) rfl
  have HO0 := Lib.hid hown0; clear hown0
  go_wp2_with (at_builtin; refine wpList_append_sees rfl (.tmp 43) (.tmp 44) 24 rfl w1.heap.size 3 i0 (.int .i64 0) 1 8 Try.underlying24 hi hz0 hz1 hz2 rfl (by decide) _ 0 [] rfl HO0.out w1.heap.size A1 m _ (ints ((List.range m).map r)) rfl (Sees.alloc HRD.out (Nat.le_refl _) _) (ints_one _) (by unfold maxLen; omega) (by omega) (by simp) ?_)
  intro v' w2 hown2 hgr
  have hb2 := ((Below.refl w1.heap.size w1).alloc (Nat.le_refl _) _).grown hgr (by simp) (by simp [Value.ownBlock])
  try simp only [Nat.zero_add, List.nil_append] at hown2
  obtain ⟨A2, c2, rfl, hc3, hc4⟩ := own_slice hown2
  obtain ⟨g, rfl, hg1, hg2, hfz, hcell, hset⟩ := own_set hown2 him (.int .i64 1)
  have hri : (ints ((List.range m).map r))[i]? = some (.int .i64 (r i)) := by simp [ints, him]
  rw [hri] at hcell
  rw [ints_turn him] at hset
  have hs2'' := hb2.size
  have HO2 := Lib.hid hown2; have HSET := Lib.hid hset; have HB2 := Lib.hid hb2
  clear hown2 hset hb2 hri hgr HO0
  obtain ⟨hd1, hd2⟩ := nWithin_in m0 (lo := 0) (hi := 20) (by omega)
  by_cases hr0 : r i = 0
  · rw [hr0] at hcell
    have HH := Lib.hid (Holds.turn hr0); clear hr0
    go_wp2_with fail
    refine (within_any m0 0 20 _ WM.out (by omega) (by omega) (by omega)).mono ?_; rintro e w' ⟨rfl, rfl⟩
    have HB3 := Lib.hid (HB2.out.setCell (p := ⟨g, i, none⟩) hg1 (.int .i64 1))
    clear hcell hfz hg2 HB2 HO2
    generalize w2.setCell ⟨g, i, none⟩ (.int .i64 1) = W at *
    generalize (fun x => if x = i then 1 else r x) = r' at *
    generalize nWithin m0 0 20 = d at *
    clear WM
    have HRT := Lib.hid (Reads.of_own HSET.out)
    have HRO := Lib.hid (HRD.out.below HB3.out)
    have HBW := Lib.hid (HB.out.trans (HB3.out.mono hs1'))
    clear HSET HB3 HRD
    go_wp2_with fail
    go_loop [58] (fun i => ∃ j : Nat, j ≤ m ∧ i = .int .i64 j) (fun i => m - (intOf i).toNat)
    case atStart => exact ⟨0, Nat.zero_le _, rfl⟩
    case round =>
      obtain ⟨j, hj, rfl⟩ := hrel
      by_cases hlt : j < m
      · obtain ⟨a, ha⟩ := bool_of (Fires r s f q (j + 1))
        have HA := Lib.hid ha; clear ha
        cases a
        · have hy : (false = true) ↔ Fires r s (f + d) q (j + 1) := ⟨(fun h => by cases h), fun h => HA.out.2 (h.wait hd1)⟩
          have HY := Lib.hid (show ¬ Fires r s (f + d) q (j + 1) from fun h => by have := hy.2 h; cases this)
          have HN := Lib.hid (show ¬ Fires r s f q (j + 1) from fun h => by have := HA.out.2 h; cases this)
          clear hy HA
          go_wp2_with fail
          refine (ans_is_no HN.out (dfires_any A1 m c1 s f q r _ _ HRO.out (by omega) (by omega) (by omega) (by omega) (by omega) (by unfold I64; omega) (by unfold I64; omega) j hlt)).mono ?_; rintro e w' ⟨rfl, rfl⟩
          go_wp2_with fail
          refine (ans_is_no HY.out (dfires_any A1 m c1 s (f + d) q r _ _ HRO.out (by omega) (by omega) (by omega) (by omega) (by omega) (by unfold I64; omega) (by unfold I64; omega) j hlt)).mono ?_; rintro e w' ⟨rfl, rfl⟩
          go_wp2_with fail
          go_round
          case rel => exact ⟨j + 1, by omega, by go_num⟩
          case measure => simp [intOf]; omega
        · have hF := HA.out.1 rfl
          have hb : (true = true) ↔ Fires r' s f q (j + 1) := ⟨fun _ => HH.out.fires hF, fun _ => rfl⟩
          have hx : (true = true) ↔ Fires r s f (q + d) (j + 1) := ⟨fun _ => hF.keep hd1, fun _ => rfl⟩
          have HX := Lib.hid (hx.1 rfl); have HBB := Lib.hid (hb.1 rfl); have HF := Lib.hid hF; clear hx hb hF HA
          go_wp2_with fail
          refine (ans_is_yes HF.out (dfires_any A1 m c1 s f q r _ _ HRO.out (by omega) (by omega) (by omega) (by omega) (by omega) (by unfold I64; omega) (by unfold I64; omega) j hlt)).mono ?_; rintro e w' ⟨rfl, rfl⟩
          go_wp2_with fail
          refine (ans_is_yes HBB.out (dfires_any _ m c2 s f q r' _ _ HRT.out (by omega) (by omega) (by omega) (by omega) (by omega) (by unfold I64; omega) (by unfold I64; omega) j hlt)).mono ?_; rintro e w' ⟨rfl, rfl⟩
          go_wp2_with fail
          refine (ans_is_yes HX.out (dfires_any A1 m c1 s f (q + d) r _ _ HRO.out (by omega) (by omega) (by omega) (by omega) (by omega) (by unfold I64; omega) (by unfold I64; omega) j hlt)).mono ?_; rintro e w' ⟨rfl, rfl⟩
          go_wp2_with fail
          go_round
          case rel => exact ⟨j + 1, by omega, by go_num⟩
          case measure => simp [intOf]; omega
      · obtain rfl : j = m := by omega
        clear HRO HRT HH
        have hmk : ∀ w, (Instr.makeSlice 22 (.int .i64 12) (.int .i64 12)).run Try.prog w = Result.ok (.slice (some ⟨w.heap.size, 0, none⟩) 12 12) (w.alloc (.cells #[Value.int .i64 0, Value.int .i64 0, Value.int .i64 0, Value.int .i64 0, Value.int .i64 0, Value.int .i64 0, Value.int .i64 0, Value.int .i64 0, Value.int .i64 0, Value.int .i64 0, Value.int .i64 0, Value.int .i64 0] 3)) := fun _ => by kernel_rfl
        have hW := HBW.out.size
        have hbb : Blk (((W.alloc (.cells #[Value.int .i64 0, Value.int .i64 0, Value.int .i64 0, Value.int .i64 0, Value.int .i64 0, Value.int .i64 0, Value.int .i64 0, Value.int .i64 0, Value.int .i64 0, Value.int .i64 0, Value.int .i64 0, Value.int .i64 0] 3)).alloc (.cells #[Value.int .i64 0, Value.int .i64 0, Value.int .i64 0, Value.int .i64 0, Value.int .i64 0, Value.int .i64 0, Value.int .i64 0, Value.int .i64 0, Value.int .i64 0, Value.int .i64 0, Value.int .i64 0, Value.int .i64 0] 3)).drew) W.heap.size 3 (ints (List.replicate 12 0)) ∧ Blk (((W.alloc (.cells #[Value.int .i64 0, Value.int .i64 0, Value.int .i64 0, Value.int .i64 0, Value.int .i64 0, Value.int .i64 0, Value.int .i64 0, Value.int .i64 0, Value.int .i64 0, Value.int .i64 0, Value.int .i64 0, Value.int .i64 0] 3)).alloc (.cells #[Value.int .i64 0, Value.int .i64 0, Value.int .i64 0, Value.int .i64 0, Value.int .i64 0, Value.int .i64 0, Value.int .i64 0, Value.int .i64 0, Value.int .i64 0, Value.int .i64 0, Value.int .i64 0, Value.int .i64 0] 3)).drew) (W.heap.size + 1) 3 (ints (List.replicate 12 0)) ∧ Below w.heap.size w (((W.alloc (.cells #[Value.int .i64 0, Value.int .i64 0, Value.int .i64 0, Value.int .i64 0, Value.int .i64 0, Value.int .i64 0, Value.int .i64 0, Value.int .i64 0, Value.int .i64 0, Value.int .i64 0, Value.int .i64 0, Value.int .i64 0] 3)).alloc (.cells #[Value.int .i64 0, Value.int .i64 0, Value.int .i64 0, Value.int .i64 0, Value.int .i64 0, Value.int .i64 0, Value.int .i64 0, Value.int .i64 0, Value.int .i64 0, Value.int .i64 0, Value.int .i64 0, Value.int .i64 0] 3)).drew) := made_two HBW.out
        have HBB := Lib.hid hbb; clear hbb HBW
        go_wp2_with fail
        go_region
        clear hmk
        · generalize ((W.alloc (.cells #[Value.int .i64 0, Value.int .i64 0, Value.int .i64 0, Value.int .i64 0, Value.int .i64 0, Value.int .i64 0, Value.int .i64 0, Value.int .i64 0, Value.int .i64 0, Value.int .i64 0, Value.int .i64 0, Value.int .i64 0] 3)).alloc (.cells #[Value.int .i64 0, Value.int .i64 0, Value.int .i64 0, Value.int .i64 0, Value.int .i64 0, Value.int .i64 0, Value.int .i64 0, Value.int .i64 0, Value.int .i64 0, Value.int .i64 0, Value.int .i64 0, Value.int .i64 0] 3)).drew = W2 at *
          generalize hga : W.heap.size + 1 = gn at *
          generalize hgb : W.heap.size = go at *
          have hne : go ≠ gn := by omega
          have hgw : w.heap.size ≤ gn := by omega
          clear hga hgb
          go_wp2_with fail
          go_loopw [107] (fun i wr => ∃ j : Nat, j ≤ 12 ∧ i = .int .i64 j ∧ Blk wr gn 3 (ints (List.replicate j 1 ++ List.replicate (12 - j) 0)) ∧ Blk wr go 3 (ints (List.replicate 12 0)) ∧ Below w.heap.size w wr) (fun i _ => 12 - (intOf i).toNat)
          case atStart => exact ⟨0, by omega, rfl, HBB.out.2.1, HBB.out.1, HBB.out.2.2⟩
          case round =>
            obtain ⟨u, hu12, rfl, hbn, hbo, hbel⟩ := hrel
            have HBN := Lib.hid hbn; have HBO := Lib.hid hbo; have HBL := Lib.hid hbel; clear hbn hbo hbel
            by_cases hlt2 : u < 12
            · obtain ⟨b0, hb0⟩ := get_nought u hlt2
              have hc : wr.cell? ⟨gn, u, none⟩ = some (.int .i64 b0) := by rw [HBN.out.cell]; exact hb0
              have hf : wr.frozen? ⟨gn, u, none⟩ = false := HBN.out.frozen _
              have HS := Lib.hid (set_one u hlt2)
              clear hb0
              go_wp2_with fail
              go_roundw
              case rel => exact ⟨u + 1, by omega, by go_num, HS.out ▸ HBN.out.set _ _, HBO.out.far (by exact hne) _, HBL.out.setCell hgw _⟩
              case measure => simp [intOf]; omega
            · have hu : u = 12 := by omega
              have hon : Reads wr wr.heap.size (some ⟨gn, 0, none⟩) 12 (fun _ => 1) := by
                subst hu
                exact HBN.out.sees (size := 1) (n := 12) rfl (List.prefix_refl _)
              have hoff : Reads wr wr.heap.size (some ⟨go, 0, none⟩) 12 (fun _ => 0) := HBO.out.sees (size := 1) (n := 12) rfl (List.prefix_refl _)
              have HU := Lib.hid hu; have HON := Lib.hid hon; have HOFF := Lib.hid hoff; clear hon hoff hu HBN HBO HBB
              go_wp2_with fail
              go_loop [116] (fun i => ∃ j : Nat, j ≤ 12 ∧ i = .int .i64 j) (fun i => 12 - (intOf i).toNat)
              case atStart => exact ⟨0, by omega, rfl⟩
              case round =>
                obtain ⟨t, ht12, rfl⟩ := hrel
                by_cases hlt3 : t < 12
                · obtain ⟨hp1, hp2⟩ : 0 ≤ (t : Int) * s ∧ (t : Int) * s ≤ 12 * 9 := ⟨Int.mul_nonneg (by omega) (by omega), Int.mul_le_mul (by omega) (by omega) (by omega) (by omega)⟩
                  have HFO := Lib.hid (fires_on (f := f) (k := q) (t := t) hs1 hk1)
                  by_cases hc : f ≤ (t : Int) * s
                  · have HFY := Lib.hid (HFO.out.2 hc); clear HFO
                    go_wp2_with fail
                    refine (ans_is_no (fires_off (t := 0)) (dfires_any _ 12 _ s f q (fun _ => 0) _ _ HOFF.out (by omega) (by omega) (by omega) (by omega) (by omega) (by unfold I64; omega) (by unfold I64; omega) t hlt3)).mono ?_; rintro e w' ⟨rfl, rfl⟩
                    go_wp2_with fail
                    refine (stateAns_is state_off (dstate_any _ 12 _ s f q (fun _ => 0) _ _ HOFF.out (by omega) (by omega) (by omega) (by omega) (by omega) (by unfold I64; omega) (by unfold I64; omega) t hlt3)).mono ?_; rintro e w' ⟨rfl, rfl⟩
                    go_wp2_with fail
                    refine (ans_is_yes HFY.out (dfires_any _ 12 _ s f q (fun _ => 1) _ _ HON.out (by omega) (by omega) (by omega) (by omega) (by omega) (by unfold I64; omega) (by unfold I64; omega) t hlt3)).mono ?_; rintro e w' ⟨rfl, rfl⟩
                    go_wp2_with fail
                    go_round
                    case rel => exact ⟨t + 1, by omega, by go_num⟩
                    case measure => simp [intOf]; omega
                  · have HFY := Lib.hid (fun h => hc (HFO.out.1 h)); clear HFO
                    go_wp2_with fail
                    refine (ans_is_no (fires_off (t := 0)) (dfires_any _ 12 _ s f q (fun _ => 0) _ _ HOFF.out (by omega) (by omega) (by omega) (by omega) (by omega) (by unfold I64; omega) (by unfold I64; omega) t hlt3)).mono ?_; rintro e w' ⟨rfl, rfl⟩
                    go_wp2_with fail
                    refine (stateAns_is state_off (dstate_any _ 12 _ s f q (fun _ => 0) _ _ HOFF.out (by omega) (by omega) (by omega) (by omega) (by omega) (by unfold I64; omega) (by unfold I64; omega) t hlt3)).mono ?_; rintro e w' ⟨rfl, rfl⟩
                    go_wp2_with fail
                    refine (ans_is_no HFY.out (dfires_any _ 12 _ s f q (fun _ => 1) _ _ HON.out (by omega) (by omega) (by omega) (by omega) (by omega) (by unfold I64; omega) (by unfold I64; omega) t hlt3)).mono ?_; rintro e w' ⟨rfl, rfl⟩
                    go_wp2_with fail
                    go_round
                    case rel => exact ⟨t + 1, by omega, by go_num⟩
                    case measure => simp [intOf]; omega
                · go_wp2_with fail
                  refine (define_runs _).mono ?_; rintro e w7 ⟨rfl, hbel⟩
                  have HB7 := Lib.hid (HBL.out.trans (hbel.mono (by have := HBL.out.size; omega))); clear hbel
                  go_wp2_with fail
                  go_ret
                  exact ⟨rfl, HB7.out⟩
        · generalize ((W.alloc (.cells #[Value.int .i64 0, Value.int .i64 0, Value.int .i64 0, Value.int .i64 0, Value.int .i64 0, Value.int .i64 0, Value.int .i64 0, Value.int .i64 0, Value.int .i64 0, Value.int .i64 0, Value.int .i64 0, Value.int .i64 0] 3)).alloc (.cells #[Value.int .i64 0, Value.int .i64 0, Value.int .i64 0, Value.int .i64 0, Value.int .i64 0, Value.int .i64 0, Value.int .i64 0, Value.int .i64 0, Value.int .i64 0, Value.int .i64 0, Value.int .i64 0, Value.int .i64 0] 3)).drew = W2 at *
          generalize hga : W.heap.size + 1 = go at *
          generalize hgb : W.heap.size = gn at *
          have hne : go ≠ gn := by omega
          have hgw : w.heap.size ≤ gn := by omega
          clear hga hgb
          go_wp2_with fail
          go_loopw [107] (fun i wr => ∃ j : Nat, j ≤ 12 ∧ i = .int .i64 j ∧ Blk wr gn 3 (ints (List.replicate j 1 ++ List.replicate (12 - j) 0)) ∧ Blk wr go 3 (ints (List.replicate 12 0)) ∧ Below w.heap.size w wr) (fun i _ => 12 - (intOf i).toNat)
          case atStart => exact ⟨0, by omega, rfl, HBB.out.1, HBB.out.2.1, HBB.out.2.2⟩
          case round =>
            obtain ⟨u, hu12, rfl, hbn, hbo, hbel⟩ := hrel
            have HBN := Lib.hid hbn; have HBO := Lib.hid hbo; have HBL := Lib.hid hbel; clear hbn hbo hbel
            by_cases hlt2 : u < 12
            · obtain ⟨b0, hb0⟩ := get_nought u hlt2
              have hc : wr.cell? ⟨gn, u, none⟩ = some (.int .i64 b0) := by rw [HBN.out.cell]; exact hb0
              have hf : wr.frozen? ⟨gn, u, none⟩ = false := HBN.out.frozen _
              have HS := Lib.hid (set_one u hlt2)
              clear hb0
              go_wp2_with fail
              go_roundw
              case rel => exact ⟨u + 1, by omega, by go_num, HS.out ▸ HBN.out.set _ _, HBO.out.far (by exact hne) _, HBL.out.setCell hgw _⟩
              case measure => simp [intOf]; omega
            · have hu : u = 12 := by omega
              have hon : Reads wr wr.heap.size (some ⟨gn, 0, none⟩) 12 (fun _ => 1) := by
                subst hu
                exact HBN.out.sees (size := 1) (n := 12) rfl (List.prefix_refl _)
              have hoff : Reads wr wr.heap.size (some ⟨go, 0, none⟩) 12 (fun _ => 0) := HBO.out.sees (size := 1) (n := 12) rfl (List.prefix_refl _)
              have HU := Lib.hid hu; have HON := Lib.hid hon; have HOFF := Lib.hid hoff; clear hon hoff hu HBN HBO HBB
              go_wp2_with fail
              go_loop [116] (fun i => ∃ j : Nat, j ≤ 12 ∧ i = .int .i64 j) (fun i => 12 - (intOf i).toNat)
              case atStart => exact ⟨0, by omega, rfl⟩
              case round =>
                obtain ⟨t, ht12, rfl⟩ := hrel
                by_cases hlt3 : t < 12
                · obtain ⟨hp1, hp2⟩ : 0 ≤ (t : Int) * s ∧ (t : Int) * s ≤ 12 * 9 := ⟨Int.mul_nonneg (by omega) (by omega), Int.mul_le_mul (by omega) (by omega) (by omega) (by omega)⟩
                  have HFO := Lib.hid (fires_on (f := f) (k := q) (t := t) hs1 hk1)
                  by_cases hc : f ≤ (t : Int) * s
                  · have HFY := Lib.hid (HFO.out.2 hc); clear HFO
                    go_wp2_with fail
                    refine (ans_is_no (fires_off (t := 0)) (dfires_any _ 12 _ s f q (fun _ => 0) _ _ HOFF.out (by omega) (by omega) (by omega) (by omega) (by omega) (by unfold I64; omega) (by unfold I64; omega) t hlt3)).mono ?_; rintro e w' ⟨rfl, rfl⟩
                    go_wp2_with fail
                    refine (stateAns_is state_off (dstate_any _ 12 _ s f q (fun _ => 0) _ _ HOFF.out (by omega) (by omega) (by omega) (by omega) (by omega) (by unfold I64; omega) (by unfold I64; omega) t hlt3)).mono ?_; rintro e w' ⟨rfl, rfl⟩
                    go_wp2_with fail
                    refine (ans_is_yes HFY.out (dfires_any _ 12 _ s f q (fun _ => 1) _ _ HON.out (by omega) (by omega) (by omega) (by omega) (by omega) (by unfold I64; omega) (by unfold I64; omega) t hlt3)).mono ?_; rintro e w' ⟨rfl, rfl⟩
                    go_wp2_with fail
                    go_round
                    case rel => exact ⟨t + 1, by omega, by go_num⟩
                    case measure => simp [intOf]; omega
                  · have HFY := Lib.hid (fun h => hc (HFO.out.1 h)); clear HFO
                    go_wp2_with fail
                    refine (ans_is_no (fires_off (t := 0)) (dfires_any _ 12 _ s f q (fun _ => 0) _ _ HOFF.out (by omega) (by omega) (by omega) (by omega) (by omega) (by unfold I64; omega) (by unfold I64; omega) t hlt3)).mono ?_; rintro e w' ⟨rfl, rfl⟩
                    go_wp2_with fail
                    refine (stateAns_is state_off (dstate_any _ 12 _ s f q (fun _ => 0) _ _ HOFF.out (by omega) (by omega) (by omega) (by omega) (by omega) (by unfold I64; omega) (by unfold I64; omega) t hlt3)).mono ?_; rintro e w' ⟨rfl, rfl⟩
                    go_wp2_with fail
                    refine (ans_is_no HFY.out (dfires_any _ 12 _ s f q (fun _ => 1) _ _ HON.out (by omega) (by omega) (by omega) (by omega) (by omega) (by unfold I64; omega) (by unfold I64; omega) t hlt3)).mono ?_; rintro e w' ⟨rfl, rfl⟩
                    go_wp2_with fail
                    go_round
                    case rel => exact ⟨t + 1, by omega, by go_num⟩
                    case measure => simp [intOf]; omega
                · go_wp2_with fail
                  refine (define_runs _).mono ?_; rintro e w7 ⟨rfl, hbel⟩
                  have HB7 := Lib.hid (HBL.out.trans (hbel.mono (by have := HBL.out.size; omega))); clear hbel
                  go_wp2_with fail
                  go_ret
                  exact ⟨rfl, HB7.out⟩
  · have hr0b : (r i == 0) = false := by simpa using hr0
    have HH := Lib.hid (Holds.refl r)
    clear hr0
    go_wp2_with fail
    refine (within_any m0 0 20 _ WM.out (by omega) (by omega) (by omega)).mono ?_; rintro e w' ⟨rfl, rfl⟩
    have HB3 := HB2
    have HSET := HO2
    clear hcell hfz hg2 HB2 HO2 hr0b
    obtain ⟨W, rfl⟩ : ∃ W, W = w2 := ⟨_, rfl⟩
    obtain ⟨r', hr'⟩ : ∃ r', r' = r := ⟨_, rfl⟩
    rw [← hr'] at HSET
    have HH : Hid (Holds r r') := hr' ▸ HH
    clear hr'
    generalize nWithin m0 0 20 = d at *
    clear WM
    have HRT := Lib.hid (Reads.of_own HSET.out)
    have HRO := Lib.hid (HRD.out.below HB3.out)
    have HBW := Lib.hid (HB.out.trans (HB3.out.mono hs1'))
    clear HSET HB3 HRD
    go_wp2_with fail
    go_loop [58] (fun i => ∃ j : Nat, j ≤ m ∧ i = .int .i64 j) (fun i => m - (intOf i).toNat)
    case atStart => exact ⟨0, Nat.zero_le _, rfl⟩
    case round =>
      obtain ⟨j, hj, rfl⟩ := hrel
      by_cases hlt : j < m
      · obtain ⟨a, ha⟩ := bool_of (Fires r s f q (j + 1))
        have HA := Lib.hid ha; clear ha
        cases a
        · have hy : (false = true) ↔ Fires r s (f + d) q (j + 1) := ⟨(fun h => by cases h), fun h => HA.out.2 (h.wait hd1)⟩
          have HY := Lib.hid (show ¬ Fires r s (f + d) q (j + 1) from fun h => by have := hy.2 h; cases this)
          have HN := Lib.hid (show ¬ Fires r s f q (j + 1) from fun h => by have := HA.out.2 h; cases this)
          clear hy HA
          go_wp2_with fail
          refine (ans_is_no HN.out (dfires_any A1 m c1 s f q r _ _ HRO.out (by omega) (by omega) (by omega) (by omega) (by omega) (by unfold I64; omega) (by unfold I64; omega) j hlt)).mono ?_; rintro e w' ⟨rfl, rfl⟩
          go_wp2_with fail
          refine (ans_is_no HY.out (dfires_any A1 m c1 s (f + d) q r _ _ HRO.out (by omega) (by omega) (by omega) (by omega) (by omega) (by unfold I64; omega) (by unfold I64; omega) j hlt)).mono ?_; rintro e w' ⟨rfl, rfl⟩
          go_wp2_with fail
          go_round
          case rel => exact ⟨j + 1, by omega, by go_num⟩
          case measure => simp [intOf]; omega
        · have hF := HA.out.1 rfl
          have hb : (true = true) ↔ Fires r' s f q (j + 1) := ⟨fun _ => HH.out.fires hF, fun _ => rfl⟩
          have hx : (true = true) ↔ Fires r s f (q + d) (j + 1) := ⟨fun _ => hF.keep hd1, fun _ => rfl⟩
          have HX := Lib.hid (hx.1 rfl); have HBB := Lib.hid (hb.1 rfl); have HF := Lib.hid hF; clear hx hb hF HA
          go_wp2_with fail
          refine (ans_is_yes HF.out (dfires_any A1 m c1 s f q r _ _ HRO.out (by omega) (by omega) (by omega) (by omega) (by omega) (by unfold I64; omega) (by unfold I64; omega) j hlt)).mono ?_; rintro e w' ⟨rfl, rfl⟩
          go_wp2_with fail
          refine (ans_is_yes HBB.out (dfires_any _ m c2 s f q r' _ _ HRT.out (by omega) (by omega) (by omega) (by omega) (by omega) (by unfold I64; omega) (by unfold I64; omega) j hlt)).mono ?_; rintro e w' ⟨rfl, rfl⟩
          go_wp2_with fail
          refine (ans_is_yes HX.out (dfires_any A1 m c1 s f (q + d) r _ _ HRO.out (by omega) (by omega) (by omega) (by omega) (by omega) (by unfold I64; omega) (by unfold I64; omega) j hlt)).mono ?_; rintro e w' ⟨rfl, rfl⟩
          go_wp2_with fail
          go_round
          case rel => exact ⟨j + 1, by omega, by go_num⟩
          case measure => simp [intOf]; omega
      · obtain rfl : j = m := by omega
        clear HRO HRT HH
        have hmk : ∀ w, (Instr.makeSlice 22 (.int .i64 12) (.int .i64 12)).run Try.prog w = Result.ok (.slice (some ⟨w.heap.size, 0, none⟩) 12 12) (w.alloc (.cells #[Value.int .i64 0, Value.int .i64 0, Value.int .i64 0, Value.int .i64 0, Value.int .i64 0, Value.int .i64 0, Value.int .i64 0, Value.int .i64 0, Value.int .i64 0, Value.int .i64 0, Value.int .i64 0, Value.int .i64 0] 3)) := fun _ => by kernel_rfl
        have hW := HBW.out.size
        have hbb : Blk (((W.alloc (.cells #[Value.int .i64 0, Value.int .i64 0, Value.int .i64 0, Value.int .i64 0, Value.int .i64 0, Value.int .i64 0, Value.int .i64 0, Value.int .i64 0, Value.int .i64 0, Value.int .i64 0, Value.int .i64 0, Value.int .i64 0] 3)).alloc (.cells #[Value.int .i64 0, Value.int .i64 0, Value.int .i64 0, Value.int .i64 0, Value.int .i64 0, Value.int .i64 0, Value.int .i64 0, Value.int .i64 0, Value.int .i64 0, Value.int .i64 0, Value.int .i64 0, Value.int .i64 0] 3)).drew) W.heap.size 3 (ints (List.replicate 12 0)) ∧ Blk (((W.alloc (.cells #[Value.int .i64 0, Value.int .i64 0, Value.int .i64 0, Value.int .i64 0, Value.int .i64 0, Value.int .i64 0, Value.int .i64 0, Value.int .i64 0, Value.int .i64 0, Value.int .i64 0, Value.int .i64 0, Value.int .i64 0] 3)).alloc (.cells #[Value.int .i64 0, Value.int .i64 0, Value.int .i64 0, Value.int .i64 0, Value.int .i64 0, Value.int .i64 0, Value.int .i64 0, Value.int .i64 0, Value.int .i64 0, Value.int .i64 0, Value.int .i64 0, Value.int .i64 0] 3)).drew) (W.heap.size + 1) 3 (ints (List.replicate 12 0)) ∧ Below w.heap.size w (((W.alloc (.cells #[Value.int .i64 0, Value.int .i64 0, Value.int .i64 0, Value.int .i64 0, Value.int .i64 0, Value.int .i64 0, Value.int .i64 0, Value.int .i64 0, Value.int .i64 0, Value.int .i64 0, Value.int .i64 0, Value.int .i64 0] 3)).alloc (.cells #[Value.int .i64 0, Value.int .i64 0, Value.int .i64 0, Value.int .i64 0, Value.int .i64 0, Value.int .i64 0, Value.int .i64 0, Value.int .i64 0, Value.int .i64 0, Value.int .i64 0, Value.int .i64 0, Value.int .i64 0] 3)).drew) := made_two HBW.out
        have HBB := Lib.hid hbb; clear hbb HBW
        go_wp2_with fail
        go_region
        clear hmk
        · generalize ((W.alloc (.cells #[Value.int .i64 0, Value.int .i64 0, Value.int .i64 0, Value.int .i64 0, Value.int .i64 0, Value.int .i64 0, Value.int .i64 0, Value.int .i64 0, Value.int .i64 0, Value.int .i64 0, Value.int .i64 0, Value.int .i64 0] 3)).alloc (.cells #[Value.int .i64 0, Value.int .i64 0, Value.int .i64 0, Value.int .i64 0, Value.int .i64 0, Value.int .i64 0, Value.int .i64 0, Value.int .i64 0, Value.int .i64 0, Value.int .i64 0, Value.int .i64 0, Value.int .i64 0] 3)).drew = W2 at *
          generalize hga : W.heap.size + 1 = gn at *
          generalize hgb : W.heap.size = go at *
          have hne : go ≠ gn := by omega
          have hgw : w.heap.size ≤ gn := by omega
          clear hga hgb
          go_wp2_with fail
          go_loopw [107] (fun i wr => ∃ j : Nat, j ≤ 12 ∧ i = .int .i64 j ∧ Blk wr gn 3 (ints (List.replicate j 1 ++ List.replicate (12 - j) 0)) ∧ Blk wr go 3 (ints (List.replicate 12 0)) ∧ Below w.heap.size w wr) (fun i _ => 12 - (intOf i).toNat)
          case atStart => exact ⟨0, by omega, rfl, HBB.out.2.1, HBB.out.1, HBB.out.2.2⟩
          case round =>
            obtain ⟨u, hu12, rfl, hbn, hbo, hbel⟩ := hrel
            have HBN := Lib.hid hbn; have HBO := Lib.hid hbo; have HBL := Lib.hid hbel; clear hbn hbo hbel
            by_cases hlt2 : u < 12
            · obtain ⟨b0, hb0⟩ := get_nought u hlt2
              have hc : wr.cell? ⟨gn, u, none⟩ = some (.int .i64 b0) := by rw [HBN.out.cell]; exact hb0
              have hf : wr.frozen? ⟨gn, u, none⟩ = false := HBN.out.frozen _
              have HS := Lib.hid (set_one u hlt2)
              clear hb0
              go_wp2_with fail
              go_roundw
              case rel => exact ⟨u + 1, by omega, by go_num, HS.out ▸ HBN.out.set _ _, HBO.out.far (by exact hne) _, HBL.out.setCell hgw _⟩
              case measure => simp [intOf]; omega
            · have hu : u = 12 := by omega
              have hon : Reads wr wr.heap.size (some ⟨gn, 0, none⟩) 12 (fun _ => 1) := by
                subst hu
                exact HBN.out.sees (size := 1) (n := 12) rfl (List.prefix_refl _)
              have hoff : Reads wr wr.heap.size (some ⟨go, 0, none⟩) 12 (fun _ => 0) := HBO.out.sees (size := 1) (n := 12) rfl (List.prefix_refl _)
              have HU := Lib.hid hu; have HON := Lib.hid hon; have HOFF := Lib.hid hoff; clear hon hoff hu HBN HBO HBB
              go_wp2_with fail
              go_loop [116] (fun i => ∃ j : Nat, j ≤ 12 ∧ i = .int .i64 j) (fun i => 12 - (intOf i).toNat)
              case atStart => exact ⟨0, by omega, rfl⟩
              case round =>
                obtain ⟨t, ht12, rfl⟩ := hrel
                by_cases hlt3 : t < 12
                · obtain ⟨hp1, hp2⟩ : 0 ≤ (t : Int) * s ∧ (t : Int) * s ≤ 12 * 9 := ⟨Int.mul_nonneg (by omega) (by omega), Int.mul_le_mul (by omega) (by omega) (by omega) (by omega)⟩
                  have HFO := Lib.hid (fires_on (f := f) (k := q) (t := t) hs1 hk1)
                  by_cases hc : f ≤ (t : Int) * s
                  · have HFY := Lib.hid (HFO.out.2 hc); clear HFO
                    go_wp2_with fail
                    refine (ans_is_no (fires_off (t := 0)) (dfires_any _ 12 _ s f q (fun _ => 0) _ _ HOFF.out (by omega) (by omega) (by omega) (by omega) (by omega) (by unfold I64; omega) (by unfold I64; omega) t hlt3)).mono ?_; rintro e w' ⟨rfl, rfl⟩
                    go_wp2_with fail
                    refine (stateAns_is state_off (dstate_any _ 12 _ s f q (fun _ => 0) _ _ HOFF.out (by omega) (by omega) (by omega) (by omega) (by omega) (by unfold I64; omega) (by unfold I64; omega) t hlt3)).mono ?_; rintro e w' ⟨rfl, rfl⟩
                    go_wp2_with fail
                    refine (ans_is_yes HFY.out (dfires_any _ 12 _ s f q (fun _ => 1) _ _ HON.out (by omega) (by omega) (by omega) (by omega) (by omega) (by unfold I64; omega) (by unfold I64; omega) t hlt3)).mono ?_; rintro e w' ⟨rfl, rfl⟩
                    go_wp2_with fail
                    go_round
                    case rel => exact ⟨t + 1, by omega, by go_num⟩
                    case measure => simp [intOf]; omega
                  · have HFY := Lib.hid (fun h => hc (HFO.out.1 h)); clear HFO
                    go_wp2_with fail
                    refine (ans_is_no (fires_off (t := 0)) (dfires_any _ 12 _ s f q (fun _ => 0) _ _ HOFF.out (by omega) (by omega) (by omega) (by omega) (by omega) (by unfold I64; omega) (by unfold I64; omega) t hlt3)).mono ?_; rintro e w' ⟨rfl, rfl⟩
                    go_wp2_with fail
                    refine (stateAns_is state_off (dstate_any _ 12 _ s f q (fun _ => 0) _ _ HOFF.out (by omega) (by omega) (by omega) (by omega) (by omega) (by unfold I64; omega) (by unfold I64; omega) t hlt3)).mono ?_; rintro e w' ⟨rfl, rfl⟩
                    go_wp2_with fail
                    refine (ans_is_no HFY.out (dfires_any _ 12 _ s f q (fun _ => 1) _ _ HON.out (by omega) (by omega) (by omega) (by omega) (by omega) (by unfold I64; omega) (by unfold I64; omega) t hlt3)).mono ?_; rintro e w' ⟨rfl, rfl⟩
                    go_wp2_with fail
                    go_round
                    case rel => exact ⟨t + 1, by omega, by go_num⟩
                    case measure => simp [intOf]; omega
                · go_wp2_with fail
                  refine (define_runs _).mono ?_; rintro e w7 ⟨rfl, hbel⟩
                  have HB7 := Lib.hid (HBL.out.trans (hbel.mono (by have := HBL.out.size; omega))); clear hbel
                  go_wp2_with fail
                  go_ret
                  exact ⟨rfl, HB7.out⟩
        · generalize ((W.alloc (.cells #[Value.int .i64 0, Value.int .i64 0, Value.int .i64 0, Value.int .i64 0, Value.int .i64 0, Value.int .i64 0, Value.int .i64 0, Value.int .i64 0, Value.int .i64 0, Value.int .i64 0, Value.int .i64 0, Value.int .i64 0] 3)).alloc (.cells #[Value.int .i64 0, Value.int .i64 0, Value.int .i64 0, Value.int .i64 0, Value.int .i64 0, Value.int .i64 0, Value.int .i64 0, Value.int .i64 0, Value.int .i64 0, Value.int .i64 0, Value.int .i64 0, Value.int .i64 0] 3)).drew = W2 at *
          generalize hga : W.heap.size + 1 = go at *
          generalize hgb : W.heap.size = gn at *
          have hne : go ≠ gn := by omega
          have hgw : w.heap.size ≤ gn := by omega
          clear hga hgb
          go_wp2_with fail
          go_loopw [107] (fun i wr => ∃ j : Nat, j ≤ 12 ∧ i = .int .i64 j ∧ Blk wr gn 3 (ints (List.replicate j 1 ++ List.replicate (12 - j) 0)) ∧ Blk wr go 3 (ints (List.replicate 12 0)) ∧ Below w.heap.size w wr) (fun i _ => 12 - (intOf i).toNat)
          case atStart => exact ⟨0, by omega, rfl, HBB.out.1, HBB.out.2.1, HBB.out.2.2⟩
          case round =>
            obtain ⟨u, hu12, rfl, hbn, hbo, hbel⟩ := hrel
            have HBN := Lib.hid hbn; have HBO := Lib.hid hbo; have HBL := Lib.hid hbel; clear hbn hbo hbel
            by_cases hlt2 : u < 12
            · obtain ⟨b0, hb0⟩ := get_nought u hlt2
              have hc : wr.cell? ⟨gn, u, none⟩ = some (.int .i64 b0) := by rw [HBN.out.cell]; exact hb0
              have hf : wr.frozen? ⟨gn, u, none⟩ = false := HBN.out.frozen _
              have HS := Lib.hid (set_one u hlt2)
              clear hb0
              go_wp2_with fail
              go_roundw
              case rel => exact ⟨u + 1, by omega, by go_num, HS.out ▸ HBN.out.set _ _, HBO.out.far (by exact hne) _, HBL.out.setCell hgw _⟩
              case measure => simp [intOf]; omega
            · have hu : u = 12 := by omega
              have hon : Reads wr wr.heap.size (some ⟨gn, 0, none⟩) 12 (fun _ => 1) := by
                subst hu
                exact HBN.out.sees (size := 1) (n := 12) rfl (List.prefix_refl _)
              have hoff : Reads wr wr.heap.size (some ⟨go, 0, none⟩) 12 (fun _ => 0) := HBO.out.sees (size := 1) (n := 12) rfl (List.prefix_refl _)
              have HU := Lib.hid hu; have HON := Lib.hid hon; have HOFF := Lib.hid hoff; clear hon hoff hu HBN HBO HBB
              go_wp2_with fail
              go_loop [116] (fun i => ∃ j : Nat, j ≤ 12 ∧ i = .int .i64 j) (fun i => 12 - (intOf i).toNat)
              case atStart => exact ⟨0, by omega, rfl⟩
              case round =>
                obtain ⟨t, ht12, rfl⟩ := hrel
                by_cases hlt3 : t < 12
                · obtain ⟨hp1, hp2⟩ : 0 ≤ (t : Int) * s ∧ (t : Int) * s ≤ 12 * 9 := ⟨Int.mul_nonneg (by omega) (by omega), Int.mul_le_mul (by omega) (by omega) (by omega) (by omega)⟩
                  have HFO := Lib.hid (fires_on (f := f) (k := q) (t := t) hs1 hk1)
                  by_cases hc : f ≤ (t : Int) * s
                  · have HFY := Lib.hid (HFO.out.2 hc); clear HFO
                    go_wp2_with fail
                    refine (ans_is_no (fires_off (t := 0)) (dfires_any _ 12 _ s f q (fun _ => 0) _ _ HOFF.out (by omega) (by omega) (by omega) (by omega) (by omega) (by unfold I64; omega) (by unfold I64; omega) t hlt3)).mono ?_; rintro e w' ⟨rfl, rfl⟩
                    go_wp2_with fail
                    refine (stateAns_is state_off (dstate_any _ 12 _ s f q (fun _ => 0) _ _ HOFF.out (by omega) (by omega) (by omega) (by omega) (by omega) (by unfold I64; omega) (by unfold I64; omega) t hlt3)).mono ?_; rintro e w' ⟨rfl, rfl⟩
                    go_wp2_with fail
                    refine (ans_is_yes HFY.out (dfires_any _ 12 _ s f q (fun _ => 1) _ _ HON.out (by omega) (by omega) (by omega) (by omega) (by omega) (by unfold I64; omega) (by unfold I64; omega) t hlt3)).mono ?_; rintro e w' ⟨rfl, rfl⟩
                    go_wp2_with fail
                    go_round
                    case rel => exact ⟨t + 1, by omega, by go_num⟩
                    case measure => simp [intOf]; omega
                  · have HFY := Lib.hid (fun h => hc (HFO.out.1 h)); clear HFO
                    go_wp2_with fail
                    refine (ans_is_no (fires_off (t := 0)) (dfires_any _ 12 _ s f q (fun _ => 0) _ _ HOFF.out (by omega) (by omega) (by omega) (by omega) (by omega) (by unfold I64; omega) (by unfold I64; omega) t hlt3)).mono ?_; rintro e w' ⟨rfl, rfl⟩
                    go_wp2_with fail
                    refine (stateAns_is state_off (dstate_any _ 12 _ s f q (fun _ => 0) _ _ HOFF.out (by omega) (by omega) (by omega) (by omega) (by omega) (by unfold I64; omega) (by unfold I64; omega) t hlt3)).mono ?_; rintro e w' ⟨rfl, rfl⟩
                    go_wp2_with fail
                    refine (ans_is_no HFY.out (dfires_any _ 12 _ s f q (fun _ => 1) _ _ HON.out (by omega) (by omega) (by omega) (by omega) (by omega) (by unfold I64; omega) (by unfold I64; omega) t hlt3)).mono ?_; rintro e w' ⟨rfl, rfl⟩
                    go_wp2_with fail
                    go_round
                    case rel => exact ⟨t + 1, by omega, by go_num⟩
                    case measure => simp [intOf]; omega
                · go_wp2_with fail
                  refine (define_runs _).mono ?_; rintro e w7 ⟨rfl, hbel⟩
                  have HB7 := Lib.hid (HBL.out.trans (hbel.mono (by have := HBL.out.size; omega))); clear hbel
                  go_wp2_with fail
                  go_ret
                  exact ⟨rfl, HB7.out⟩
end Go.Proofs.Ytokcmppcmobbmaa
