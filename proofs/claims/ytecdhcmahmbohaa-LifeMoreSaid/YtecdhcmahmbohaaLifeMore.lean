/- The walk of LifeMore, out of the contracts. -/
import Derived.Test.YtecdhcmahmbohaaLifeScales
import Derived.Test.YtecdhcmahmbohaaLifeSim
namespace Go.Proofs.Ytecdhcmahmbohaa
open Go.ChangeShapes Go.WideShapes Go.ChangeAt Go.RowKit
set_option linter.unusedVariables false
set_option maxRecDepth 100000

/-- What the first loop asks of a tick. -/
def AskMore (a b c : Int) (o : Bool) : Prop :=
  (a = 2 ∧ b = 2 ∧ (c = 2 ∨ c ≠ 2)) ∨ (a = 1 ∧ c ≠ 2) ∨ (a = 0 ∧ c ≠ 2 ∧ o = false)
theorem ask_more {a b c : Int} {o : Bool} (h1 : a = 2 → b = 2) (h2 : c = 2 → a = 2) (h3 : 0 ≤ a ∧ a ≤ 2 ∧ (o = true → a ≠ 0)) : AskMore a b c o := by
  unfold AskMore
  cases o
  · simp at h3 ⊢; omega
  · simp at h3 ⊢; omega
theorem set_true (j : Nat) (h : j < 45) : (bools (List.replicate j true ++ List.replicate (45 - j) false)).set j (.bool true) = bools (List.replicate (j + 1) true ++ List.replicate (45 - (j + 1)) false) := by
  unfold bools
  rw [show 45 - j = (45 - (j + 1)) + 1 by omega, List.replicate_succ (a := false), List.map_append, List.map_append, List.map_cons]
  rw [List.set_append_right _ _ (by simp)]
  have e : j - (List.map Value.bool (List.replicate j true)).length = 0 := by simp
  rw [e, List.set_cons_zero, List.replicate_succ' (a := true), List.map_append]
  simp
theorem get_false (j : Nat) (h : j < 45) : ∃ b, (bools (List.replicate j true ++ List.replicate (45 - j) false))[j]? = some (.bool b) := by
  rw [bools_get _ j (by simp; omega)]; exact ⟨_, rfl⟩

set_option maxHeartbeats 4000000 in
theorem more_walk (A : Option Addr) (n c k : Nat) (s0 f0 k0 m0 : Int) (zs : List Bool) (w : World) (hl : Sees w w.heap.size 1 A n (bools zs)) (hnc : n ≤ c) (hn : c ≤ 9223372036854775807)
    (wd : I64 s0) (wf : I64 f0) (wk : I64 k0) (wm : I64 m0) (hk : min (n : Int) 40 = k) (hk2 : k ≤ n) (hk3 : k ≤ 40) :
    Calls Try.prog 5 #[.slice A n c, .int .i64 s0, .int .i64 f0, .int .i64 k0, .int .i64 m0] w fun e w' => e = .returned (.bool true) ∧ Below w.heap.size w w' := by
  obtain ⟨i0, hi, hz0, hz1, hz2⟩ := info_parts Try.infoBool
  have ht := hl.take hk2
  rw [Nat.mul_one, bools_take] at ht
  have HT := Lib.hid ht; clear hl ht
  have HL : Hid ((zs.take k).length = k) := HT.out.bool_len
  generalize zs.take k = l at *
  go_enter Try.func5, Try.ntmps5
  go_upto_region 1 with fail
  go_cut [11] (fun v wx => wx.ownsRow w.heap.size 4 1 v k (bools l) ∧ Below w.heap.size w wx)
  case first =>
    have hown0 : (w.alloc (.cells #[] 4)).ownsRow w.heap.size 4 1 (.slice (some ⟨w.heap.size, 0, none⟩) 0 0) 0 [] := World.ownsRow_made w #[] 0 (Nat.le_refl _) (by unfold maxLen; omega) rfl
    have HO := Lib.hid hown0; clear hown0
    by_cases h20 : n ≤ 40
    · obtain rfl : k = n := by omega
      clear hk
      go_wp2_with (at_builtin; refine wpList_append_sees rfl (.tmp 24) (.tmp 29) 35 rfl w.heap.size 4 i0 (.bool false) 1 1 Try.underlying35 hi hz0 hz1 hz2 rfl (by decide) _ 0 [] rfl HO.out w.heap.size A k _ (bools l) rfl (HT.out.alloc (Nat.le_refl _) _) (bools_one _) (by unfold maxLen; omega) (by omega) (by simp) ?_)
      intro v' w1 hown hg
      have hb := ((Below.refl w.heap.size w).alloc (Nat.le_refl _) _).grown hg (by simp) (by simp [Value.ownBlock])
      have H1 := Lib.hid hown; have H2 := Lib.hid hb; clear hown hb hg
      go_wp2
      go_meet
      exact ⟨H1.out, H2.out⟩
    · obtain rfl : k = 40 := by omega
      clear hk
      go_wp2_with (at_builtin; refine wpList_append_sees rfl (.tmp 24) (.tmp 29) 35 rfl w.heap.size 4 i0 (.bool false) 1 1 Try.underlying35 hi hz0 hz1 hz2 rfl (by decide) _ 0 [] rfl HO.out w.heap.size A 40 _ (bools l) rfl (HT.out.alloc (Nat.le_refl _) _) (bools_one _) (by unfold maxLen; omega) (by omega) (by simp) ?_)
      intro v' w1 hown hg
      have hb := ((Below.refl w.heap.size w).alloc (Nat.le_refl _) _).grown hg (by simp) (by simp [Value.ownBlock])
      have H1 := Lib.hid hown; have H2 := Lib.hid hb; clear hown hb hg
      go_wp2
      go_meet
      exact ⟨H1.out, H2.out⟩
  case rest =>
    obtain ⟨hown, hbel⟩ := hcut
    clear hk hk2

    clear hnc hn HT
    obtain ⟨A1, c1, rfl, hc1, hc2⟩ := own_slice hown
    have HS1 := Lib.hid (Sees.of_own hown)
    have HB1 := Lib.hid hbel
    have hcs := hbel.size
    clear hown hbel
    obtain ⟨hs1, hs2⟩ := nWithin_in s0 (lo := 1) (hi := 9) (by omega)
    obtain ⟨hf1, hf2⟩ := nWithin_in f0 (lo := 0) (hi := 40) (by omega)
    obtain ⟨hk1, hk2⟩ := nWithin_in k0 (lo := 0) (hi := 40) (by omega)
    obtain ⟨hm1, hm2⟩ := nWithin_in m0 (lo := 0) (hi := 30) (by omega)
    go_wp2_with fail
    refine (within_any s0 1 9 _ wd (by omega) (by omega) (by omega)).mono ?_; rintro e w' ⟨rfl, rfl⟩
    go_wp2_with fail
    refine (within_any f0 0 40 _ wf (by omega) (by omega) (by omega)).mono ?_; rintro e w' ⟨rfl, rfl⟩
    go_wp2_with fail
    refine (within_any k0 0 40 _ wk (by omega) (by omega) (by omega)).mono ?_; rintro e w' ⟨rfl, rfl⟩
    go_wp2_with fail
    refine (within_any m0 0 30 _ wm (by omega) (by omega) (by omega)).mono ?_; rintro e w' ⟨rfl, rfl⟩
    generalize nWithin s0 1 9 = s at *
    generalize nWithin f0 0 40 = f at *
    generalize nWithin k0 0 40 = q at *
    generalize nWithin m0 0 30 = m at *
    clear wd wf wk wm
    go_wp2_with fail
    refine (run_any s f q A1 k c1 l _ wc HS1.out (Nat.le_refl _) (by unfold I64; omega) (by unfold I64; omega) (by unfold I64; omega) (by omega)).mono ?_; rintro e w2 ⟨v2, rfl, hown2, hbel2⟩
    obtain ⟨A2, c2, rfl, hc3, hc4⟩ := own_slice hown2
    have hcs2 := hbel2.size
    have HS2 := Lib.hid (HS1.out.below hbel2)
    have HR2 := Lib.hid (Sees.of_own hown2)
    have HB2 := Lib.hid (HB1.out.trans (hbel2.mono hcs)); clear hown2 hbel2
    go_wp2_with fail
    refine (run_any s f (q + m) A1 k c1 l _ w2 HS2.out hcs2 (by unfold I64; omega) (by unfold I64; omega) (by unfold I64; omega) (by omega)).mono ?_; rintro e w3 ⟨v3, rfl, hown3, hbel3⟩
    obtain ⟨A3, c3, rfl, hc5, hc6⟩ := own_slice hown3
    have hcs3 := hbel3.size
    have HS3 := Lib.hid ((HS2.out.more hcs2).below hbel3)
    have HR3 := Lib.hid ((HR2.out.below hbel3).more hcs3)
    have HQ3 := Lib.hid (Sees.of_own hown3)
    have HB3 := Lib.hid (HB2.out.trans (hbel3.mono (by omega))); clear hown3 hbel3
    go_wp2_with fail
    refine (run_any s (f + m) q A1 k c1 l _ w3 HS3.out hcs3 (by unfold I64; omega) (by unfold I64; omega) (by unfold I64; omega) (by omega)).mono ?_; rintro e w4 ⟨v4, rfl, hown4, hbel4⟩
    obtain ⟨A4, c4, rfl, hc7, hc8⟩ := own_slice hown4
    have hcs4 := hbel4.size
    have HS4 := Lib.hid ((HS3.out.more hcs3).below hbel4)
    have HR4 := Lib.hid (HR3.out.below hbel4)
    have HQ4 := Lib.hid (HQ3.out.below hbel4)
    have HP4 := Lib.hid (Sees.of_own hown4)
    have HB4 := Lib.hid (HB3.out.trans (hbel4.mono (by omega))); clear hown4 hbel4
    clear HS1 HS2 HS3 HR2 HR3 HQ3 HB1 HB2 HB3
    have hask : ∀ (i : Nat) (hi : i < l.length) (h1 : i < (lifeRun s f q .zero 0 l).length) (h2 : i < (lifeRun s f (q + m) .zero 0 l).length) (h3 : i < (lifeRun s (f + m) q .zero 0 l).length),
        AskMore (lifeRun s f q .zero 0 l)[i] (lifeRun s f (q + m) .zero 0 l)[i] (lifeRun s (f + m) q .zero 0 l)[i] l[i] := fun i hi h1 h2 h3 =>
      ask_more (run_more (Int.le_refl _) (most_mono hs1 hk1 hm1) l .zero .zero 0 (.inl ⟨rfl, .inl rfl⟩) i h1 h2) (run_more (least_mono hs1 hf1 hm1) (Int.le_refl _) l .zero .zero 0 (.inl ⟨rfl, .inl rfl⟩) i h3 h1) (run_three l .zero 0 (.inl rfl) i h1 hi)
    have HASK := Lib.hid hask; clear hask
    have hb1 : ((k : Int) != k) = false := by simp
    go_wp2_with fail
    go_loop [79] (fun i => ∃ j : Nat, j ≤ k ∧ i = .int .i64 j) (fun i => k - (intOf i).toNat)
    case atStart => exact ⟨0, Nat.zero_le _, rfl⟩
    case round =>
      obtain ⟨j, hj, rfl⟩ := hrel
      by_cases hlt : j < k
      · obtain ⟨ad, hjl, rfl, hc⟩ := HS4.out.bool hlt
        obtain ⟨ad2, hj2, rfl, hc2⟩ := HR4.out.int hlt
        obtain ⟨ad3, hj3, rfl, hc3⟩ := HQ4.out.int hlt
        obtain ⟨ad4, hj4, rfl, hc4⟩ := HP4.out.int hlt
        have ha := HASK.out j hjl hj2 hj3 hj4
        generalize l[j] = b at *
        generalize (lifeRun s f q .zero 0 l)[j] = x at *
        generalize (lifeRun s f (q + m) .zero 0 l)[j] = y at *
        generalize (lifeRun s (f + m) q .zero 0 l)[j] = z at *
        rcases ha with ⟨rfl, rfl, rfl | hz⟩ | ⟨rfl, hz⟩ | ⟨rfl, hz, rfl⟩
        · cases b
          all_goals
            go_wp2_with fail
            go_round
            case rel => exact ⟨j + 1, by omega, by go_num⟩
            case measure => simp [intOf]; omega
        · have hz' : (z == 2) = false := by simpa using hz
          clear hz
          cases b
          all_goals
            go_wp2_with fail
            go_round
            case rel => exact ⟨j + 1, by omega, by go_num⟩
            case measure => simp [intOf]; omega
        · have hz' : (z == 2) = false := by simpa using hz
          clear hz
          cases b
          all_goals
            go_wp2_with fail
            go_round
            case rel => exact ⟨j + 1, by omega, by go_num⟩
            case measure => simp [intOf]; omega
        · have hz' : (z == 2) = false := by simpa using hz
          clear hz
          go_wp2_with fail
          go_round
          case rel => exact ⟨j + 1, by omega, by go_num⟩
          case measure => simp [intOf]; omega
      · obtain rfl : j = k := by omega
        clear HASK HS4 HR4 HQ4 HP4
        go_wp2_with (at_make; refine wpList_make_full _ rfl _ _ 35 rfl w4.heap.size 4 i0 (.bool false) 1 Try.underlying35 hi hz0 hz1 _ _ _ _ 45 rfl rfl (by simp) (by simp) (by rw [hz2]; omega) (by unfold maxLen; omega) (Nat.le_refl _) ?_)
        intro w5 hown hg
        have HB5 := Lib.hid (HB4.out.grown hg (by omega) (by simp))
        have hs5 := hg.size
        have hblk : Hid (Blk w5 w4.heap.size 4 (bools (List.replicate 0 true ++ List.replicate (45 - 0) false))) := by
          have := Blk.of_own hown
          rw [toList_madeCells_one] at this
          rw [show bools (List.replicate 0 true ++ List.replicate (45 - 0) false) = List.replicate 45 (Value.bool false) from rfl]
          exact this
        clear hown hg HB4
        go_wp2_with fail
        go_loopw [139] (fun i wr => ∃ j : Nat, j ≤ 45 ∧ i = .int .i64 j ∧ Blk wr w4.heap.size 4 (bools (List.replicate j true ++ List.replicate (45 - j) false)) ∧ Below w.heap.size w wr) (fun i _ => 45 - (intOf i).toNat)
        case atStart => exact ⟨0, by omega, rfl, hblk.out, HB5.out⟩
        case round =>
          obtain ⟨i, hi45, rfl, hb, hbel⟩ := hrel
          have HBL := Lib.hid hbel; clear hbel
          have HBK := Lib.hid hb; clear hb
          by_cases hlt2 : i < 45
          · obtain ⟨b0, hb0⟩ := get_false i hlt2
            have hc : wr.cell? ⟨w4.heap.size, i, none⟩ = some (.bool b0) := by rw [HBK.out.cell]; exact hb0
            have hf : wr.frozen? ⟨w4.heap.size, i, none⟩ = false := HBK.out.frozen _
            have HS := Lib.hid (set_true i hlt2)
            clear hb0
            go_wp2_with fail
            go_roundw
            case rel => exact ⟨i + 1, by omega, by go_num, HS.out ▸ HBK.out.set _ _, HBL.out.setCell (show w.heap.size ≤ w4.heap.size by omega) _⟩
            case measure => simp [intOf]; omega
          · obtain rfl : i = 45 := by omega
            have hsees := HBK.out.sees (size := 1) (n := 45) (xs := bools (List.replicate 45 true)) (by simp [bools]) (by simp)
            have HSE := Lib.hid hsees; clear hsees HBK hblk HB5
            go_wp2_with fail
            refine (run_any s f q _ 45 _ _ _ wr HSE.out (Nat.le_refl _) (by unfold I64; omega) (by unfold I64; omega) (by unfold I64; omega) (by omega)).mono ?_; rintro e w6 ⟨v6, rfl, hown6, hbel6⟩
            obtain ⟨A6, c6, rfl, hc9, hc10⟩ := own_slice hown6
            have hcs6 := hbel6.size
            have HR6 := Lib.hid (Sees.of_own hown6)
            have hws := HBL.out.size
            have HB6 := Lib.hid (HBL.out.trans (hbel6.mono hws)); clear hown6 hbel6
            have halw : ∀ (i : Nat) (h1 : i < (lifeRun s f q .zero 0 (List.replicate 45 true)).length), (lifeRun s f q .zero 0 (List.replicate 45 true))[i] = if f ≤ i * s then 2 else 1 := fun i h1 => by
              have := run_always (k := q) hs1 hf1 45 .zero 0 (by omega) (.inl ⟨rfl, rfl⟩) i h1
              rwa [Int.zero_add] at this
            have HALW := Lib.hid halw; clear halw
            go_wp2_with fail
            go_loop [156] (fun i => ∃ j : Nat, j ≤ 45 ∧ i = .int .i64 j) (fun i => 45 - (intOf i).toNat)
            case atStart => exact ⟨0, by omega, rfl⟩
            case round =>
              obtain ⟨t, ht45, rfl⟩ := hrel
              by_cases hlt3 : t < 45
              · obtain ⟨ad6, ht6, rfl, hc6⟩ := HR6.out.int hlt3
                rw [HALW.out t ht6] at hc6
                obtain ⟨hp1, hp2⟩ := prod_in (show 0 ≤ (t : Int) by omega) (show 0 ≤ s by omega) (show (t : Int) ≤ 45 by omega) hs2
                by_cases hc : f ≤ t * s
                · rw [if_pos hc] at hc6
                  go_wp2_with fail
                  go_round
                  case rel => exact ⟨t + 1, by omega, by go_num⟩
                  case measure => simp [intOf]; omega
                · rw [if_neg hc] at hc6
                  go_wp2_with fail
                  go_round
                  case rel => exact ⟨t + 1, by omega, by go_num⟩
                  case measure => simp [intOf]; omega
              · obtain rfl : t = 45 := by omega
                go_wp2_with fail
                refine (life_runs _).mono ?_; rintro e w7 ⟨rfl, hbel⟩
                have HB7 := Lib.hid (HB6.out.trans (hbel.mono (by omega))); clear hbel
                go_wp2_with fail
                go_ret
                exact ⟨rfl, HB7.out⟩
theorem life_more (A : Option Addr) (n c : Nat) (s0 f0 k0 m0 : Int) (zs : List Bool) (w : World) (hl : Sees w w.heap.size 1 A n (bools zs)) (hnc : n ≤ c) (hn : c ≤ 9223372036854775807)
    (wd : I64 s0) (wf : I64 f0) (wk : I64 k0) (wm : I64 m0) :
    Calls Try.prog 5 #[.slice A n c, .int .i64 s0, .int .i64 f0, .int .i64 k0, .int .i64 m0] w fun e w' => e = .returned (.bool true) ∧ Below w.heap.size w w' :=
  more_walk A n c (min n 40) s0 f0 k0 m0 zs w hl hnc hn wd wf wk wm (by omega) (by omega) (by omega)
end Go.Proofs.Ytecdhcmahmbohaa
