/- The walk of SeriesLook, out of the contracts. -/
import Derived.Test.YtopcoopgfaijdaaSamples
namespace Go.Proofs.Ytopcoopgfaijdaa
open Go.ChangeShapes Go.WideShapes Go.ChangeAt Go.RowKit
set_option linter.unusedVariables false
set_option maxRecDepth 100000
theorem Rises.less {a a' b : Int} {xs : List (Int × Int)} (h : Rises a b xs) (ha : a' ≤ a) : Rises a' b xs := by
  cases xs with
  | nil => trivial
  | cons x xs => exact ⟨by have := h.1; omega, h.2⟩
theorem nBeh_before {ss : List (Int × Int)} {t : Int} (i : Nat) (h : i < ss.length) (hi : i < nBeh ss t) : ss[i].1 ≤ t := by
  induction ss generalizing i with
  | nil => simp at h
  | cons x ss ih =>
    unfold nBeh at hi ih
    by_cases hx : x.1 ≤ t
    · rw [List.takeWhile_cons_of_pos (by simp; exact hx), List.length_cons] at hi
      cases i with
      | zero => exact hx
      | succ i => exact ih i (by simpa using h) (by omega)
    · rw [List.takeWhile_cons_of_neg (by simp; omega)] at hi
      simp at hi
theorem look_laws {ss : List (Int × Int)} {t k d : Int} (hk : 0 ≤ d) :
    (atF ss t k = (0, false) ∨ ∃ z, atF ss t k = (z, true) ∧ atF ss t (k + d) = (z, true)) ∧ atF ss t 0 = (0, false) := by
  cases hn : nBeh ss t with
  | zero => exact ⟨.inl (atF_zero hn), atF_zero hn⟩
  | succ j =>
    have hj : j < ss.length := by have := nBeh_le ss t; omega
    have hy := nBeh_before (t := t) j hj (by omega)
    refine ⟨?_, by rw [atF_succ hn hj, if_pos (by omega)]⟩
    by_cases h1 : ss[j].1 ≤ t - k
    · exact .inl (by rw [atF_succ hn hj, if_pos h1])
    · exact .inr ⟨ss[j].2, by rw [atF_succ hn hj, if_neg h1], by rw [atF_succ hn hj, if_neg (by omega)]⟩
set_option maxHeartbeats 4000000 in
theorem series_look (A : Option Addr) (n c : Nat) (k0 d0 t0 : Int) (zs : List Int) (w : World) (hl : Sees w w.heap.size 1 A n (ints zs)) (hz : ∀ z ∈ zs, I64 z) (hn : n ≤ 9223372036854775807) (wk : I64 k0) (wd : I64 d0) (wt : I64 t0) :
    Calls Try.prog 5 #[.slice A n c, .int .i64 k0, .int .i64 d0, .int .i64 t0] w fun e w' => e = .returned (.bool true) ∧ Below w.heap.size w w' := by
  have HSM := Lib.hid (samples_any A n c zs w hl hz hn)
  have hlen : (samplesOf 0 (zs.take 20)).length = min n 20 := by rw [samplesOf_length, List.length_take, hl.int_len]; omega
  have hri := samplesOf_rises 0 (zs.take 20) 240 (by rw [List.length_take]; omega)
  have hm20 : min n 20 ≤ 20 := Nat.min_le_right _ _
  generalize samplesOf 0 (zs.take 20) = L at *
  generalize min n 20 = m at *
  have HLL := Lib.hid hlen; have HRS := Lib.hid hri
  have WK := Lib.hid wk; have WD := Lib.hid wd; have WT := Lib.hid wt
  clear hl hz hn hlen hri wk wd wt
  obtain ⟨hk1, hk2⟩ := nWithin_in k0 (lo := 1) (hi := 40) (by omega)
  obtain ⟨ht1, ht2⟩ := nWithin_in t0 (lo := 0) (hi := 300) (by omega)
  obtain ⟨hd1, hd2⟩ := nWithin_in d0 (lo := 0) (hi := 50) (by omega)
  go_enter Try.func5, Try.ntmps5
  go_wp2_with fail
  refine HSM.out.mono ?_; rintro e w1 ⟨A1, c1, rfl, hown1, hbel1, hc1, hc2⟩
  have HA0 := Lib.hid (new_ser (w := w1))
  have hbx : Below w1.heap.size w1 (w1.alloc (.cells #[.slice none 0 0] 24)) := (Below.refl _ _).alloc (Nat.le_refl _) _
  have HO1 := Lib.hid (own_below hown1 hbx (Nat.le_refl _))
  have HLB := Lib.hid hown1.lt
  have hs1 := hbel1.size
  have HB0 := Lib.hid (hbel1.trans (hbx.mono hs1))
  clear hown1 hbel1 hbx HSM
  obtain ⟨g, hg⟩ : ∃ g, g = w1.heap.size := ⟨_, rfl⟩
  have HG := Lib.hid hg
  have hgw : w.heap.size ≤ g := by omega
  rw [← hg] at HA0
  clear hg
  go_wp2_with fail
  rw [← HG.out]
  refine (add_any [] L g _ A1 m c1 _ HA0.out (by simp) (Sees.of_own HO1.out) (by omega) hc1 hc2).mono ?_; rintro e w2 ⟨v0, rfl, hat2, ho2⟩
  have h0 : addErr (lastT []) ([] : List (Int × Int)).length L = 0 := rises_add (HRS.out.less (by decide)) (by decide) (by decide) (by rw [HLL.out]; simp; omega)
  rw [h0] at hat2
  rw [h0]
  have hat3 : SerAt L w2 g v0 := hat2
  have HA2 := Lib.hid hat3
  have HB2 := Lib.hid (HB0.out.trans (ho2.below hgw (HB0.out.size)))
  have HO2 := Lib.hid (ho2.own HO1.out (fun e => by have := (HLB.out g e).2; have := HG.out; omega))
  have HL2 := Lib.hid (Sees.of_own HO2.out)
  have hgs := hat3.1.lt
  clear hat2 hat3 ho2 h0 HA0 HB0 HO1 HLB HO2
  go_wp2_with fail
  refine (within_any k0 1 40 _ WK.out (by omega) (by omega) (by omega)).mono ?_; rintro e w' ⟨rfl, rfl⟩
  generalize nWithin k0 1 40 = k at *
  clear WK
  go_wp2_with fail
  go_loopw [37] (fun i wr => ∃ j : Nat, j ≤ m ∧ i = .int .i64 j ∧ Below w2.heap.size w2 wr) (fun i _ => m - (intOf i).toNat)
  case atStart => exact ⟨0, Nat.zero_le _, rfl, Below.refl _ _⟩
  case round =>
    obtain ⟨j, hj, rfl, hbel⟩ := hrel
    have HB := Lib.hid hbel; have hsz := hbel.size; clear hbel
    have HSW := Lib.hid (HA2.out.below HB.out)
    by_cases hlt : j < m
    · obtain ⟨ad, hjl, rfl, c0, c1'⟩ := (HL2.out.below HB.out).smp hlt
      have hal : (ad.add (j * 2)).block < wr.heap.size := World.block_lt_of_cell? wr _ c0
      have hyb := rises_get HRS.out j hjl
      have HLJ0 := Lib.hid (show L[j] = L[j] from rfl)
      have HNX : Hid (∀ h : j + 1 < L.length, L[j].1 < L[j + 1].1) := fun h => rises_lt HRS.out j (j + 1) (by omega) h
      generalize hp : L[j] = p at *
      obtain ⟨y, z⟩ := p
      have HLJ := Lib.hid hp
      simp only at c0 c1' hyb
      obtain ⟨hy0, hy1⟩ := hyb
      clear hp HLJ0
      have hbx : Below wr.heap.size wr (wr.alloc (.cells #[.int .i64 y, .int .i64 z] 28)) := (Below.refl _ _).alloc (Nat.le_refl _) _
      have HSX := Lib.hid (HSW.out.below hbx)
      have HBX := Lib.hid (HB.out.trans (hbx.mono hsz))
      have HRS2 := HRS
      clear hbx
      by_cases hlast : j + 1 = m
      · have hlx1 : ¬ ((j : Int) + 1 < m) := by omega
        have hlx2 : ((j : Int) + 1 == m) = true := by simp; omega
        clear hlast
        have HV1 := Lib.hid (show atF L y k = (z, true) by
          rw [atF_succ (j := j) (nBeh_rises HRS.out hjl (by rw [HLJ.out]; exact Int.le_refl y) (fun h => by have := HLL.out; omega)) hjl, HLJ.out, if_neg (by simp only; omega)])
        have HV2 := Lib.hid (show atF L (y + k - 1) k = (z, true) by
          rw [atF_succ (j := j) (nBeh_rises HRS.out hjl (by rw [HLJ.out]; simp only; omega) (fun h => by have := HLL.out; omega)) hjl, HLJ.out, if_neg (by simp only; omega)])
        have HV3 := Lib.hid (show atF L (y + k) k = (0, false) by
          rw [atF_succ (j := j) (nBeh_rises HRS.out hjl (by rw [HLJ.out]; simp only; omega) (fun h => by have := HLL.out; omega)) hjl, HLJ.out, if_pos (by simp only; omega)])
        clear HRS2
        go_wp2_with fail
        refine (at_any L g v0 (y) (k) _ HSX.out (by rw [HLL.out]; omega) (by omega) (by omega)).mono ?_; rintro e w' ⟨rfl, rfl⟩
        rw [HV1.out]
        go_wp2_with fail
        refine (at_any L g v0 (y + k - 1) (k) _ HSX.out (by rw [HLL.out]; omega) (by omega) (by omega)).mono ?_; rintro e w' ⟨rfl, rfl⟩
        rw [HV2.out]
        go_wp2_with fail
        refine (at_any L g v0 (y + k) (k) _ HSX.out (by rw [HLL.out]; omega) (by omega) (by omega)).mono ?_; rintro e w' ⟨rfl, rfl⟩
        rw [HV3.out]
        go_wp2_with fail
        go_quiet (fail)
        go_wp2_with fail
        go_roundw
        case rel => exact ⟨j + 1, by omega, by go_num, below_drewN3 HBX.out _⟩
        case measure => simp [intOf]; omega
      · obtain ⟨ad2, hjl2, hA2, c2, c3⟩ := (HL2.out.below HB.out).smp (show j + 1 < m by omega)
        injection hA2 with hA2; subst hA2
        have hal2 := World.block_lt_of_cell? wr _ c2
        have hnx := HNX.out hjl2
        generalize hp2 : L[j + 1] = p2 at *
        obtain ⟨y2, z2⟩ := p2
        have HLJ2 := Lib.hid hp2
        simp only at c2 c3 hnx
        clear hp2
        have hlx1 : (j : Int) + 1 < m := by omega
        have hlx2 : ((j : Int) + 1 == m) = false := by simp; omega
        have hjm : j + 1 < m := by omega
        clear hlast
        by_cases hB : y + k < y2
        · have hnl : ¬ y2 < y + k := by omega
          have HV1 := Lib.hid (show atF L y k = (z, true) by
            rw [atF_succ (j := j) (nBeh_rises HRS.out hjl (by rw [HLJ.out]; exact Int.le_refl y) (fun h => by rw [HLJ2.out]; simp only; omega)) hjl, HLJ.out, if_neg (by simp only; omega)])
          have HV2 := Lib.hid (show atF L (y + k - 1) k = (z, true) by
            rw [atF_succ (j := j) (nBeh_rises HRS.out hjl (by rw [HLJ.out]; simp only; omega) (fun h => by rw [HLJ2.out]; simp only; omega)) hjl, HLJ.out, if_neg (by simp only; omega)])
          have HV3 := Lib.hid (show atF L (y + k) k = (0, false) by
            rw [atF_succ (j := j) (nBeh_rises HRS.out hjl (by rw [HLJ.out]; simp only; omega) (fun h => by rw [HLJ2.out]; simp only; omega)) hjl, HLJ.out, if_pos (by simp only; omega)])
          clear HRS2
          go_wp2_with fail
          refine (at_any L g v0 (y) (k) _ HSX.out (by rw [HLL.out]; omega) (by omega) (by omega)).mono ?_; rintro e w' ⟨rfl, rfl⟩
          rw [HV1.out]
          go_wp2_with fail
          refine (at_any L g v0 (y + k - 1) (k) _ HSX.out (by rw [HLL.out]; omega) (by omega) (by omega)).mono ?_; rintro e w' ⟨rfl, rfl⟩
          rw [HV2.out]
          go_wp2_with fail
          refine (at_any L g v0 (y + k) (k) _ HSX.out (by rw [HLL.out]; omega) (by omega) (by omega)).mono ?_; rintro e w' ⟨rfl, rfl⟩
          rw [HV3.out]
          go_wp2_with fail
          go_quiet (fail)
          go_wp2_with fail
          go_roundw
          case rel => exact ⟨j + 1, by omega, by go_num, below_drewN3 HBX.out _⟩
          case measure => simp [intOf]; omega
        · have hng : ¬ y2 > y + k := by omega
          obtain ⟨v3, q3, hv3⟩ : ∃ v3 q3, atF L (y + k) k = (v3, q3) := ⟨_, _, rfl⟩
          have HV3 := Lib.hid hv3; clear hv3
          by_cases hC : y2 < y + k
          · have HV1 := Lib.hid (show atF L y k = (z, true) by
              rw [atF_succ (j := j) (nBeh_rises HRS.out hjl (by rw [HLJ.out]; exact Int.le_refl y) (fun h => by rw [HLJ2.out]; simp only; omega)) hjl, HLJ.out, if_neg (by simp only; omega)])
            have HV2 := Lib.hid (show atF L (y2 - 1) k = (z, true) by
              rw [atF_succ (j := j) (nBeh_rises HRS.out hjl (by rw [HLJ.out]; simp only; omega) (fun h => by rw [HLJ2.out]; simp only; omega)) hjl, HLJ.out, if_neg (by simp only; omega)])
            clear HRS2
            go_wp2_with fail
            refine (at_any L g v0 (y) (k) _ HSX.out (by rw [HLL.out]; omega) (by omega) (by omega)).mono ?_; rintro e w' ⟨rfl, rfl⟩
            rw [HV1.out]
            go_wp2_with fail
            refine (at_any L g v0 (y2 - 1) (k) _ HSX.out (by rw [HLL.out]; omega) (by omega) (by omega)).mono ?_; rintro e w' ⟨rfl, rfl⟩
            rw [HV2.out]
            go_wp2_with fail
            refine (at_any L g v0 (y + k) (k) _ HSX.out (by rw [HLL.out]; omega) (by omega) (by omega)).mono ?_; rintro e w' ⟨rfl, rfl⟩
            rw [HV3.out]
            go_wp2_with fail
            cases q3
            · go_quiet (fail)
              go_wp2_with fail
              go_roundw
              case rel => exact ⟨j + 1, by omega, by go_num, below_drewN3 HBX.out _⟩
              case measure => simp [intOf]; omega
            · go_quiet (fail)
              go_wp2_with fail
              go_roundw
              case rel => exact ⟨j + 1, by omega, by go_num, below_drewN3 HBX.out _⟩
              case measure => simp [intOf]; omega
          · have HV1 := Lib.hid (show atF L y k = (z, true) by
              rw [atF_succ (j := j) (nBeh_rises HRS.out hjl (by rw [HLJ.out]; exact Int.le_refl y) (fun h => by rw [HLJ2.out]; simp only; omega)) hjl, HLJ.out, if_neg (by simp only; omega)])
            have HV2 := Lib.hid (show atF L (y + k - 1) k = (z, true) by
              rw [atF_succ (j := j) (nBeh_rises HRS.out hjl (by rw [HLJ.out]; simp only; omega) (fun h => by rw [HLJ2.out]; simp only; omega)) hjl, HLJ.out, if_neg (by simp only; omega)])
            clear HRS2
            go_wp2_with fail
            refine (at_any L g v0 (y) (k) _ HSX.out (by rw [HLL.out]; omega) (by omega) (by omega)).mono ?_; rintro e w' ⟨rfl, rfl⟩
            rw [HV1.out]
            go_wp2_with fail
            refine (at_any L g v0 (y + k - 1) (k) _ HSX.out (by rw [HLL.out]; omega) (by omega) (by omega)).mono ?_; rintro e w' ⟨rfl, rfl⟩
            rw [HV2.out]
            go_wp2_with fail
            refine (at_any L g v0 (y + k) (k) _ HSX.out (by rw [HLL.out]; omega) (by omega) (by omega)).mono ?_; rintro e w' ⟨rfl, rfl⟩
            rw [HV3.out]
            go_wp2_with fail
            cases q3
            · go_quiet (fail)
              go_wp2_with fail
              go_roundw
              case rel => exact ⟨j + 1, by omega, by go_num, below_drewN3 HBX.out _⟩
              case measure => simp [intOf]; omega
            · go_quiet (fail)
              go_wp2_with fail
              go_roundw
              case rel => exact ⟨j + 1, by omega, by go_num, below_drewN3 HBX.out _⟩
              case measure => simp [intOf]; omega
    · have hw2 := HB2.out.size
      obtain ⟨d, hd⟩ : ∃ d, nWithin d0 0 50 = d := ⟨_, rfl⟩
      have HD := Lib.hid hd
      rw [hd] at hd1 hd2
      clear hd
      go_wp2_with fail
      refine (within_any t0 0 300 _ WT.out (by omega) (by omega) (by omega)).mono ?_; rintro e w' ⟨rfl, rfl⟩
      generalize nWithin t0 0 300 = tt at *
      obtain ⟨h1, h2⟩ := look_laws (ss := L) (t := tt) (k := k) hd1
      have HZ := Lib.hid h2; clear h2
      rcases h1 with h1 | ⟨z, h1, h2⟩
      · have HV1 := Lib.hid h1; clear h1
        go_wp2_with fail
        refine (at_any L g v0 tt k _ HSW.out (by rw [HLL.out]; omega) (by omega) (by omega)).mono ?_; rintro e w' ⟨rfl, rfl⟩
        rw [HV1.out]
        go_wp2_with fail
        refine (within_any d0 0 50 _ WD.out (by omega) (by omega) (by omega)).mono ?_; rintro e w' ⟨rfl, rfl⟩
        rw [HD.out]
        go_wp2_with fail
        refine (at_any L g v0 tt (k + d) _ HSW.out (by rw [HLL.out]; omega) (by omega) (by omega)).mono ?_; rintro e w' ⟨rfl, rfl⟩
        generalize atF L tt (k + d) = p
        obtain ⟨p1, p2⟩ := p
        go_wp2_with fail
        refine (at_any L g v0 tt 0 _ HSW.out (by rw [HLL.out]; omega) (by omega) (by omega)).mono ?_; rintro e w' ⟨rfl, rfl⟩
        rw [HZ.out]
        go_wp2_with fail
        refine (series_runs _).mono ?_; rintro e w9 ⟨rfl, hbel⟩
        have HB9 := Lib.hid ((HB2.out.trans (HB.out.mono hw2)).trans (hbel.mono (by omega))); clear hbel
        go_wp2_with fail
        go_ret
        exact ⟨rfl, HB9.out⟩
      · have HV1 := Lib.hid h1; have HV2 := Lib.hid h2; clear h1 h2
        go_wp2_with fail
        refine (at_any L g v0 tt k _ HSW.out (by rw [HLL.out]; omega) (by omega) (by omega)).mono ?_; rintro e w' ⟨rfl, rfl⟩
        rw [HV1.out]
        go_wp2_with fail
        refine (within_any d0 0 50 _ WD.out (by omega) (by omega) (by omega)).mono ?_; rintro e w' ⟨rfl, rfl⟩
        rw [HD.out]
        go_wp2_with fail
        refine (at_any L g v0 tt (k + d) _ HSW.out (by rw [HLL.out]; omega) (by omega) (by omega)).mono ?_; rintro e w' ⟨rfl, rfl⟩
        rw [HV2.out]
        go_wp2_with fail
        refine (at_any L g v0 tt 0 _ HSW.out (by rw [HLL.out]; omega) (by omega) (by omega)).mono ?_; rintro e w' ⟨rfl, rfl⟩
        rw [HZ.out]
        go_wp2_with fail
        refine (series_runs _).mono ?_; rintro e w9 ⟨rfl, hbel⟩
        have HB9 := Lib.hid ((HB2.out.trans (HB.out.mono hw2)).trans (hbel.mono (by omega))); clear hbel
        go_wp2_with fail
        go_ret
        exact ⟨rfl, HB9.out⟩
end Go.Proofs.Ytopcoopgfaijdaa
