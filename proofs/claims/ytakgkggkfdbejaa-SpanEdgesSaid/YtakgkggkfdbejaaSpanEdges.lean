/- The walk of SpanEdges, out of the contracts. -/
import Derived.Test.YtakgkggkfdbejaaSpanOne
namespace Go.Proofs.Ytakgkggkfdbejaa
open Go.ChangeShapes Go.WideShapes Go.ChangeAt Go.RowKit
set_option linter.unusedVariables false
set_option maxRecDepth 100000
theorem pair2_sees {w : World} {t : TypeId} (a b c d : Int) : Sees (w.alloc (.cells #[.int .i64 a, .int .i64 b, .int .i64 c, .int .i64 d] t)) (w.alloc (.cells #[.int .i64 a, .int .i64 b, .int .i64 c, .int .i64 d] t)).heap.size 2 (some ⟨w.heap.size, 0, none⟩) 2 (smps [(a, b), (c, d)]) := lit_smps (w := w) (t := t) [(a, b), (c, d)]
theorem nil_sees {w : World} {B size : Nat} : Sees w B size none 0 (smps []) := ⟨by simp [smps], fun h => absurd h (by omega)⟩
set_option maxHeartbeats 16000000 in
theorem span_edges (f0 t0 n0 : Int) (w : World) (wf : I64 f0) (wt : I64 t0) (wn : I64 n0) :
    Calls Try.prog 8 #[.int .i64 f0, .int .i64 t0, .int .i64 n0] w fun e w' => e = .returned (.bool true) ∧ Below w.heap.size w w' := by
  have WF := Lib.hid wf; have WT := Lib.hid wt; have WN := Lib.hid wn; clear wf wt wn
  obtain ⟨ha1, ha2⟩ := nWithin_in f0 (lo := 0) (hi := 199) (by omega)
  obtain ⟨hb1, hb2⟩ := nWithin_in t0 (lo := nWithin f0 0 199) (hi := 199) ha2
  obtain ⟨hk1, hk2⟩ := nWithin_in n0 (lo := 0) (hi := 200) (by omega)
  obtain ⟨i0, hi, hz0, hz1, hz2⟩ := info_parts Try.infoInt3
  go_enter Try.func8, Try.ntmps8
  go_wp2_with fail
  refine (within_any f0 0 199 _ WF.out (by omega) (by omega) (by omega)).mono ?_; rintro e w' ⟨rfl, rfl⟩
  go_wp2_with fail
  refine (within_any t0 (nWithin f0 0 199) 199 _ WT.out (by omega) (by omega) (by omega)).mono ?_; rintro e w' ⟨rfl, rfl⟩
  generalize nWithin t0 (nWithin f0 0 199) 199 = b at *
  generalize nWithin f0 0 199 = a at *
  obtain ⟨J, hJ⟩ : ∃ J : Nat, (J : Int) = b - a + 1 := ⟨(b - a + 1).toNat, by omega⟩
  have HJ := Lib.hid hJ; clear hJ
  go_wp2_with fail
  go_loopg [9, 10] J (fun g x9 x10 wr => ∃ (j : Nat) (v : Value) (ts : List Int), j + g = J ∧ x9 = v ∧ x10 = .int .i64 (a + j) ∧ ts = runF a j ∧ wr.ownsRow w.heap.size 3 1 v ts.length (ints ts) ∧ Below w.heap.size w wr)
  case atStart => exact ⟨0, _, [], by omega, rfl, by simp, rfl, World.ownsRow_nil _ _ _ _, Below.refl _ _⟩
  case round =>
    obtain ⟨j, v, ts, hjg, rfl, rfl, hts, hown, hbel⟩ := hrel
    have HO := Lib.hid hown; have HB := Lib.hid hbel; have HT := Lib.hid hts
    have hsz := hbel.size
    have hl : ts.length = j := by rw [hts, runF_len]
    have hJ := HJ.out
    clear hown hbel hts
    cases gk with
    | succ g2 =>
      have hyes : a + (j : Int) ≤ b := by omega
      have hjj : j ≤ 200 := by omega
      clear hJ
      obtain ⟨z, hz⟩ : ∃ z, a + (j : Int) = z := ⟨_, rfl⟩
      have HZ := Lib.hid hz
      rw [hz] at hyes
      have hzb : z ≤ 199 := by omega
      have hzc : 0 ≤ z := by omega
      have HO2 := Lib.hid (HO.out.alloc (.cells #[.int .i64 z] 3))
      have HB2 := Lib.hid (HB.out.alloc hsz (.cells #[.int .i64 z] 3))
      have HX := Lib.hid (int_sees (w := wr) (t := 3) z)
      have htl2 : ts.length ≤ 200 := by omega
      clear HO HB hl
      go_wp2_with (at_builtin; refine wpList_append_sees rfl (.tmp 27) (.tmp 29) 30 rfl w.heap.size 3 i0 (.int .i64 0) 1 8 Try.underlying30 hi hz0 hz1 hz2 rfl (by decide) _ ts.length (ints ts) rfl HO2.out _ _ 1 1 (ints [z]) rfl HX.out (ints_one _) (by unfold maxLen; omega) (by omega) (by simp; omega) ?_)
      intro v3 w3 hown3 hgr3
      have R := Lib.hid (own_int HB2.out HO2.out hown3 hgr3 (by simp; omega))
      clear hown3 hgr3 HX HO2 HB2
      go_wp2_with fail
      go_roundg g2
      case measure => omega
      case rel => exact ⟨j + 1, v3, ts ++ [z], by omega, rfl, by have := HZ.out; rw [show a + ((j + 1 : Nat) : Int) = z + 1 by omega], by rw [HT.out, runF_snoc, HZ.out], R.out.1, R.out.2⟩
    | zero =>
      obtain rfl : j = J := by omega
      have hno : ¬ a + (j : Int) ≤ b := by omega
      obtain ⟨A9, c9, rfl, hc9, hc8⟩ := own_slice HO.out
      rw [hl] at hc9
      rw [HT.out] at HO
      have hlr := runF_len a j
      rw [hlr] at HO
      rw [hl]
      have hj2 : j ≤ 200 := by omega
      have HTK := Lib.hid (Sees.of_own HO.out)
      clear HO HT hl hJ hlr
      obtain ⟨w1, hw1⟩ : ∃ w1, wr.alloc (.cells #[.int .i64 a, .int .i64 b] 26) = w1 := ⟨_, rfl⟩
      have hs1 : w1.heap.size = wr.heap.size + 1 := by rw [← hw1]; simp
      have HTK1 := Lib.hid (show Sees w1 wr.heap.size 1 A9 j (ints (runF a j)) by rw [← hw1]; exact HTK.out.alloc (Nat.le_refl _) _)
      have HONE := Lib.hid (show Sees w1 w1.heap.size 2 (some ⟨wr.heap.size, 0, none⟩) 1 (smps [(a, b)]) by rw [← hw1]; exact pair_sees (w := wr) a b)
      have HB1 := Lib.hid (show Below w.heap.size w w1 by rw [← hw1]; exact HB.out.alloc hsz _)
      clear HTK HB
      go_wp2_with fail
      clear hw1
      obtain ⟨ob, hob⟩ : ∃ ob, wr.heap.size = ob := ⟨_, rfl⟩
      rw [hob] at HTK1 HONE hs1 hsz
      have HOW := Lib.hid (fun W (h : Below w1.heap.size w1 W) => HONE.out.below h)
      have HTW := Lib.hid (fun W (h : Below w1.heap.size w1 W) => HTK1.out.below (h.mono (show ob ≤ w1.heap.size by omega)))
      have e1 : ofF (runF a j) = [(a, b)] := ofF_run ha1 hb1 hb2 HJ.out
      rw [hob]
      have hsw1 : ob ≤ w1.heap.size := by omega
      refine (of_any A9 j c9 (runF a j) ob w1 HTK1.out hsw1 (by omega)).mono ?_; rintro e w2 ⟨A2, c2, rfl, hown2, hbel2, hc2, hc3⟩
      rw [e1] at hown2 hc2
      rw [e1]
      have HB2 := Lib.hid hbel2; have HS2 := Lib.hid (Sees.of_own hown2)
      have hz2' := hbel2.size
      clear hown2 hbel2 e1 HTK1 HONE hob
      go_wp2_with fail
      refine (same_spn A2 _ 1 c2 1 1 _ _ [(a, b)] [(a, b)] w2 HS2.out (HOW.out _ HB2.out) (by omega) (by omega)).mono ?_; rintro e w3 ⟨rfl, m3, hw3⟩
      rw [decide_eq_true (rfl : ([(a, b)] : List (Int × Int)) = [(a, b)])]
      have HB3 := Lib.hid (show Below w1.heap.size w1 w3 by rw [hw3]; exact below_drewN3 HB2.out m3)
      have hz3 := HB3.out.size
      clear hw3 HB2 HS2 hc2 hc3
      go_wp2_with fail
      refine (ticks_any _ 1 1 [(a, b)] _ w3 (HOW.out _ HB3.out) hz3 (by omega)).mono ?_; rintro e w4 ⟨A4, c4, rfl, hown4, hbel4, hc4, hc5⟩
      have e1 : ticksL (clip [(a, b)]) = runF a j := ticks_one ha1 hb1 hb2 HJ.out
      rw [e1, runF_len] at hown4 hc4
      rw [e1, runF_len]
      have HB4 := Lib.hid (HB3.out.trans (hbel4.mono hz3)); have HS4 := Lib.hid (Sees.of_own hown4)
      clear hown4 hbel4 e1 HB3
      go_wp2_with fail
      refine (same_int A4 A9 j c4 j c9 _ _ (runF a j) (runF a j) w4 HS4.out (HTW.out _ HB4.out) (by omega) (by omega)).mono ?_; rintro e w5 ⟨rfl, m5, hw5⟩
      rw [decide_eq_true (rfl : runF a j = runF a j)]
      have HB5 := Lib.hid (show Below w1.heap.size w1 w5 by rw [hw5]; exact below_drewN3 HB4.out m5)
      have hz5 := HB5.out.size
      clear hw5 HB4 HS4 hc4 hc5
      go_wp2_with fail
      refine (right_any _ 1 1 [(a, b)] _ w5 (HOW.out _ HB5.out) hz5 (by omega) (by omega)).mono ?_; rintro e w6 ⟨rfl, hbel6⟩
      have e1 : rightF none [(a, b)] = true := by
        show (rightAt none (a, b) && true) = true
        rw [rightAt_none ⟨ha1, hb1, by omega⟩]; rfl
      rw [e1]
      have HB6 := Lib.hid (HB5.out.trans (hbel6.mono hz5))
      have hz6 := HB6.out.size
      clear hbel6 e1 HB5
      go_wp2_with fail
      refine (count_any _ 1 1 [(a, b)] _ w6 (HOW.out _ HB6.out) hz6 (by omega)).mono ?_; rintro e w7 ⟨rfl, hbel7⟩
      have e1 : countF (clip [(a, b)]) = b - a + 1 := by rw [clip_one ha1 hb1 hb2]; simp [countF]
      rw [e1]
      have HB7 := Lib.hid (HB6.out.trans (hbel7.mono hz6))
      have hz7 := HB7.out.size
      have hne : ((b - a + 1) != (b - a + 1)) = false := by simp
      clear hbel7 e1 HB6
      go_wp2_with fail
      have HL8 := Lib.hid (show Sees (w7.alloc (.cells #[.int .i64 a, .int .i64 b, .int .i64 (b + 1), .int .i64 (b + 1)] 26)) (w7.alloc (.cells #[.int .i64 a, .int .i64 b, .int .i64 (b + 1), .int .i64 (b + 1)] 26)).heap.size 2 (some ⟨w7.heap.size, 0, none⟩) 2 (smps [(a, b), (b + 1, b + 1)]) from pair2_sees a b (b + 1) (b + 1))
      refine (right_any _ 2 2 [(a, b), (b + 1, b + 1)] _ _ HL8.out (Nat.le_refl _) (by omega) (by omega)).mono ?_; rintro e w8 ⟨rfl, hbel8⟩
      have e1 : rightF none [(a, b), (b + 1, b + 1)] = false := by
        show (rightAt none (a, b) && (rightAt (some b) (b + 1, b + 1) && true)) = false
        have e2 : rightAt (some b) (b + 1, b + 1) = false := by
          by_cases h : b + 1 < 200
          · rw [rightAt_some ⟨by omega, by omega, h⟩]; exact decide_eq_false (by omega)
          · exact rightAt_no (fun hh => h hh.2.2)
        rw [e2]; simp
      rw [e1]
      have HB8 := Lib.hid ((HB7.out.alloc hz7 (.cells #[.int .i64 a, .int .i64 b, .int .i64 (b + 1), .int .i64 (b + 1)] 26)).trans (hbel8.mono (Nat.le_trans hz7 (by simp))))
      have hz8 := HB8.out.size
      clear hbel8 e1 HB7 HL8
      go_wp2_with fail
      have HL9 := Lib.hid (show Sees (w8.alloc (.cells #[.int .i64 (-1), .int .i64 b] 26)) (w8.alloc (.cells #[.int .i64 (-1), .int .i64 b] 26)).heap.size 2 (some ⟨w8.heap.size, 0, none⟩) 1 (smps [(-1, b)]) from pair_sees (-1) b)
      refine (right_any _ 1 1 [(-1, b)] _ _ HL9.out (Nat.le_refl _) (by omega) (by omega)).mono ?_; rintro e w9 ⟨rfl, hbel9⟩
      have e1 : rightF none [(-1, b)] = false := by
        show (rightAt none (-1, b) && true) = false
        rw [rightAt_no (by omega)]; rfl
      rw [e1]
      have HB9 := Lib.hid ((HB8.out.alloc hz8 (.cells #[.int .i64 (-1), .int .i64 b] 26)).trans (hbel9.mono (Nat.le_trans hz8 (by simp))))
      have hz9 := HB9.out.size
      clear hbel9 e1 HB8 HL9
      go_wp2_with fail
      have HL10 := Lib.hid (show Sees (w9.alloc (.cells #[.int .i64 a, .int .i64 200] 26)) (w9.alloc (.cells #[.int .i64 a, .int .i64 200] 26)).heap.size 2 (some ⟨w9.heap.size, 0, none⟩) 1 (smps [(a, 200)]) from pair_sees a 200)
      refine (right_any _ 1 1 [(a, 200)] _ _ HL10.out (Nat.le_refl _) (by omega) (by omega)).mono ?_; rintro e w10 ⟨rfl, hbel10⟩
      have e1 : rightF none [(a, 200)] = false := by
        show (rightAt none (a, 200) && true) = false
        rw [rightAt_no (by omega)]; rfl
      rw [e1]
      have HB10 := Lib.hid ((HB9.out.alloc hz9 (.cells #[.int .i64 a, .int .i64 200] 26)).trans (hbel10.mono (Nat.le_trans hz9 (by simp))))
      have hz10 := HB10.out.size
      clear hbel10 e1 HB9 HL10
      go_wp2_with fail
      have HL11 := Lib.hid (show Sees (w10.alloc (.cells #[.int .i64 (b + 1), .int .i64 b] 26)) (w10.alloc (.cells #[.int .i64 (b + 1), .int .i64 b] 26)).heap.size 2 (some ⟨w10.heap.size, 0, none⟩) 1 (smps [(b + 1, b)]) from pair_sees (b + 1) b)
      refine (right_any _ 1 1 [(b + 1, b)] _ _ HL11.out (Nat.le_refl _) (by omega) (by omega)).mono ?_; rintro e w11 ⟨rfl, hbel11⟩
      have e1 : rightF none [(b + 1, b)] = false := by
        show (rightAt none (b + 1, b) && true) = false
        rw [rightAt_no (by omega)]; rfl
      rw [e1]
      have HB11 := Lib.hid ((HB10.out.alloc hz10 (.cells #[.int .i64 (b + 1), .int .i64 b] 26)).trans (hbel11.mono (Nat.le_trans hz10 (by simp))))
      have hz11 := HB11.out.size
      clear hbel11 e1 HB10 HL11
      go_wp2_with fail
      refine (within_any n0 0 200 _ WN.out (by omega) (by omega) (by omega)).mono ?_; rintro e w' ⟨rfl, rfl⟩
      generalize nWithin n0 0 200 = k at *
      have hkN := turnsN_of hk1 hk2
      have HT1 := Lib.hid (show turnsG (clip []) (clip [(a, b)]) 0 0 (turnsN k) = if a < k then (if b + 1 < k then [(a, 2), (b + 1, 0)] else [(a, 2)]) else [] by
        rw [clip_one ha1 hb1 hb2, show clip [] = [] from rfl, turns_one (s := 2) ha1 hb1 (by decide) state_fire, hkN])
      have HT2 := Lib.hid (show turnsG (clip [(a, b)]) (clip []) 0 0 (turnsN k) = if a < k then (if b + 1 < k then [(a, 1), (b + 1, 0)] else [(a, 1)]) else [] by
        rw [clip_one ha1 hb1 hb2, show clip [] = [] from rfl, turns_one (s := 1) ha1 hb1 (by decide) state_pend, hkN])
      have HT3 := Lib.hid (show turnsG (clip []) (clip []) 0 0 (turnsN k) = [] by rw [show clip [] = [] from rfl, turns_none])
      clear hkN
      by_cases hak : a < k
      · by_cases hbk : b + 1 < k
        · rw [if_pos hak, if_pos hbk] at HT1 HT2
          go_wp2_with fail
          refine (turns_any none _ 0 0 1 1 [] [(a, b)] k _ w11 nil_sees (HOW.out _ HB11.out) hz11 (by omega) (by omega)).mono ?_; rintro e w12 ⟨A12, c12, rfl, hown12, hbel12, hc12, hc13⟩
          rw [HT1.out] at hown12 hc12
          rw [HT1.out]
          have HB12 := Lib.hid (HB11.out.trans (hbel12.mono hz11))
          have HS12 := Lib.hid (Sees.of_own hown12)
          have hz12 := HB12.out.size
          clear hown12 hbel12 HB11 HT1
          go_wp2_with fail
          refine (turns_any _ none 1 1 0 0 [(a, b)] [] k _ w12 (HOW.out _ HB12.out) nil_sees hz12 (by omega) (by omega)).mono ?_; rintro e w13 ⟨A13, c14, rfl, hown13, hbel13, hc14, hc15⟩
          rw [HT2.out] at hown13 hc14
          rw [HT2.out]
          have HB13 := Lib.hid (HB12.out.trans (hbel13.mono hz12))
          have HS13 := Lib.hid (Sees.of_own hown13)
          have HS12b := Lib.hid (HS12.out.below hbel13)
          have hz13 := HB13.out.size
          have hz1213 := hbel13.size
          clear hown13 hbel13 HB12 HT2 HS12
          go_wp2_with fail
          refine (turns_any none none 0 0 0 0 [] [] k w1.heap.size w13 nil_sees nil_sees hz13 (by omega) (by omega)).mono ?_; rintro e w14 ⟨A14, c16, rfl, hown14, hbel14, hc16, hc17⟩
          rw [HT3.out] at hown14 hc16
          rw [HT3.out]
          have HB14 := Lib.hid (HB13.out.trans (hbel14.mono hz13))
          have HS13c := Lib.hid (HS13.out.below hbel14)
          have HS12c := Lib.hid (HS12b.out.below (hbel14.mono hz1213))
          have hz14 := HB14.out.size
          clear hown14 hbel14 HB13 HT3 HS12b HS13
          obtain ⟨adl, _, rfl, l0, l1, _⟩ := HS12c.out.turn (k := 0) (by simp)
          obtain ⟨adm, _, rfl, k0, k1, _⟩ := HS13c.out.turn (k := 0) (by simp)
          simp only [List.getElem_cons_zero, Nat.zero_mul, add_zero'] at l0 l1 k0 k1
          have hqa : (a == a) = true := by simp
          have HX := Lib.hid (show Sees (w14.alloc (.cells #[.int .i64 (-1), .int .i64 200] 3)) (w14.alloc (.cells #[.int .i64 (-1), .int .i64 200] 3)).heap.size 1 (some ⟨w14.heap.size, 0, none⟩) 2 (ints [-1, 200]) from lit_ints (w := w14) (t := 3) [-1, 200])
          have HB15 := Lib.hid (HB14.out.alloc hz14 (.cells #[.int .i64 (-1), .int .i64 200] 3))
          clear HS12c HS13c HB14
          go_wp2_with fail
          refine (of_any _ 2 2 [-1, 200] _ _ HX.out (Nat.le_refl _) (by omega)).mono ?_; rintro e w15 ⟨A15, c18, rfl, hown15, hbel15, hc18, hc19⟩
          have e1 : ofF [-1, 200] = [] := by decide
          rw [e1] at hown15 hc18
          rw [e1]
          have HB16 := Lib.hid (HB15.out.trans (hbel15.mono HB15.out.size))
          have hz16 := HB16.out.size
          clear hown15 hbel15 HX HB15 e1
          go_wp2_with fail
          refine (span_runs w15).mono ?_; rintro e w16 ⟨rfl, hbel16⟩
          have HB17 := Lib.hid (HB16.out.trans (hbel16.mono hz16))
          clear hbel16 HB16
          go_wp2_with fail
          go_ret
          exact ⟨rfl, HB1.out.trans (HB17.out.mono HB1.out.size)⟩
        · rw [if_pos hak, if_neg hbk] at HT1 HT2
          go_wp2_with fail
          refine (turns_any none _ 0 0 1 1 [] [(a, b)] k _ w11 nil_sees (HOW.out _ HB11.out) hz11 (by omega) (by omega)).mono ?_; rintro e w12 ⟨A12, c12, rfl, hown12, hbel12, hc12, hc13⟩
          rw [HT1.out] at hown12 hc12
          rw [HT1.out]
          have HB12 := Lib.hid (HB11.out.trans (hbel12.mono hz11))
          have HS12 := Lib.hid (Sees.of_own hown12)
          have hz12 := HB12.out.size
          clear hown12 hbel12 HB11 HT1
          go_wp2_with fail
          refine (turns_any _ none 1 1 0 0 [(a, b)] [] k _ w12 (HOW.out _ HB12.out) nil_sees hz12 (by omega) (by omega)).mono ?_; rintro e w13 ⟨A13, c14, rfl, hown13, hbel13, hc14, hc15⟩
          rw [HT2.out] at hown13 hc14
          rw [HT2.out]
          have HB13 := Lib.hid (HB12.out.trans (hbel13.mono hz12))
          have HS13 := Lib.hid (Sees.of_own hown13)
          have HS12b := Lib.hid (HS12.out.below hbel13)
          have hz13 := HB13.out.size
          have hz1213 := hbel13.size
          clear hown13 hbel13 HB12 HT2 HS12
          go_wp2_with fail
          refine (turns_any none none 0 0 0 0 [] [] k w1.heap.size w13 nil_sees nil_sees hz13 (by omega) (by omega)).mono ?_; rintro e w14 ⟨A14, c16, rfl, hown14, hbel14, hc16, hc17⟩
          rw [HT3.out] at hown14 hc16
          rw [HT3.out]
          have HB14 := Lib.hid (HB13.out.trans (hbel14.mono hz13))
          have HS13c := Lib.hid (HS13.out.below hbel14)
          have HS12c := Lib.hid (HS12b.out.below (hbel14.mono hz1213))
          have hz14 := HB14.out.size
          clear hown14 hbel14 HB13 HT3 HS12b HS13
          obtain ⟨adl, _, rfl, l0, l1, _⟩ := HS12c.out.turn (k := 0) (by simp)
          obtain ⟨adm, _, rfl, k0, k1, _⟩ := HS13c.out.turn (k := 0) (by simp)
          simp only [List.getElem_cons_zero, Nat.zero_mul, add_zero'] at l0 l1 k0 k1
          have hqa : (a == a) = true := by simp
          have HX := Lib.hid (show Sees (w14.alloc (.cells #[.int .i64 (-1), .int .i64 200] 3)) (w14.alloc (.cells #[.int .i64 (-1), .int .i64 200] 3)).heap.size 1 (some ⟨w14.heap.size, 0, none⟩) 2 (ints [-1, 200]) from lit_ints (w := w14) (t := 3) [-1, 200])
          have HB15 := Lib.hid (HB14.out.alloc hz14 (.cells #[.int .i64 (-1), .int .i64 200] 3))
          clear HS12c HS13c HB14
          go_wp2_with fail
          refine (of_any _ 2 2 [-1, 200] _ _ HX.out (Nat.le_refl _) (by omega)).mono ?_; rintro e w15 ⟨A15, c18, rfl, hown15, hbel15, hc18, hc19⟩
          have e1 : ofF [-1, 200] = [] := by decide
          rw [e1] at hown15 hc18
          rw [e1]
          have HB16 := Lib.hid (HB15.out.trans (hbel15.mono HB15.out.size))
          have hz16 := HB16.out.size
          clear hown15 hbel15 HX HB15 e1
          go_wp2_with fail
          refine (span_runs w15).mono ?_; rintro e w16 ⟨rfl, hbel16⟩
          have HB17 := Lib.hid (HB16.out.trans (hbel16.mono hz16))
          clear hbel16 HB16
          go_wp2_with fail
          go_ret
          exact ⟨rfl, HB1.out.trans (HB17.out.mono HB1.out.size)⟩
      · have hbk : ¬ b + 1 < k := by omega
        rw [if_neg hak] at HT1 HT2
        go_wp2_with fail
        refine (turns_any none _ 0 0 1 1 [] [(a, b)] k _ w11 nil_sees (HOW.out _ HB11.out) hz11 (by omega) (by omega)).mono ?_; rintro e w12 ⟨A12, c12, rfl, hown12, hbel12, hc12, hc13⟩
        rw [HT1.out] at hown12 hc12
        rw [HT1.out]
        have HB12 := Lib.hid (HB11.out.trans (hbel12.mono hz11))
        have HS12 := Lib.hid (Sees.of_own hown12)
        have hz12 := HB12.out.size
        clear hown12 hbel12 HB11 HT1
        go_wp2_with fail
        refine (turns_any _ none 1 1 0 0 [(a, b)] [] k _ w12 (HOW.out _ HB12.out) nil_sees hz12 (by omega) (by omega)).mono ?_; rintro e w13 ⟨A13, c14, rfl, hown13, hbel13, hc14, hc15⟩
        rw [HT2.out] at hown13 hc14
        rw [HT2.out]
        have HB13 := Lib.hid (HB12.out.trans (hbel13.mono hz12))
        have HS13 := Lib.hid (Sees.of_own hown13)
        have HS12b := Lib.hid (HS12.out.below hbel13)
        have hz13 := HB13.out.size
        have hz1213 := hbel13.size
        clear hown13 hbel13 HB12 HT2 HS12
        go_wp2_with fail
        refine (turns_any none none 0 0 0 0 [] [] k w1.heap.size w13 nil_sees nil_sees hz13 (by omega) (by omega)).mono ?_; rintro e w14 ⟨A14, c16, rfl, hown14, hbel14, hc16, hc17⟩
        rw [HT3.out] at hown14 hc16
        rw [HT3.out]
        have HB14 := Lib.hid (HB13.out.trans (hbel14.mono hz13))
        have HS13c := Lib.hid (HS13.out.below hbel14)
        have HS12c := Lib.hid (HS12b.out.below (hbel14.mono hz1213))
        have hz14 := HB14.out.size
        clear hown14 hbel14 HB13 HT3 HS12b HS13
        have HX := Lib.hid (show Sees (w14.alloc (.cells #[.int .i64 (-1), .int .i64 200] 3)) (w14.alloc (.cells #[.int .i64 (-1), .int .i64 200] 3)).heap.size 1 (some ⟨w14.heap.size, 0, none⟩) 2 (ints [-1, 200]) from lit_ints (w := w14) (t := 3) [-1, 200])
        have HB15 := Lib.hid (HB14.out.alloc hz14 (.cells #[.int .i64 (-1), .int .i64 200] 3))
        clear HS12c HS13c HB14
        go_wp2_with fail
        refine (of_any _ 2 2 [-1, 200] _ _ HX.out (Nat.le_refl _) (by omega)).mono ?_; rintro e w15 ⟨A15, c18, rfl, hown15, hbel15, hc18, hc19⟩
        have e1 : ofF [-1, 200] = [] := by decide
        rw [e1] at hown15 hc18
        rw [e1]
        have HB16 := Lib.hid (HB15.out.trans (hbel15.mono HB15.out.size))
        have hz16 := HB16.out.size
        clear hown15 hbel15 HX HB15 e1
        go_wp2_with fail
        refine (span_runs w15).mono ?_; rintro e w16 ⟨rfl, hbel16⟩
        have HB17 := Lib.hid (HB16.out.trans (hbel16.mono hz16))
        clear hbel16 HB16
        go_wp2_with fail
        go_ret
        exact ⟨rfl, HB1.out.trans (HB17.out.mono HB1.out.size)⟩
end Go.Proofs.Ytakgkggkfdbejaa
