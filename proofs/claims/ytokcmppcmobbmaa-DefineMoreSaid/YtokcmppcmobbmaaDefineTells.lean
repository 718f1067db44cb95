/- The walks of DefineTells and DefineLife, out of the contracts. -/
import Derived.Test.YtokcmppcmobbmaaDefineRuns
namespace Go.Proofs.Ytokcmppcmobbmaa
open Go.ChangeShapes Go.WideShapes Go.ChangeAt Go.RowKit
set_option linter.unusedVariables false
set_option maxRecDepth 100000
theorem row_of (zs : List Int) : ∃ r : Nat → Int, (∀ i (h : i < zs.length), r i = cls (nWithin zs[i] 0 8)) ∧ ∀ i, r i = 0 ∨ r i = 1 ∨ r i = 2 :=
  ⟨fun i => cls (nWithin (zs.getD i 0) 0 8), fun i h => by show cls (nWithin (zs.getD i 0) 0 8) = _; rw [List.getD_eq_getElem?_getD, List.getElem?_eq_getElem h]; rfl, fun i => cls_three _⟩
set_option maxHeartbeats 2000000 in
theorem define_tells (A : Option Addr) (n c : Nat) (s0 f0 k0 : Int) (zs : List Int) (w : World) (hl : Sees w w.heap.size 1 A n (ints zs)) (hz : ∀ z ∈ zs, I64 z) (hn : n ≤ 9223372036854775807) (ws : I64 s0) (wf : I64 f0) (wk : I64 k0) :
    Calls Try.prog 5 #[.slice A n c, .int .i64 s0, .int .i64 f0, .int .i64 k0] w fun e w' => e = .returned (.bool true) ∧ Below w.heap.size w w' := by
  obtain ⟨r, hr, hr3⟩ := row_of zs
  have HROW := Lib.hid (row_any A n c zs r w hl hz hn hr); clear hl hz hr hr3
  have hm24 : min n 24 ≤ 24 := Nat.min_le_right _ _
  generalize min n 24 = m at *
  obtain ⟨hs1, hs2⟩ := nWithin_in s0 (lo := 1) (hi := 9) (by omega)
  obtain ⟨hf1, hf2⟩ := nWithin_in f0 (lo := 0) (hi := 40) (by omega)
  obtain ⟨hk1, hk2⟩ := nWithin_in k0 (lo := 0) (hi := 40) (by omega)
  have WS := Lib.hid ws; have WF := Lib.hid wf; have WK := Lib.hid wk; clear ws wf wk
  go_enter Try.func5, Try.ntmps5
  go_wp2_with fail
  refine HROW.out.mono ?_; rintro e w1 ⟨A1, c1, rfl, hown, hbel, hc1, hc2⟩
  have HRD := Lib.hid (Reads.of_own hown); have HB := Lib.hid hbel; clear hown hbel HROW
  have hs1' := HB.out.size
  go_wp2_with fail
  refine (within_any s0 1 9 _ WS.out (by omega) (by omega) (by omega)).mono ?_; rintro e w' ⟨rfl, rfl⟩
  go_wp2_with fail
  refine (within_any f0 0 40 _ WF.out (by omega) (by omega) (by omega)).mono ?_; rintro e w' ⟨rfl, rfl⟩
  go_wp2_with fail
  refine (within_any k0 0 40 _ WK.out (by omega) (by omega) (by omega)).mono ?_; rintro e w' ⟨rfl, rfl⟩
  generalize nWithin s0 1 9 = s at *
  generalize nWithin f0 0 40 = f at *
  generalize nWithin k0 0 40 = q at *
  clear WS WF WK
  go_wp2_with fail
  go_loop [24] (fun i => ∃ j : Nat, j ≤ m ∧ i = .int .i64 j) (fun i => m - (intOf i).toNat)
  case atStart => exact ⟨0, Nat.zero_le _, rfl⟩
  case round =>
    obtain ⟨j, hj, rfl⟩ := hrel
    by_cases hlt : j < m
    · obtain ⟨qf, hqf⟩ := bool_of (Fires r s f q (j + 1))
      obtain ⟨qs, hqs⟩ := state_of r s f q (j + 1)
      have HQF := Lib.hid hqf; have HQS := Lib.hid hqs; clear hqf hqs
      have hne : (qf != qf) = false := by simp
      have hne2 : (qs != qs) = false := by simp
      go_wp2_with fail
      refine (ans_is HQF.out (dfires_any A1 m c1 s f q r _ _ HRD.out (by omega) (by omega) (by omega) (by omega) (by omega) (by unfold I64; omega) (by unfold I64; omega) j hlt)).mono ?_; rintro e w' ⟨rfl, rfl⟩
      go_wp2_with fail
      refine (ans_is HQF.out (fires_any A1 m c1 s f q r _ (by omega) (by omega) (by omega) j _ HRD.out hlt)).mono ?_; rintro e w' ⟨rfl, rfl⟩
      go_wp2_with fail
      refine (stateAns_is HQS.out (dstate_any A1 m c1 s f q r _ _ HRD.out (by omega) (by omega) (by omega) (by omega) (by omega) (by unfold I64; omega) (by unfold I64; omega) j hlt)).mono ?_; rintro e w' ⟨rfl, rfl⟩
      go_wp2_with fail
      refine (stateAns_is HQS.out (state_any A1 m c1 s f q r _ (by omega) (by omega) (by omega) j _ HRD.out hlt)).mono ?_; rintro e w' ⟨rfl, rfl⟩
      go_wp2_with fail
      go_round
      case rel => exact ⟨j + 1, by omega, by go_num⟩
      case measure => simp [intOf]; omega
    · obtain rfl : j = m := by omega
      go_wp2_with fail
      refine (define_runs _).mono ?_; rintro e w4 ⟨rfl, hbel⟩
      have HB4 := Lib.hid (HB.out.trans (hbel.mono (by omega))); clear hbel
      go_wp2_with fail
      go_ret
      exact ⟨rfl, HB4.out⟩
def lfCells (l : Lf) : List Value := [.int .i64 l.st, .int .i64 l.since, .int .i64 l.last]
theorem life_set {w w1 w2 : World} {base : Nat} {t : TypeId} {a b c : Value} {s' i' a' : Int} (h2 : Below w1.heap.size w1 w2) (hk : Blk w1 base t [a, b, c]) (hb : Below base w w1) :
    Blk (((w2.setCell ⟨base, 0, none⟩ (.int .i64 s')).setCell ⟨base, 1, none⟩ (.int .i64 i')).setCell ⟨base, 2, none⟩ (.int .i64 a')) base t [.int .i64 s', .int .i64 i', .int .i64 a'] ∧
    Below base w (((w2.setCell ⟨base, 0, none⟩ (.int .i64 s')).setCell ⟨base, 1, none⟩ (.int .i64 i')).setCell ⟨base, 2, none⟩ (.int .i64 a')) := by
  have hlt := hk.lt
  refine ⟨(((hk.below h2 hlt).set 0 _).set 1 _).set 2 _, ?_⟩
  exact Below.setCell (Below.setCell (Below.setCell (hb.trans (h2.mono (Nat.le_of_lt hlt))) (Nat.le_refl _) _) (Nat.le_refl _) _) (Nat.le_refl _) _
set_option maxHeartbeats 2000000 in
theorem define_life (A : Option Addr) (n c : Nat) (s0 f0 k0 : Int) (zs : List Int) (w : World) (hl : Sees w w.heap.size 1 A n (ints zs)) (hz : ∀ z ∈ zs, I64 z) (hn : n ≤ 9223372036854775807) (ws : I64 s0) (wf : I64 f0) (wk : I64 k0) :
    Calls Try.prog 6 #[.slice A n c, .int .i64 s0, .int .i64 f0, .int .i64 k0] w fun e w' => e = .returned (.bool true) ∧ Below w.heap.size w w' := by
  obtain ⟨r, hr, hr3⟩ := row_of zs
  have HR3 := Lib.hid hr3
  have HROW := Lib.hid (row_any A n c zs r w hl hz hn hr); clear hl hz hr hr3
  have hm24 : min n 24 ≤ 24 := Nat.min_le_right _ _
  generalize min n 24 = m at *
  obtain ⟨hs1, hs2⟩ := nWithin_in s0 (lo := 1) (hi := 9) (by omega)
  obtain ⟨hf1, hf2⟩ := nWithin_in f0 (lo := 0) (hi := 40) (by omega)
  obtain ⟨hk1, hk2⟩ := nWithin_in k0 (lo := 0) (hi := 40) (by omega)
  have WS := Lib.hid ws; have WF := Lib.hid wf; have WK := Lib.hid wk; clear ws wf wk
  go_enter Try.func6, Try.ntmps6
  go_wp2_with fail
  refine HROW.out.mono ?_; rintro e w1 ⟨A1, c1, rfl, hown, hbel, hc1, hc2⟩
  have HRD := Lib.hid (Reads.of_own hown); have HB := Lib.hid hbel; clear hown hbel HROW
  have hs1' := HB.out.size
  go_wp2_with fail
  refine (within_any s0 1 9 _ WS.out (by omega) (by omega) (by omega)).mono ?_; rintro e w' ⟨rfl, rfl⟩
  go_wp2_with fail
  refine (within_any f0 0 40 _ WF.out (by omega) (by omega) (by omega)).mono ?_; rintro e w' ⟨rfl, rfl⟩
  go_wp2_with fail
  refine (within_any k0 0 40 _ WK.out (by omega) (by omega) (by omega)).mono ?_; rintro e w' ⟨rfl, rfl⟩
  generalize nWithin s0 1 9 = s at *
  generalize nWithin f0 0 40 = f at *
  generalize nWithin k0 0 40 = q at *
  clear WS WF WK
  go_wp2_with fail
  go_loopw [26] (fun i wr => ∃ (k : Nat) (L : Lf), k ≤ m ∧ i = .int .i64 k ∧ Blk wr w1.heap.size 26 (lfCells L) ∧ Tells r s f q k L ∧ L.ok ∧ Below w1.heap.size w1 wr) (fun i _ => m - (intOf i).toNat)
  case atStart => exact ⟨0, .zero, Nat.zero_le _, rfl, Blk.mk (heap_alloc_new w1 _), tells_zero r s f q, ⟨⟨by simp [Lf.zero], by simp [Lf.zero]⟩, by simp [Lf.zero], by simp [Lf.zero]⟩, (Below.refl _ _).alloc (Nat.le_refl _) _⟩
  case round =>
    obtain ⟨k, L, hk, rfl, hblk, htell, hok, hbel⟩ := hrel
    have hgl := hblk.lt
    have HBW := Lib.hid hbel; have HBK := Lib.hid hblk; have HT := Lib.hid htell; have HOK := Lib.hid hok; clear hbel hblk htell hok
    by_cases hlt : k < m
    · obtain ⟨ad, rfl, hc⟩ := (HRD.out.below HBW.out).row hlt
      have HRC := Lib.hid (HR3.out k)
      generalize hrk : r k = rk at *
      have HRK := Lib.hid hrk; clear hrk
      obtain ⟨qf, hqf⟩ := bool_of (Fires r s f q (k + 1))
      have HQF := Lib.hid hqf; clear hqf
      have hc0 : wr.cell? ⟨w1.heap.size, 0, none⟩ = some (.int .i64 L.st) := HBK.out.cell 0
      have hc1' : wr.cell? ⟨w1.heap.size, 1, none⟩ = some (.int .i64 L.since) := HBK.out.cell 1
      have hc2' : wr.cell? ⟨w1.heap.size, 2, none⟩ = some (.int .i64 L.last) := HBK.out.cell 2
      rcases HRC.out with hw | hw | hw
      · subst hw
        have HT2 := Lib.hid (tells_not (s := s) (f := f) (k := q) (by omega) (by omega) HT.out HRK.out)
        have HC := Lib.hid fun w => next_any L k s f q false w HOK.out ⟨by omega, by omega⟩ (by unfold I64; omega) (by unfold I64; omega) (by unfold I64; omega)
        have HOK2 := Lib.hid (next_ok (step := s) (long := f) (keep := q) (holds := false) HOK.out (show Tk (k : Int) from ⟨by omega, by omega⟩))
        generalize L.next k s f q false = L2 at *
        have HDS := Lib.hid fun (W : World) (h : Reads W w1.heap.size (some ad) m r) => stateAns_is HT2.out.state (dstate_any (some ad) m c1 s f q r _ W h (by omega) (by omega) (by omega) (by omega) (by omega) (by unfold I64; omega) (by unfold I64; omega) k hlt)
        have HDF := Lib.hid fun (W : World) (h : Reads W w1.heap.size (some ad) m r) => ans_is HQF.out (dfires_any (some ad) m c1 s f q r _ W h (by omega) (by omega) (by omega) (by omega) (by omega) (by unfold I64; omega) (by unfold I64; omega) k hlt)
        have h2 := HT2.out.fires
        obtain ⟨s', i', a'⟩ := L2
        simp only [Lf.val] at *
        have hq2 : qf = (s' == 2) := by rw [Bool.eq_iff_iff, HQF.out, ← h2]; simp
        have HQ2 := Lib.hid hq2; clear hq2 h2
        go_wp2_with fail
        refine (HC.out _).mono ?_; rintro e w2 ⟨rfl, hb2⟩
        have hbk2 := HBK.out.below hb2 HBK.out.lt
        have hd0 : w2.cell? ⟨w1.heap.size, 0, none⟩ = some (.int .i64 L.st) := hbk2.cell 0
        have hd1 : w2.cell? ⟨w1.heap.size, 1, none⟩ = some (.int .i64 L.since) := hbk2.cell 1
        have hd2 : w2.cell? ⟨w1.heap.size, 2, none⟩ = some (.int .i64 L.last) := hbk2.cell 2
        have hfz : ∀ x, w2.frozen? ⟨w1.heap.size, x, none⟩ = false := fun x => hbk2.frozen x
        have hgl2 := hbk2.lt
        have hset := life_set (s' := s') (i' := i') (a' := a') hb2 HBK.out HBW.out
        have HSET := Lib.hid hset
        clear hbk2 hb2 hset hc0 hc1' hc2'
        go_wp2_with fail
        have HSX := HSET
        clear hd0 hd1 hd2 hfz hgl2 HBW HBK
        generalize (((w2.setCell ⟨w1.heap.size, 0, none⟩ (.int .i64 s')).setCell ⟨w1.heap.size, 1, none⟩ (.int .i64 i')).setCell ⟨w1.heap.size, 2, none⟩ (.int .i64 a')) = W at *
        have hc0 : W.cell? ⟨w1.heap.size, 0, none⟩ = some (.int .i64 s') := HSX.out.1.cell 0
        have HRW := Lib.hid (HRD.out.below HSX.out.2)
        have hne : (s' != s') = false := by simp
        by_cases hs2' : s' = 2
        · subst hs2'
          have hqt : qf = true := by rw [HQ2.out]; rfl
          subst hqt
          go_quiet ((first | (go_at_call 13; exact calls_quiet (HDS.out _ (HRW.out.drewN _))) | (go_at_call 12; exact calls_quiet (HDF.out _ (HRW.out.drewN _)))))
          go_wp2_with fail
          go_roundw
          case rel => exact ⟨k + 1, ⟨2, i', a'⟩, by omega, by go_num, HSX.out.1.drewN _, HT2.out, HOK2.out, below_drewN' HSX.out.2 _⟩
          case measure => simp [intOf]; omega
        · have h2b : (s' == 2) = false := by simpa using hs2'
          have hqt : qf = false := by rw [HQ2.out]; exact h2b
          subst hqt
          clear hs2'
          go_quiet ((first | (go_at_call 13; exact calls_quiet (HDS.out _ (HRW.out.drewN _))) | (go_at_call 12; exact calls_quiet (HDF.out _ (HRW.out.drewN _)))))
          go_wp2_with fail
          go_roundw
          case rel => exact ⟨k + 1, ⟨s', i', a'⟩, by omega, by go_num, HSX.out.1.drewN _, HT2.out, HOK2.out, below_drewN' HSX.out.2 _⟩
          case measure => simp [intOf]; omega
      · subst hw
        have HT2 := Lib.hid (tells_hold (s := s) (f := f) (k := q) (by omega) (by omega) (by omega) HT.out HRK.out)
        have HC := Lib.hid fun w => next_any L k s f q true w HOK.out ⟨by omega, by omega⟩ (by unfold I64; omega) (by unfold I64; omega) (by unfold I64; omega)
        have HOK2 := Lib.hid (next_ok (step := s) (long := f) (keep := q) (holds := true) HOK.out (show Tk (k : Int) from ⟨by omega, by omega⟩))
        generalize L.next k s f q true = L2 at *
        have HDS := Lib.hid fun (W : World) (h : Reads W w1.heap.size (some ad) m r) => stateAns_is HT2.out.state (dstate_any (some ad) m c1 s f q r _ W h (by omega) (by omega) (by omega) (by omega) (by omega) (by unfold I64; omega) (by unfold I64; omega) k hlt)
        have HDF := Lib.hid fun (W : World) (h : Reads W w1.heap.size (some ad) m r) => ans_is HQF.out (dfires_any (some ad) m c1 s f q r _ W h (by omega) (by omega) (by omega) (by omega) (by omega) (by unfold I64; omega) (by unfold I64; omega) k hlt)
        have h2 := HT2.out.fires
        obtain ⟨s', i', a'⟩ := L2
        simp only [Lf.val] at *
        have hq2 : qf = (s' == 2) := by rw [Bool.eq_iff_iff, HQF.out, ← h2]; simp
        have HQ2 := Lib.hid hq2; clear hq2 h2
        go_wp2_with fail
        refine (HC.out _).mono ?_; rintro e w2 ⟨rfl, hb2⟩
        have hbk2 := HBK.out.below hb2 HBK.out.lt
        have hd0 : w2.cell? ⟨w1.heap.size, 0, none⟩ = some (.int .i64 L.st) := hbk2.cell 0
        have hd1 : w2.cell? ⟨w1.heap.size, 1, none⟩ = some (.int .i64 L.since) := hbk2.cell 1
        have hd2 : w2.cell? ⟨w1.heap.size, 2, none⟩ = some (.int .i64 L.last) := hbk2.cell 2
        have hfz : ∀ x, w2.frozen? ⟨w1.heap.size, x, none⟩ = false := fun x => hbk2.frozen x
        have hgl2 := hbk2.lt
        have hset := life_set (s' := s') (i' := i') (a' := a') hb2 HBK.out HBW.out
        have HSET := Lib.hid hset
        clear hbk2 hb2 hset hc0 hc1' hc2'
        go_wp2_with fail
        have HSX := HSET
        clear hd0 hd1 hd2 hfz hgl2 HBW HBK
        generalize (((w2.setCell ⟨w1.heap.size, 0, none⟩ (.int .i64 s')).setCell ⟨w1.heap.size, 1, none⟩ (.int .i64 i')).setCell ⟨w1.heap.size, 2, none⟩ (.int .i64 a')) = W at *
        have hc0 : W.cell? ⟨w1.heap.size, 0, none⟩ = some (.int .i64 s') := HSX.out.1.cell 0
        have HRW := Lib.hid (HRD.out.below HSX.out.2)
        have hne : (s' != s') = false := by simp
        by_cases hs2' : s' = 2
        · subst hs2'
          have hqt : qf = true := by rw [HQ2.out]; rfl
          subst hqt
          go_quiet ((first | (go_at_call 13; exact calls_quiet (HDS.out _ (HRW.out.drewN _))) | (go_at_call 12; exact calls_quiet (HDF.out _ (HRW.out.drewN _)))))
          go_wp2_with fail
          go_roundw
          case rel => exact ⟨k + 1, ⟨2, i', a'⟩, by omega, by go_num, HSX.out.1.drewN _, HT2.out, HOK2.out, below_drewN' HSX.out.2 _⟩
          case measure => simp [intOf]; omega
        · have h2b : (s' == 2) = false := by simpa using hs2'
          have hqt : qf = false := by rw [HQ2.out]; exact h2b
          subst hqt
          clear hs2'
          go_quiet ((first | (go_at_call 13; exact calls_quiet (HDS.out _ (HRW.out.drewN _))) | (go_at_call 12; exact calls_quiet (HDF.out _ (HRW.out.drewN _)))))
          go_wp2_with fail
          go_roundw
          case rel => exact ⟨k + 1, ⟨s', i', a'⟩, by omega, by go_num, HSX.out.1.drewN _, HT2.out, HOK2.out, below_drewN' HSX.out.2 _⟩
          case measure => simp [intOf]; omega
      · subst hw
        have HT2 := Lib.hid (tells_err HT.out HRK.out)
        have HDS := Lib.hid fun (W : World) (h : Reads W w1.heap.size (some ad) m r) => stateAns_is HT2.out.state (dstate_any (some ad) m c1 s f q r _ W h (by omega) (by omega) (by omega) (by omega) (by omega) (by unfold I64; omega) (by unfold I64; omega) k hlt)
        have HDF := Lib.hid fun (W : World) (h : Reads W w1.heap.size (some ad) m r) => ans_is HQF.out (dfires_any (some ad) m c1 s f q r _ W h (by omega) (by omega) (by omega) (by omega) (by omega) (by unfold I64; omega) (by unfold I64; omega) k hlt)
        have HRW := Lib.hid (HRD.out.below HBW.out)
        have h2 := HT2.out.fires
        obtain ⟨s', i', a'⟩ := L
        simp only [lfCells] at *
        have hne : (s' != s') = false := by simp
        have hq2 : qf = (s' == 2) := by rw [Bool.eq_iff_iff, HQF.out, ← h2]; simp
        have HQ2 := Lib.hid hq2; clear hq2 h2
        by_cases hs2' : s' = 2
        · subst hs2'
          have hqt : qf = true := by rw [HQ2.out]; rfl
          subst hqt
          go_wp2_with fail
          go_quiet ((first | (go_at_call 13; exact calls_quiet (HDS.out _ (HRW.out.drewN _))) | (go_at_call 12; exact calls_quiet (HDF.out _ (HRW.out.drewN _)))))
          go_wp2_with fail
          go_roundw
          case rel => exact ⟨k + 1, ⟨2, i', a'⟩, by omega, by go_num, HBK.out.drewN _, HT2.out, HOK.out, below_drewN' HBW.out _⟩
          case measure => simp [intOf]; omega
        · have h2b : (s' == 2) = false := by simpa using hs2'
          have hqt : qf = false := by rw [HQ2.out]; exact h2b
          subst hqt
          clear hs2'
          go_wp2_with fail
          go_quiet ((first | (go_at_call 13; exact calls_quiet (HDS.out _ (HRW.out.drewN _))) | (go_at_call 12; exact calls_quiet (HDF.out _ (HRW.out.drewN _)))))
          go_wp2_with fail
          go_roundw
          case rel => exact ⟨k + 1, ⟨s', i', a'⟩, by omega, by go_num, HBK.out.drewN _, HT2.out, HOK.out, below_drewN' HBW.out _⟩
          case measure => simp [intOf]; omega
    · obtain rfl : k = m := by omega
      go_wp2_with fail
      refine (define_runs _).mono ?_; rintro e w4 ⟨rfl, hbel⟩
      have hsw := HBW.out.size
      have HB4 := Lib.hid ((HB.out.trans (HBW.out.mono (by omega))).trans (hbel.mono (by omega))); clear hbel
      go_wp2_with fail
      go_ret
      exact ⟨rfl, HB4.out⟩
end Go.Proofs.Ytokcmppcmobbmaa
