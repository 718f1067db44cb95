/- The walk of LifeParts, out of the contracts. -/
import Derived.Test.YtecdhcmahmbohaaLifeScales
import Derived.Test.YtecdhcmahmbohaaLifeSim
namespace Go.Proofs.Ytecdhcmahmbohaa
open Go.ChangeShapes Go.WideShapes Go.ChangeAt Go.RowKit
set_option linter.unusedVariables false
set_option maxRecDepth 100000

/-- An alert behind the first ticks of a row. -/
def lifeTo (s f k : Int) : Lf → Int → List Bool → Lf
  | l, _, [] => l
  | l, t, h :: hs => lifeTo s f k (l.next t s f k h) (t + 1) hs
theorem lifeTo_snoc (s f k : Int) (l : Lf) (t : Int) (hs : List Bool) (h : Bool) : lifeTo s f k l t (hs ++ [h]) = (lifeTo s f k l t hs).next (t + hs.length) s f k h := by
  induction hs generalizing l t with
  | nil => simp [lifeTo]
  | cons x xs ih => simp only [List.cons_append, lifeTo]; rw [ih, List.length_cons]; congr 1; omega
theorem lifeTo_take {s f k : Int} {hs : List Bool} {j : Nat} (hj : j < hs.length) : lifeTo s f k .zero 0 (hs.take (j + 1)) = (lifeTo s f k .zero 0 (hs.take j)).next j s f k hs[j] := by
  rw [List.take_succ_eq_append_getElem hj, lifeTo_snoc, List.length_take]
  congr 1; omega
theorem run_get {s f k : Int} (l : Lf) (t : Int) (hs : List Bool) (j : Nat) (h : j < (lifeRun s f k l t hs).length) : (lifeRun s f k l t hs)[j] = (lifeTo s f k l t (hs.take (j + 1))).st := by
  induction hs generalizing l t j with
  | nil => simp [lifeRun] at h
  | cons x xs ih =>
    cases j with
    | zero => simp [lifeRun, lifeTo]
    | succ j => simp only [lifeRun, List.getElem_cons_succ, List.take_succ_cons, lifeTo]; exact ih _ _ _ _
theorem lifeTo_three (s f k : Int) (l : Lf) (t : Int) (hs : List Bool) (hl : Three l) : Three (lifeTo s f k l t hs) := by
  induction hs generalizing l t with
  | nil => exact hl
  | cons x xs ih => exact ih _ _ (next_three x hl).1
/-- What is asked of an alert behind a gap. -/
theorem far_asks {l : Lf} {t s f k : Int} (hl : Three l) :
    ((l.next t s f k true).st ≠ 0 ∧ (l.st = 2 → (l.next t s f k true).st = 2)) ∧ ((l.next t s f k false).st ≠ 1) ∧ (l.st ≠ 2 → l.next t s f k false = .zero) := by
  refine ⟨⟨(next_three true hl).2 rfl, fun h => ?_⟩, ?_, fun h => ?_⟩
  · unfold Lf.next Lf.held; simp [h]
  · unfold Lf.next
    simp only [Bool.false_eq_true, if_false]
    split
    · rename_i h; rw [h.1]; omega
    · simp [Lf.zero]
  · unfold Lf.next; simp [h]
def lfCells (l : Lf) : List Value := [.int .i64 l.st, .int .i64 l.since, .int .i64 l.last]

/-- One step of an alert that lies in a block of its own. -/
theorem step_block {w w1 : World} {g : Nat} {t : TypeId} {l : Lf} {s' i' a' : Int} (hb : Blk w g t (lfCells l)) (h1 : Below w.heap.size w w1) :
    Blk (((w1.setCell ⟨g, 0, none⟩ (.int .i64 s')).setCell ⟨g, 1, none⟩ (.int .i64 i')).setCell ⟨g, 2, none⟩ (.int .i64 a')) g t [.int .i64 s', .int .i64 i', .int .i64 a'] :=
  (((hb.below h1 hb.lt).set 0 _).set 1 _).set 2 _

set_option maxHeartbeats 4000000 in
theorem parts_walk (A : Option Addr) (n c k : Nat) (s0 f0 k0 m0 g0 : Int) (zs : List Bool) (w : World) (hl : Sees w w.heap.size 1 A n (bools zs)) (hnc : n ≤ c) (hn : c ≤ 9223372036854775807)
    (wd : I64 s0) (wf : I64 f0) (wk : I64 k0) (wm : I64 m0) (wg : I64 g0) (hk : min (n : Int) 30 = k) (hk2 : k ≤ n) (hk3 : k ≤ 30) :
    Calls Try.prog 7 #[.slice A n c, .int .i64 s0, .int .i64 f0, .int .i64 k0, .int .i64 m0, .int .i64 g0] w fun e w' => e = .returned (.bool true) ∧ Below w.heap.size w w' := by
  obtain ⟨i0, hi, hz0, hz1, hz2⟩ := info_parts Try.infoBool
  have ht := hl.take hk2
  rw [Nat.mul_one, bools_take] at ht
  have HT := Lib.hid ht; clear hl ht
  have HL : Hid ((zs.take k).length = k) := HT.out.bool_len
  generalize zs.take k = l at *
  go_enter Try.func7, Try.ntmps7
  go_upto_region 1 with fail
  go_cut [13] (fun v wx => wx.ownsRow w.heap.size 4 1 v k (bools l) ∧ Below w.heap.size w wx)
  case first =>
    have hown0 : (w.alloc (.cells #[] 4)).ownsRow w.heap.size 4 1 (.slice (some ⟨w.heap.size, 0, none⟩) 0 0) 0 [] := World.ownsRow_made w #[] 0 (Nat.le_refl _) (by unfold maxLen; omega) rfl
    have HO := Lib.hid hown0; clear hown0
    by_cases h20 : n ≤ 30
    · obtain rfl : k = n := by omega
      clear hk
      go_wp2_with (at_builtin; refine wpList_append_sees rfl (.tmp 26) (.tmp 31) 35 rfl w.heap.size 4 i0 (.bool false) 1 1 Try.underlying35 hi hz0 hz1 hz2 rfl (by decide) _ 0 [] rfl HO.out w.heap.size A k _ (bools l) rfl (HT.out.alloc (Nat.le_refl _) _) (bools_one _) (by unfold maxLen; omega) (by omega) (by simp) ?_)
      intro v' w1 hown hg
      have hb := ((Below.refl w.heap.size w).alloc (Nat.le_refl _) _).grown hg (by simp) (by simp [Value.ownBlock])
      have H1 := Lib.hid hown; have H2 := Lib.hid hb; clear hown hb hg
      go_wp2
      go_meet
      exact ⟨H1.out, H2.out⟩
    · obtain rfl : k = 30 := by omega
      clear hk
      go_wp2_with (at_builtin; refine wpList_append_sees rfl (.tmp 26) (.tmp 31) 35 rfl w.heap.size 4 i0 (.bool false) 1 1 Try.underlying35 hi hz0 hz1 hz2 rfl (by decide) _ 0 [] rfl HO.out w.heap.size A 30 _ (bools l) rfl (HT.out.alloc (Nat.le_refl _) _) (bools_one _) (by unfold maxLen; omega) (by omega) (by simp) ?_)
      intro v' w1 hown hg
      have hb := ((Below.refl w.heap.size w).alloc (Nat.le_refl _) _).grown hg (by simp) (by simp [Value.ownBlock])
      have H1 := Lib.hid hown; have H2 := Lib.hid hb; clear hown hb hg
      go_wp2
      go_meet
      exact ⟨H1.out, H2.out⟩
  case rest =>
    obtain ⟨hown, hbel⟩ := hcut
    clear hk hk2

    clear hnc hn HT
    obtain ⟨A1, c1, rfl, hc1, hc2⟩ := own_slice hown
    have HS1 := Lib.hid (Sees.of_own hown)
    have HB1 := Lib.hid hbel
    have hcs := hbel.size
    clear hown hbel
    obtain ⟨hs1, hs2⟩ := nWithin_in s0 (lo := 1) (hi := 9) (by omega)
    obtain ⟨hf1, hf2⟩ := nWithin_in f0 (lo := 0) (hi := 40) (by omega)
    obtain ⟨hk1, hk2⟩ := nWithin_in k0 (lo := 0) (hi := 40) (by omega)
    obtain ⟨hm1, hm2⟩ := nWithin_in m0 (lo := 0) (hi := (k : Int)) (by omega)
    go_wp2_with fail
    refine (within_any s0 1 9 _ wd (by omega) (by omega) (by omega)).mono ?_; rintro e w' ⟨rfl, rfl⟩
    go_wp2_with fail
    refine (within_any f0 0 40 _ wf (by omega) (by omega) (by omega)).mono ?_; rintro e w' ⟨rfl, rfl⟩
    go_wp2_with fail
    refine (within_any k0 0 40 _ wk (by omega) (by omega) (by omega)).mono ?_; rintro e w' ⟨rfl, rfl⟩
    go_wp2_with fail
    refine (within_any m0 0 k _ wm (by omega) (by omega) (by omega)).mono ?_; rintro e w' ⟨rfl, rfl⟩
    generalize nWithin s0 1 9 = s at *
    generalize nWithin f0 0 40 = f at *
    generalize nWithin k0 0 40 = q at *
    generalize nWithin m0 0 k = m at *
    obtain ⟨m, rfl⟩ := Int.eq_ofNat_of_zero_le hm1
    have hmk : m ≤ k := by omega
    clear wd wf wk wm hm1 hm2
    go_wp2_with fail
    refine (run_any s f q A1 k c1 l _ wc HS1.out (Nat.le_refl _) (by unfold I64; omega) (by unfold I64; omega) (by unfold I64; omega) (by omega)).mono ?_; rintro e w2 ⟨v2, rfl, hown2, hbel2⟩
    obtain ⟨A2, c2, rfl, hc3, hc4⟩ := own_slice hown2
    have hcs2 := hbel2.size
    have HS2 := Lib.hid ((HS1.out.below hbel2).more hcs2)
    have HR2 := Lib.hid (Sees.of_own hown2)
    have HB2 := Lib.hid (HB1.out.trans (hbel2.mono hcs)); clear hown2 hbel2 HS1 HB1
    have HRG := Lib.hid (fun (j : Nat) h => run_get (s := s) (f := f) (k := q) .zero 0 l j h)
    go_wp2_with fail
    go_loopw [20] (fun i wr => ∃ j : Nat, j ≤ m ∧ i = .int .i64 j ∧ Blk wr w2.heap.size 31 (lfCells (lifeTo s f q .zero 0 (l.take j))) ∧ Below w2.heap.size w2 wr ∧ (lifeTo s f q .zero 0 (l.take j)).ok) (fun i _ => m - (intOf i).toNat)
    case atStart => exact ⟨0, Nat.zero_le _, rfl, Blk.mk (heap_alloc_new w2 _), (Below.refl _ _).alloc (Nat.le_refl _) _, ⟨⟨by simp [Lf.zero, lifeTo], by simp [Lf.zero, lifeTo]⟩, by simp [Lf.zero, lifeTo], by simp [Lf.zero, lifeTo]⟩⟩
    case round =>
      obtain ⟨j, hj, rfl, hblk, hbel, hok⟩ := hrel
      have HBK := Lib.hid hblk; have HBL := Lib.hid hbel; have HOK := Lib.hid hok
      have hg := hblk.lt
      clear hblk hbel hok
      by_cases hlt : j < m
      · have hjl : j < l.length := by have := HL.out; omega
        have hst := Lib.hid (lifeTo_take (s := s) (f := f) (k := q) hjl)
        generalize lifeTo s f q .zero 0 (l.take j) = L at *
        obtain ⟨ad, hjl', rfl, hc⟩ := (HS2.out.below HBL.out).bool (show j < k by omega)
        generalize l[j] = b at *
        have HC := Lib.hid fun w => next_any L j s f q b w HOK.out ⟨by omega, by omega⟩ (by unfold I64; omega) (by unfold I64; omega) (by unfold I64; omega)
        have HN := Lib.hid (next_ok (step := s) (long := f) (keep := q) (holds := b) HOK.out (show Tk (j : Int) from ⟨by omega, by omega⟩))
        generalize L.next j s f q b = r at *
        have hc0 : wr.cell? ⟨w2.heap.size, 0, none⟩ = some (.int .i64 L.st) := HBK.out.cell 0
        have hc1' : wr.cell? ⟨w2.heap.size, 1, none⟩ = some (.int .i64 L.since) := HBK.out.cell 1
        have hc2' : wr.cell? ⟨w2.heap.size, 2, none⟩ = some (.int .i64 L.last) := HBK.out.cell 2
        have hfz : ∀ x, wr.frozen? ⟨w2.heap.size, x, none⟩ = false := fun x => HBK.out.frozen x
        obtain ⟨s', i', a'⟩ := r
        simp only [Lf.val] at *
        go_wp2_with fail
        go_region_with (go_at_call 13; refine (HC.out _).mono ?_; rintro e w1 ⟨rfl, hb1⟩; obtain ⟨hcell, hfroz⟩ := bcell hb1; simp at hcell hfroz)
        all_goals
          have HB1 := Lib.hid hb1; clear hb1 hcell hfroz
          go_wp2_with fail
          go_roundw
          case rel =>
            refine ⟨j + 1, by omega, by go_num, ?_, ?_, ?_⟩
            · rw [hst.out]; refine step_block (l := L) ?_ HB1.out; exact HBK.out
            · refine Below.setCell (Below.setCell (Below.setCell (Below.trans ?_ (HB1.out.mono (Nat.le_of_lt hg))) (Nat.le_refl _) _) (Nat.le_refl _) _) (Nat.le_refl _) _
              repeat (first | exact HBL.out | refine Below.drew ?_)
            · rw [hst.out]; exact HN.out
          case measure => simp [intOf]; omega
      · obtain rfl : j = m := by omega
        have h3 := lifeTo_three s f q .zero 0 (l.take j) (.inl rfl)
        have H3 := Lib.hid h3; clear h3
        generalize hL0 : lifeTo s f q .zero 0 (l.take j) = L0 at *
        have HL0 := Lib.hid hL0; clear hL0
        have hc0 : wr.cell? ⟨w2.heap.size, 0, none⟩ = some (.int .i64 L0.st) := HBK.out.cell 0
        have hc1' : wr.cell? ⟨w2.heap.size, 1, none⟩ = some (.int .i64 L0.since) := HBK.out.cell 1
        have hc2' : wr.cell? ⟨w2.heap.size, 2, none⟩ = some (.int .i64 L0.last) := HBK.out.cell 2
        go_wp2_with fail
        clear hc0 hc1' hc2'
        have hbk2 : Blk (wr.alloc (.cells #[.int .i64 L0.st, .int .i64 L0.since, .int .i64 L0.last] 31)) wr.heap.size 31 (lfCells L0) := Blk.mk (heap_alloc_new wr _)
        have HBK2 := Lib.hid hbk2; clear hbk2
        have HBK1 := Lib.hid (HBK.out.alloc (.cells #[.int .i64 L0.st, .int .i64 L0.since, .int .i64 L0.last] 31)); clear HBK
        have HBL1 := Lib.hid (HBL.out.alloc (Nat.le_of_lt hg) (.cells #[.int .i64 L0.st, .int .i64 L0.since, .int .i64 L0.last] 31)); clear HBL
        have hsz : (wr.alloc (.cells #[.int .i64 L0.st, .int .i64 L0.since, .int .i64 L0.last] 31)).heap.size = wr.heap.size + 1 := by simp
        have HSZ := Lib.hid hsz; clear hsz
        generalize hg2 : wr.heap.size = g2 at *
        have HG2 := Lib.hid hg2; clear hg2
        go_loopw [22] (fun i wr => ∃ t : Nat, j ≤ t ∧ t ≤ k ∧ i = .int .i64 t ∧ Blk wr g2 31 (lfCells (lifeTo s f q .zero 0 (l.take t))) ∧ Blk wr w2.heap.size 31 (lfCells L0) ∧ Below w2.heap.size w2 wr ∧ (lifeTo s f q .zero 0 (l.take t)).ok) (fun i _ => k - (intOf i).toNat)
        case atStart => exact ⟨j, Nat.le_refl _, hmk, rfl, by rw [HL0.out]; exact HBK2.out, HBK1.out, HBL1.out, by rw [HL0.out]; exact HOK.out⟩
        case round =>
          obtain ⟨t, hjt, htk, rfl, hblk, hblk1, hbel, hok⟩ := hrel
          have HK2 := Lib.hid hblk; have HK1 := Lib.hid hblk1; have HBW := Lib.hid hbel; have HOT := Lib.hid hok
          have hgq := hblk.lt
          clear hblk hblk1 hbel hok
          by_cases hlt2 : t < k
          · have htl : t < l.length := by have := HL.out; omega
            have hst := Lib.hid (lifeTo_take (s := s) (f := f) (k := q) htl)
            obtain ⟨ad2, htr, hA2, hcr0⟩ := HR2.out.int hlt2
            have hrg := HRG.out t htr
            generalize (lifeRun s f q .zero 0 l)[t] = ar at *
            obtain ⟨ad3, _, hA3, _⟩ := (HR2.out.below HBW.out).int hlt2
            generalize lifeTo s f q .zero 0 (l.take t) = L at *
            obtain ⟨ad, htl', rfl, hc⟩ := (HS2.out.below HBW.out).bool hlt2
            generalize l[t] = b at *
            have HC := Lib.hid fun w => next_any L t s f q b w HOT.out ⟨by omega, by omega⟩ (by unfold I64; omega) (by unfold I64; omega) (by unfold I64; omega)
            have HN := Lib.hid (next_ok (step := s) (long := f) (keep := q) (holds := b) HOT.out (show Tk (t : Int) from ⟨by omega, by omega⟩))
            have HAR : Hid (ar = (L.next t s f q b).st) := hrg.trans (congrArg Lf.st hst.out)
            generalize L.next t s f q b = r at *
            have hc0 : wr.cell? ⟨g2, 0, none⟩ = some (.int .i64 L.st) := HK2.out.cell 0
            have hc1' : wr.cell? ⟨g2, 1, none⟩ = some (.int .i64 L.since) := HK2.out.cell 1
            have hc2' : wr.cell? ⟨g2, 2, none⟩ = some (.int .i64 L.last) := HK2.out.cell 2
            have hfz : ∀ x, wr.frozen? ⟨g2, x, none⟩ = false := fun x => HK2.out.frozen x
            obtain ⟨s', i', a'⟩ := r
            simp only [Lf.val] at *
            have hcb : Hid (∀ W, Below w2.heap.size w2 W → W.cell? (ad2.add t) = some (.int .i64 ar)) := fun W hW => by
              obtain ⟨ad', hA', hb', hc'⟩ := HR2.out.at_ (show 0 < k by omega)
              rw [hA2] at hA'; injection hA' with hA'; subst hA'
              rw [hW.cell (p := ad2.add t) (by rw [add_block]; exact hb')]; exact hcr0
            have HA2 := Lib.hid hA2
            clear hcr0 hrg hA3 hA2
            go_wp2_with fail
            go_region_with (go_at_call 13; refine (HC.out _).mono ?_; rintro e w1 ⟨rfl, hb1⟩; obtain ⟨hcell, hfroz⟩ := bcell hb1; simp at hcell hfroz)
            all_goals
              have HB1 := Lib.hid hb1; clear hb1 hcell hfroz
              have hk2' : Blk (((w1.setCell ⟨g2, 0, none⟩ (.int .i64 s')).setCell ⟨g2, 1, none⟩ (.int .i64 i')).setCell ⟨g2, 2, none⟩ (.int .i64 a')) g2 31 [.int .i64 s', .int .i64 i', .int .i64 a'] := by
                refine step_block (l := L) ?_ HB1.out; exact HK2.out
              have hk1' : Blk (((w1.setCell ⟨g2, 0, none⟩ (.int .i64 s')).setCell ⟨g2, 1, none⟩ (.int .i64 i')).setCell ⟨g2, 2, none⟩ (.int .i64 a')) w2.heap.size 31 (lfCells L0) := by
                refine Blk.far (Blk.far (Blk.far (Blk.below (w := _) ?_ HB1.out ?_) (by simp; omega) _) (by simp; omega) _) (by simp; omega) _
                · exact HK1.out
                · exact HK1.out.lt
              have hbl' : Below w2.heap.size w2 (((w1.setCell ⟨g2, 0, none⟩ (.int .i64 s')).setCell ⟨g2, 1, none⟩ (.int .i64 i')).setCell ⟨g2, 2, none⟩ (.int .i64 a')) := by
                refine Below.setCell (Below.setCell (Below.setCell (Below.trans ?_ (HB1.out.mono (Nat.le_of_lt HK1.out.lt))) (show w2.heap.size ≤ g2 by omega) _) (show w2.heap.size ≤ g2 by omega) _) (show w2.heap.size ≤ g2 by omega) _
                repeat (first | exact HBW.out | refine Below.drew ?_)
              generalize (((w1.setCell ⟨g2, 0, none⟩ (.int .i64 s')).setCell ⟨g2, 1, none⟩ (.int .i64 i')).setCell ⟨g2, 2, none⟩ (.int .i64 a')) = W1 at *
              have hx0 : W1.cell? ⟨g2, 0, none⟩ = some (.int .i64 s') := hk2'.cell 0
              have hx1 : W1.cell? (ad2.add t) = some (.int .i64 ar) := hcb.out W1 hbl'
              have HX2 := Lib.hid hk2'; have HX1 := Lib.hid hk1'; have HXB := Lib.hid hbl'; clear hk2' hk1' hbl'
              have hA2 := HA2.out
              subst hA2
              have har : ar = s' := HAR.out
              subst har
              have hss : (ar != ar) = false := by simp
              have hge : decide ((k : Int) ≤ t) = false := by simp; omega
              clear hc0 hc1' hc2' hc hfz HB1
              go_wp2_with fail
              go_quiet (fail)
              go_wp2_with fail
              go_roundw
              case rel =>
                refine ⟨t + 1, by omega, by omega, by go_num, ?_, HX1.out, below_drewN' HXB.out _, ?_⟩
                · rw [hst.out]; exact HX2.out
                · rw [hst.out]; exact HN.out
              case measure => simp [intOf]; omega
          · obtain rfl : t = k := by omega
            have hcx := HK1.out
            have HK0 := Lib.hid hcx; clear hcx HK2 HOT HBK2 HBK1 HBL1
            have hc0 : wr.cell? ⟨w2.heap.size, 0, none⟩ = some (.int .i64 L0.st) := HK0.out.cell 0
            have hc1' : wr.cell? ⟨w2.heap.size, 1, none⟩ = some (.int .i64 L0.since) := HK0.out.cell 1
            have hc2' : wr.cell? ⟨w2.heap.size, 2, none⟩ = some (.int .i64 L0.last) := HK0.out.cell 2
            obtain ⟨hg1, hg2'⟩ := nWithin_in g0 (lo := 0) (hi := 60) (by omega)
            go_wp2_with fail
            refine (within_any g0 0 60 _ wg (by omega) (by omega) (by omega)).mono ?_; rintro e w' ⟨rfl, rfl⟩
            generalize nWithin g0 0 60 = gg at *
            clear wg
            have hfa := far_asks (t := (j : Int) + 1 + gg) (s := s) (f := f) (k := q) H3.out
            have HCX := Lib.hid fun w => next_any L0 ((j : Int) + 1 + gg) s f q true w HOK.out ⟨by omega, by omega⟩ (by unfold I64; omega) (by unfold I64; omega) (by unfold I64; omega)
            have HCY := Lib.hid fun w => next_any L0 ((j : Int) + 1 + gg) s f q false w HOK.out ⟨by omega, by omega⟩ (by unfold I64; omega) (by unfold I64; omega) (by unfold I64; omega)
            generalize L0.next ((j : Int) + 1 + gg) s f q true = X at *
            generalize L0.next ((j : Int) + 1 + gg) s f q false = Y at *
            obtain ⟨xs, xi, xl⟩ := X
            obtain ⟨ys, yi, yl⟩ := Y
            have HFA := Lib.hid hfa; clear hfa
            simp only [Lf.val] at *
            go_wp2_with fail
            refine (HCX.out _).mono ?_; rintro e w5 ⟨rfl, hb5⟩
            have HK5 := Lib.hid (HK0.out.below hb5 HK0.out.lt)
            have hs5 := hb5.size
            have HB5 := Lib.hid (HBW.out.trans (hb5.mono (Nat.le_of_lt HK0.out.lt))); clear hb5
            have hd0 : w5.cell? ⟨w2.heap.size, 0, none⟩ = some (.int .i64 L0.st) := HK5.out.cell 0
            have hd1 : w5.cell? ⟨w2.heap.size, 1, none⟩ = some (.int .i64 L0.since) := HK5.out.cell 1
            have hd2 : w5.cell? ⟨w2.heap.size, 2, none⟩ = some (.int .i64 L0.last) := HK5.out.cell 2
            have hg5 := HK5.out.lt
            clear hc0 hc1' hc2'
            go_wp2_with fail
            refine (HCY.out _).mono ?_; rintro e w6 ⟨rfl, hb6⟩
            have HK6 := Lib.hid ((HK5.out.alloc (.cells #[.int .i64 xs, .int .i64 xi, .int .i64 xl] 31)).below hb6 (by simp; omega))
            have HX6 := Lib.hid (Blk.below (g := w5.heap.size) (t := 31) (cs := lfCells ⟨xs, xi, xl⟩) (Blk.mk (heap_alloc_new w5 _)) hb6 (by simp))
            have hs6 : w5.heap.size + 1 ≤ w6.heap.size := by have := hb6.size; simpa using this
            have HB6 := Lib.hid ((HB5.out.alloc (Nat.le_of_lt hg5) (.cells #[.int .i64 xs, .int .i64 xi, .int .i64 xl] 31)).trans (hb6.mono (by simp; omega))); clear hb6
            have he0 : w6.cell? ⟨w2.heap.size, 0, none⟩ = some (.int .i64 L0.st) := HK6.out.cell 0
            have hx0 : w6.cell? ⟨w5.heap.size, 0, none⟩ = some (.int .i64 xs) := HX6.out.cell 0
            have hlt56 : w5.heap.size < w6.heap.size := by omega
            have hlt26 : w2.heap.size < w6.heap.size := by omega
            clear hd0 hd1 hd2
            have hcsw : w.heap.size ≤ w2.heap.size := by omega
            by_cases hl2 : L0.st = 2
            · have hx2 : xs = 2 := HFA.out.1.2 hl2
              have hy1 : (ys == 1) = false := by have := HFA.out.2.1; simpa using this
              subst hx2
              have hxx : ((2 : Int) == 0) = false := by decide
              rw [hl2] at he0
              have HB7 := Lib.hid (HB2.out.trans ((HB6.out.alloc (by omega) (.cells #[.int .i64 ys, .int .i64 yi, .int .i64 yl] 31)).mono hcsw))
              go_wp2_with fail
              refine (run_any s f q none 0 0 [] _ _ (Sees.nil (w := w6.alloc (.cells #[.int .i64 ys, .int .i64 yi, .int .i64 yl] 31)) (B := 0)) (Nat.zero_le _) (by unfold I64; omega) (by unfold I64; omega) (by unfold I64; omega) (by omega)).mono ?_; rintro e w7 ⟨v7, rfl, hown7, hbel7⟩
              obtain ⟨A7, c7, rfl, hc9, hc10⟩ := own_slice hown7
              have hs7 : w6.heap.size + 1 ≤ w7.heap.size := by have := hbel7.size; simpa using this
              have HB8 := Lib.hid (HB7.out.trans (hbel7.mono (by simp; omega))); clear hown7 hbel7
              go_wp2_with fail
              refine (life_runs _).mono ?_; rintro e w8 ⟨rfl, hbel⟩
              have HB9 := Lib.hid (HB8.out.trans (hbel.mono (by omega))); clear hbel
              go_wp2_with fail
              go_ret
              exact ⟨rfl, HB9.out⟩
            · have hl3 : (L0.st == 2) = false := by simpa using hl2
              have hl4 : (L0.st != 2) = true := by simpa using hl2
              have hx1 : (xs == 0) = false := by have := HFA.out.1.1; simpa using this
              have hy := HFA.out.2.2 hl2
              simp only [Lf.zero, Lf.mk.injEq] at hy
              obtain ⟨rfl, rfl, rfl⟩ := hy
              clear hl2
              have HB7 := Lib.hid (HB2.out.trans ((HB6.out.alloc (by omega) (.cells #[.int .i64 0, .int .i64 0, .int .i64 0] 31)).mono hcsw))
              go_wp2_with fail
              refine (run_any s f q none 0 0 [] _ _ (Sees.nil (w := w6.alloc (.cells #[.int .i64 0, .int .i64 0, .int .i64 0] 31)) (B := 0)) (Nat.zero_le _) (by unfold I64; omega) (by unfold I64; omega) (by unfold I64; omega) (by omega)).mono ?_; rintro e w7 ⟨v7, rfl, hown7, hbel7⟩
              obtain ⟨A7, c7, rfl, hc9, hc10⟩ := own_slice hown7
              have hs7 : w6.heap.size + 1 ≤ w7.heap.size := by have := hbel7.size; simpa using this
              have HB8 := Lib.hid (HB7.out.trans (hbel7.mono (by simp; omega))); clear hown7 hbel7
              go_wp2_with fail
              refine (life_runs _).mono ?_; rintro e w8 ⟨rfl, hbel⟩
              have HB9 := Lib.hid (HB8.out.trans (hbel.mono (by omega))); clear hbel
              go_wp2_with fail
              go_ret
              exact ⟨rfl, HB9.out⟩
theorem life_parts (A : Option Addr) (n c : Nat) (s0 f0 k0 m0 g0 : Int) (zs : List Bool) (w : World) (hl : Sees w w.heap.size 1 A n (bools zs)) (hnc : n ≤ c) (hn : c ≤ 9223372036854775807)
    (wd : I64 s0) (wf : I64 f0) (wk : I64 k0) (wm : I64 m0) (wg : I64 g0) :
    Calls Try.prog 7 #[.slice A n c, .int .i64 s0, .int .i64 f0, .int .i64 k0, .int .i64 m0, .int .i64 g0] w fun e w' => e = .returned (.bool true) ∧ Below w.heap.size w w' :=
  parts_walk A n c (min n 30) s0 f0 k0 m0 g0 zs w hl hnc hn wd wf wk wm wg (by omega) (by omega) (by omega)
end Go.Proofs.Ytecdhcmahmbohaa
