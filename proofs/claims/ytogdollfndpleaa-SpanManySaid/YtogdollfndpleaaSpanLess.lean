/- Package span: Less. -/
import Derived.Test.YtogdollfndpleaaSpanOf
import Derived.Test.YtogdollfndpleaaWhere
namespace Go.Proofs.Ytogdollfndpleaa
open Go.ChangeShapes Go.WideShapes Go.ChangeAt Go.RowKit
set_option linter.unusedVariables false
set_option maxRecDepth 100000
/-- What is left of x, with the rows b behind; k goes on. -/
def inn (k : List (Int × Int) → List (Int × Int)) : Int × Int → List (Int × Int) → List (Int × Int)
  | x, [] => x :: k []
  | x, y :: b =>
    if y.1 ≤ x.2 then
      (if x.1 < y.1 then [(x.1, y.1 - 1)] else []) ++
        (if (if x.1 < y.2 + 1 then y.2 + 1 else x.1) > x.2 then k (y :: b) else inn k ((if x.1 < y.2 + 1 then y.2 + 1 else x.1), x.2) b)
    else x :: k (y :: b)
def lessF : List (Int × Int) → List (Int × Int) → List (Int × Int)
  | [] => fun _ => []
  | x :: a => inn (lessF a) x
def lessT (a b : List (Int × Int)) : List (Int × Int) := lessF (clip a) (clip b)
theorem inn_nil (k : List (Int × Int) → List (Int × Int)) (x : Int × Int) : inn k x [] = [x] ++ k [] := rfl
theorem inn_far (k : List (Int × Int) → List (Int × Int)) {x y : Int × Int} (b : List (Int × Int)) (h : ¬ y.1 ≤ x.2) : inn k x (y :: b) = [x] ++ k (y :: b) := by
  rw [inn, if_neg h]; rfl
theorem inn_near (k : List (Int × Int) → List (Int × Int)) {x y : Int × Int} (b : List (Int × Int)) (h : y.1 ≤ x.2) {f : Int} (hf : (if x.1 < y.2 + 1 then y.2 + 1 else x.1) = f) :
    inn k x (y :: b) = (if x.1 < y.1 then [(x.1, y.1 - 1)] else []) ++ (if f > x.2 then k (y :: b) else inn k (f, x.2) b) := by
  rw [inn, if_pos h, hf]
theorem clip1_in (x : Int × Int) : In200 (clip1 x) := by
  unfold clip1
  dsimp only
  generalize hf : (if x.1 < 0 then 0 else x.1) = f
  generalize ht : (if 199 < x.2 then 199 else x.2) = t
  have h1 : 0 ≤ f := by rw [← hf]; split <;> omega
  have h2 : t ≤ 199 := by rw [← ht]; split <;> omega
  intro z hz
  split at hz
  · rw [List.mem_singleton] at hz; subst hz
    exact ⟨h1, by show f ≤ 199; omega, by show 0 ≤ t; omega, h2⟩
  · cases hz
theorem clip_in (l : List (Int × Int)) : In200 (clip l) := by
  intro z hz
  obtain ⟨x, _, hz⟩ := List.mem_flatMap.1 hz
  exact clip1_in x z hz
theorem clip_len' (l : List (Int × Int)) : (clip l).length ≤ l.length := by
  have := clip_len l l.length
  rwa [List.take_of_length_le (Nat.le_refl _)] at this
/-- The row of the call's own and x's box, in the midst of Less. -/
def LessAt (W : World) (bx : Nat) (ts : List (Int × Int)) (x : Int × Int) (w : World) (v : Value) : Prop :=
  Blk w bx 28 [.int .i64 x.1, .int .i64 x.2] ∧ w.ownsRow W.heap.size 28 2 v ts.length (smps ts) ∧ Below W.heap.size W w ∧ v.ownBlock ≠ some bx ∧ W.heap.size ≤ bx
theorem LessAt.start {W w : World} {ts : List (Int × Int)} {a b : Int} {v : Value} (h : w.ownsRow W.heap.size 28 2 v ts.length (smps ts)) (hb : Below W.heap.size W w) :
    LessAt W w.heap.size ts (a, b) (w.alloc (.cells #[.int .i64 a, .int .i64 b] 28)) v :=
  ⟨Blk.mk (heap_alloc_new w _), h.alloc _, hb.alloc hb.size _, fun e => by have := (h.lt _ e).2; omega, hb.size⟩
theorem LessAt.alloc {W w : World} {bx : Nat} {ts : List (Int × Int)} {x : Int × Int} {v : Value} (h : LessAt W bx ts x w v) (o : Obj) : LessAt W bx ts x (w.alloc o) v :=
  ⟨h.1.alloc o, h.2.1.alloc o, h.2.2.1.alloc h.2.2.1.size o, h.2.2.2.1, h.2.2.2.2⟩
theorem LessAt.drew {W w : World} {bx : Nat} {ts : List (Int × Int)} {x : Int × Int} {v : Value} (h : LessAt W bx ts x w v) : LessAt W bx ts x w.drew v :=
  ⟨h.1, h.2.1.drew, h.2.2.1.drew, h.2.2.2.1, h.2.2.2.2⟩
theorem LessAt.set {W w : World} {bx : Nat} {ts : List (Int × Int)} {a b : Int} {v : Value} (h : LessAt W bx ts (a, b) w v) (f : Int) : LessAt W bx ts (f, b) (w.setCell ⟨bx, 0, none⟩ (.int .i64 f)) v :=
  ⟨h.1.set 0 (.int .i64 f), ownsRow_setCell_other h.2.1 (fun e => h.2.2.2.1 e) _, h.2.2.1.setCell h.2.2.2.2 _, h.2.2.2.1, h.2.2.2.2⟩
/-- A row that lies elsewhere is as it was behind an append. -/
theorem LessAt.other {W w w2 : World} {bx by_ : Nat} {ts : List (Int × Int)} {x : Int × Int} {v : Value} {cs : List Value} {t : TypeId} (h : LessAt W bx ts x w v) (hy : Blk w by_ t cs) (hv : v.ownBlock ≠ some by_) (hg : w.grownBy w2 v.ownBlock) : Blk w2 by_ t cs :=
  hy.grown hg fun e => hv e.symm
theorem LessAt.push {W w w2 : World} {bx : Nat} {ts : List (Int × Int)} {x : Int × Int} {v v' : Value} {a b : Int} (h : LessAt W bx ts x w v)
    (hown' : w2.ownsRow W.heap.size 28 2 v' (ts.length + 1) (smps ts ++ smps [(a, b)])) (hg : w.grownBy w2 v.ownBlock) (hw : Where w v v') : LessAt W bx (ts ++ [(a, b)]) x w2 v' := by
  refine ⟨h.1.grown hg (fun e => h.2.2.2.1 e.symm), by rw [smps_append, List.length_append]; exact hown', h.2.2.1.grown hg h.2.2.1.size fun k hk => (h.2.1.lt k hk).1, ?_, h.2.2.2.2⟩
  rcases hw with hw | hw
  · rw [hw]; exact h.2.2.2.1
  · intro e; have := hw _ e; have := h.1.lt; omega
set_option maxHeartbeats 8000000 in
theorem less_any (A A2 : Option Addr) (n c n2 c2 : Nat) (za zb : List (Int × Int)) (B : Nat) (w : World) (ha : Sees w B 2 A n (smps za)) (hb : Sees w B 2 A2 n2 (smps zb)) (hB : B ≤ w.heap.size) (hn : n ≤ 40000) (hn2 : n2 ≤ 40000) :
    Calls Try.prog 12 #[.slice A n c, .slice A2 n2 c2] w (OwnAns 28 2 (lessT za zb).length (smps (lessT za zb)) w) := by
  have HC1 := Lib.hid (clipped_any A n c za B w ha hB (by omega))
  have HSB := Lib.hid hb
  have hla : (clip za).length ≤ n := Nat.le_trans (clip_len' _) (by rw [ha.smp_len]; exact Nat.le_refl _)
  have hlb : (clip zb).length ≤ n2 := Nat.le_trans (clip_len' _) (by rw [hb.smp_len]; exact Nat.le_refl _)
  have HIA := Lib.hid (clip_in za)
  have HIB := Lib.hid (clip_in zb)
  have HTOT := Lib.hid (show lessT za zb = lessF (clip za) (clip zb) from rfl)
  obtain ⟨i0, hi, hz0, hz1, hz2⟩ := info_parts Try.infoSpan
  clear ha hb
  go_enter Try.func12, Try.ntmps12
  go_wp2
  go_step3
  go_wp2_with fail
  refine HC1.out.mono ?_; rintro e w1 ⟨A3, c3, rfl, hown1, hbel1, hc1, hc2⟩
  have HC2 := Lib.hid (clipped_any A2 n2 c2 zb B w1 (HSB.out.below (hbel1.mono hB)) (Nat.le_trans hB hbel1.size) (by omega))
  have HB1 := Lib.hid hbel1; have HO1 := Lib.hid hown1
  have hs1 := hbel1.size
  clear hown1 hbel1 HC1 HSB
  go_wp2_with fail
  refine HC2.out.mono ?_; rintro e w2 ⟨A4, c4, rfl, hown2, hbel2, hc3, hc4⟩
  have HB2 := Lib.hid (HB1.out.trans (hbel2.mono hs1))
  have HSA := Lib.hid (Sees.of_own (own_below HO1.out hbel2 (Nat.le_refl _)))
  have HSB := Lib.hid (Sees.of_own hown2)
  have hs2 := HB2.out.size
  clear hown2 hbel2 HC2 HB1 HO1
  generalize lessT za zb = tot at *
  generalize clip za = ls at *
  generalize clip zb = ms at *
  generalize hn3 : ls.length = n3 at *
  generalize hm3 : ms.length = m3 at *
  have HN3 := Lib.hid hn3; have HM3 := Lib.hid hm3; clear hn3 hm3
  go_wp2_with fail
  go_step3
  go_wp2_with fail
  go_loopg [5, 6, 16] n3 (fun g x5 x6 x16 wr => ∃ (i at_ : Nat) (v : Value) (ts : List (Int × Int)), i + g = n3 ∧ at_ ≤ m3 ∧ x5 = v ∧ x6 = .int .i64 at_ ∧ x16 = .int .i64 i ∧ wr.ownsRow w2.heap.size 28 2 v ts.length (smps ts) ∧ Below w2.heap.size w2 wr ∧ ts.length ≤ i + at_ ∧ tot = ts ++ lessF (ls.drop i) (ms.drop at_))
  case atStart => exact ⟨0, 0, _, [], by omega, Nat.zero_le _, rfl, rfl, rfl, World.ownsRow_nil _ _ _ _, Below.refl _ _, by simp, HTOT.out⟩
  case round =>
    obtain ⟨i, at_, v, ts, hig, hatm, rfl, rfl, rfl, hown, hbel, htl, htot⟩ := hrel
    have HO := Lib.hid hown; have HBL := Lib.hid hbel; have HT := Lib.hid htot
    clear hown hbel htot
    cases gk with
    | zero =>
      obtain rfl : i = n3 := by omega
      have he : tot = ts := by rw [HT.out, List.drop_of_length_le (show ls.length ≤ i by rw [HN3.out]; exact Nat.le_refl _)]; simp [lessF]
      have HE := Lib.hid he; clear he
      obtain ⟨A5, c5, rfl, hc5, hc6⟩ := own_slice HO.out
      have HOM := Lib.hid (own_mono HO.out hs2)
      have HBB := Lib.hid (HB2.out.trans (HBL.out.mono hs2))
      clear HO HBL
      go_wp2_with fail
      try rw [Exit.noGoto_ret]
      go_ret
      rw [HE.out]
      exact ownAns HOM.out HBB.out rfl hc5 hc6
    | succ g =>
      have hin : i < n3 := by omega
      obtain ⟨ad, hil, rfl, c0, c1⟩ := (HSA.out.below HBL.out).smp hin
      have HDL := Lib.hid (List.drop_eq_getElem_cons hil)
      have hbnd := HIA.out ls[i] (List.getElem_mem _)
      have hal := World.block_lt_of_cell? wr _ c0
      generalize ls[i] = p at *
      obtain ⟨xf, xt⟩ := p
      simp only at c0 c1 hbnd
      have HL0 := Lib.hid (LessAt.start (a := xf) (b := xt) HO.out HBL.out)
      have HT1 := Lib.hid (show tot = ts ++ inn (lessF (ls.drop (i + 1))) (xf, xt) (ms.drop at_) by rw [HT.out, HDL.out]; rfl)
      obtain ⟨bx, hbx⟩ : ∃ bx, wr.heap.size = bx := ⟨_, rfl⟩
      rw [hbx] at HL0
      clear HO HBL HT HDL
      go_wp2_with fail
      go_loopg [5, 6] (m3 - at_) (fun g x5 x6 wy => ∃ (at2 : Nat) (v2 : Value) (ts2 : List (Int × Int)) (f : Int), at2 + g = m3 ∧ x5 = v2 ∧ x6 = .int .i64 at2 ∧ LessAt w2 bx ts2 (f, xt) wy v2 ∧ ts2.length ≤ i + at2 ∧ 0 ≤ f ∧ f ≤ 200 ∧ tot = ts2 ++ inn (lessF (ls.drop (i + 1))) (f, xt) (ms.drop at2))
      case atStart => exact ⟨at_, _, ts, xf, by omega, rfl, rfl, HL0.out, htl, by omega, by omega, HT1.out⟩
      case round =>
        clear HT1 HL0 hbx c0 c1 hal hatm htl ts at_
        obtain ⟨at2, v2, ts2, f, hag, rfl, rfl, hlat, htl, hf1, hf2, htot2⟩ := hrel
        have HT2 := Lib.hid htot2; clear htot2
        have e0 : wr.cell? ⟨bx, 0, none⟩ = some (.int .i64 f) := hlat.1.cell 0
        have e1 : wr.cell? ⟨bx, 1, none⟩ = some (.int .i64 xt) := hlat.1.cell 1
        have hbx := hlat.1.lt
        have hws : w2.heap.size ≤ wr.heap.size := hlat.2.2.1.size
        have HLA := Lib.hid hlat; clear hlat
        cases gk with
        | zero =>
          obtain rfl : at2 = m3 := by omega
          have HDM := Lib.hid (show ms.drop at2 = [] from List.drop_of_length_le (by rw [HM3.out]; exact Nat.le_refl _))
          have HIN := Lib.hid (show inn (lessF (ls.drop (i + 1))) (f, xt) (ms.drop at2) = [(f, xt)] ++ lessF (ls.drop (i + 1)) (ms.drop at2) by rw [HDM.out, inn_nil])
          clear HDM
          go_upto_region 7 with fail
          go_cut [33] (fun t wx => t = .bool false ∧ wx = wr.drew)
          case first =>
            go_region
            all_goals
              go_wp2_with fail
              go_meet
              exact ⟨rfl, rfl⟩
          case rest =>
            obtain ⟨rfl, rfl⟩ := hcut
            have HL2 := Lib.hid (HLA.out.drew.alloc (.cells #[.int .i64 f, .int .i64 xt] 28))
            have HX := Lib.hid (show Sees (wr.drew.alloc (.cells #[.int .i64 f, .int .i64 xt] 28)) (wr.drew.alloc (.cells #[.int .i64 f, .int .i64 xt] 28)).heap.size 2 (some ⟨wr.heap.size, 0, none⟩) 1 (smps [(f, xt)]) from pair_sees (w := wr.drew) f xt)
            have HOW := Lib.hid HL2.out.2.1
            clear HLA
            go_wp2_with (at_builtin; refine wpList_append_at rfl (.tmp 66) (.tmp 68) 24 rfl w2.heap.size 28 i0 (.agg #[.int .i64 0, .int .i64 0]) 2 16 Try.underlying24 hi hz0 hz1 hz2 rfl (by decide) _ ts2.length (smps ts2) rfl HOW.out _ _ 1 1 (smps [(f, xt)]) rfl HX.out (smps_one _) (by unfold maxLen; omega) (by omega) (by simp; omega) ?_)
            intro v3 w3 hown3 hgr3 hwh3
            have R := Lib.hid (HL2.out.push hown3 hgr3 hwh3)
            clear hown3 hgr3 hwh3 HX HL2 HOW
            go_wp2_with fail
            go_roundg g
            case measure => omega
            case rel => exact ⟨i + 1, at2, v3, ts2 ++ [(f, xt)], by omega, by omega, rfl, rfl, by go_num, R.out.2.1, R.out.2.2.1, by rw [List.length_append, List.length_singleton]; omega, by rw [HT2.out, HIN.out, List.append_assoc]⟩
        | succ g2 =>
          have hin2 : at2 < m3 := by omega
          have hin3 : (at2 : Int) < m3 := by omega
          obtain ⟨ad2, hml, rfl, d0, d1⟩ := (HSB.out.below HLA.out.2.2.1).smp hin2
          have HDM := Lib.hid (List.drop_eq_getElem_cons hml)
          have hby := HIB.out ms[at2] (List.getElem_mem _)
          have hal := World.block_lt_of_cell? wr _ d0
          generalize ms[at2] = q at *
          obtain ⟨yf, yt⟩ := q
          simp only at d0 d1 hby
          by_cases hne : yf ≤ xt
          · have hnd : decide (yf ≤ xt) = true := by simp; omega
            obtain ⟨f2, hf2'⟩ : ∃ f2 : Int, (if f < yt + 1 then yt + 1 else f) = f2 := ⟨_, rfl⟩
            have HIN := Lib.hid (show inn (lessF (ls.drop (i + 1))) (f, xt) (ms.drop at2) = (if f < yf then [(f, yf - 1)] else []) ++ (if f2 > xt then lessF (ls.drop (i + 1)) (ms.drop at2) else inn (lessF (ls.drop (i + 1))) (f2, xt) (ms.drop (at2 + 1))) by rw [HDM.out, inn_near _ _ hne hf2'])
            clear HDM
            have hfb : 0 ≤ f2 ∧ f2 ≤ 200 := by rw [← hf2']; split <;> omega
            have hmx : max f (yt + 1) = f2 := by rw [← hf2']; split <;> omega
            go_upto_region 7 with fail
            go_cut [33] (fun t wx => t = .bool true ∧ wx = wr.drew)
            case first =>
              go_region
              all_goals
                go_wp2_with fail
                go_meet
                exact ⟨rfl, rfl⟩
            case rest =>
              obtain ⟨rfl, rfl⟩ := hcut
              have HLY := Lib.hid (HLA.out.drew.alloc (.cells #[.int .i64 yf, .int .i64 yt] 28))
              have HKY := Lib.hid (show Blk (wr.drew.alloc (.cells #[.int .i64 yf, .int .i64 yt] 28)) wr.heap.size 28 [.int .i64 yf, .int .i64 yt] from Blk.mk (heap_alloc_new wr.drew _))
              have HVY : Hid (u5.ownBlock ≠ some wr.heap.size) := fun e => by have := (HLA.out.2.1.lt _ e).2; omega
              obtain ⟨yb, hyb⟩ : ∃ yb, wr.heap.size = yb := ⟨_, rfl⟩
              rw [hyb] at HKY HVY hbx
              clear HLA
              go_upto_if 42 with fail
              go_cut [5] (fun x5 wx => ∃ ts3, LessAt w2 bx ts3 (f, xt) wx x5 ∧ Blk wx yb 28 [.int .i64 yf, .int .i64 yt] ∧ bx ≠ yb ∧ ts3.length ≤ i + at2 + 1 ∧ ts3 = ts2 ++ (if f < yf then [(f, yf - 1)] else []))
              case first =>
                by_cases hlt : f < yf
                · have HL2 := Lib.hid (HLY.out.alloc (.cells #[.int .i64 f, .int .i64 (yf - 1)] 28))
                  have HX := Lib.hid (pair_sees2 (w := wr.drew) (o := .cells #[.int .i64 yf, .int .i64 yt] 28) (t := 28) f (yf - 1))
                  have HX2 := Lib.hid (show Sees ((wr.drew.alloc (.cells #[.int .i64 yf, .int .i64 yt] 28)).alloc (.cells #[.int .i64 f, .int .i64 (yf - 1)] 28)) ((wr.drew.alloc (.cells #[.int .i64 yf, .int .i64 yt] 28)).alloc (.cells #[.int .i64 f, .int .i64 (yf - 1)] 28)).heap.size 2 (some ⟨yb + 1, 0, none⟩) 1 (smps [(f, yf - 1)]) by rw [← hyb]; exact HX.out)
                  have HOW := Lib.hid HL2.out.2.1
                  have HKY2 := Lib.hid (HKY.out.alloc (.cells #[.int .i64 f, .int .i64 (yf - 1)] 28))
                  clear HX HLY HKY
                  go_wp2_with (at_builtin; refine wpList_append_at rfl (.tmp 43) (.tmp 50) 24 rfl w2.heap.size 28 i0 (.agg #[.int .i64 0, .int .i64 0]) 2 16 Try.underlying24 hi hz0 hz1 hz2 rfl (by decide) _ ts2.length (smps ts2) rfl HOW.out _ _ 1 1 (smps [(f, yf - 1)]) rfl HX2.out (smps_one _) (by unfold maxLen; omega) (by omega) (by simp; omega) ?_)
                  intro v3 w3 hown3 hgr3 hwh3
                  have R := Lib.hid (HL2.out.push hown3 hgr3 hwh3)
                  have R2 := Lib.hid (HL2.out.other HKY2.out HVY.out hgr3)
                  clear hown3 hgr3 hwh3 HX2 HL2 HOW HKY2
                  go_wp2_with fail
                  go_meet
                  exact ⟨_, R.out, R2.out, by omega, by rw [List.length_append, List.length_singleton]; omega, by rw [if_pos hlt]⟩
                · go_wp2_with fail
                  go_meet
                  exact ⟨_, HLY.out, HKY.out, by omega, by omega, by rw [if_neg (by omega), List.append_nil]⟩
              case rest =>
                obtain ⟨ts3, hlat3, hky3, hxy, htl3, hts3⟩ := hcut
                have e2 := hlat3.1.cell 0
                have e3 := hky3.cell 1
                have e4 := hlat3.1.cell 1
                have hfz := fun y => hlat3.1.frozen y
                simp only [List.getElem?_cons_zero, List.getElem?_cons_succ] at e2 e3 e4
                have HSET := Lib.hid (hlat3.set f2)
                have hxl := hlat3.1.lt
                have HTS := Lib.hid hts3
                clear hlat3 hky3 hts3 d0 d1 e0 e1 hyb hws hbx hal
                by_cases hgt : f2 > xt
                · have HTT := Lib.hid (show tot = ts3 ++ lessF (ls.drop (i + 1)) (ms.drop at2) by rw [HT2.out, HIN.out, if_pos hgt, ← List.append_assoc, ← HTS.out])
                  go_wp2_with fail
                  go_roundg g
                  case measure => omega
                  case rel => exact ⟨i + 1, at2, _, ts3, by omega, by omega, rfl, rfl, by go_num, HSET.out.2.1, HSET.out.2.2.1, by omega, HTT.out⟩
                · have HTT := Lib.hid (show tot = ts3 ++ inn (lessF (ls.drop (i + 1))) (f2, xt) (ms.drop (at2 + 1)) by rw [HT2.out, HIN.out, if_neg hgt, ← List.append_assoc, ← HTS.out])
                  go_wp2_with fail
                  go_roundg g2
                  case measure => omega
                  case rel => exact ⟨at2 + 1, _, ts3, f2, by omega, rfl, by go_num, HSET.out, by omega, hfb.1, hfb.2, HTT.out⟩
          · have hnd : decide (yf ≤ xt) = false := by simp; omega
            have HIN := Lib.hid (show inn (lessF (ls.drop (i + 1))) (f, xt) (ms.drop at2) = [(f, xt)] ++ lessF (ls.drop (i + 1)) (ms.drop at2) by rw [HDM.out, inn_far _ _ hne])
            clear HDM
            go_upto_region 7 with fail
            go_cut [33] (fun t wx => t = .bool false ∧ wx = wr.drew)
            case first =>
              go_region
              all_goals
                go_wp2_with fail
                go_meet
                exact ⟨rfl, rfl⟩
            case rest =>
              obtain ⟨rfl, rfl⟩ := hcut
              have HL2 := Lib.hid (HLA.out.drew.alloc (.cells #[.int .i64 f, .int .i64 xt] 28))
              have HX := Lib.hid (show Sees (wr.drew.alloc (.cells #[.int .i64 f, .int .i64 xt] 28)) (wr.drew.alloc (.cells #[.int .i64 f, .int .i64 xt] 28)).heap.size 2 (some ⟨wr.heap.size, 0, none⟩) 1 (smps [(f, xt)]) from pair_sees (w := wr.drew) f xt)
              have HOW := Lib.hid HL2.out.2.1
              clear HLA
              go_wp2_with (at_builtin; refine wpList_append_at rfl (.tmp 66) (.tmp 68) 24 rfl w2.heap.size 28 i0 (.agg #[.int .i64 0, .int .i64 0]) 2 16 Try.underlying24 hi hz0 hz1 hz2 rfl (by decide) _ ts2.length (smps ts2) rfl HOW.out _ _ 1 1 (smps [(f, xt)]) rfl HX.out (smps_one _) (by unfold maxLen; omega) (by omega) (by simp; omega) ?_)
              intro v3 w3 hown3 hgr3 hwh3
              have R := Lib.hid (HL2.out.push hown3 hgr3 hwh3)
              clear hown3 hgr3 hwh3 HX HL2 HOW
              go_wp2_with fail
              go_roundg g
              case measure => omega
              case rel => exact ⟨i + 1, at2, v3, ts2 ++ [(f, xt)], by omega, by omega, rfl, rfl, by go_num, R.out.2.1, R.out.2.2.1, by rw [List.length_append, List.length_singleton]; omega, by rw [HT2.out, HIN.out, List.append_assoc]⟩
end Go.Proofs.Ytogdollfndpleaa
