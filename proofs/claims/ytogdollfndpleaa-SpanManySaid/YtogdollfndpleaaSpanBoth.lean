/- Package span: Both. -/
import Derived.Test.YtogdollfndpleaaSpanSet
namespace Go.Proofs.Ytogdollfndpleaa
open Go.ChangeShapes Go.WideShapes Go.ChangeAt Go.RowKit
set_option linter.unusedVariables false
set_option maxRecDepth 100000
/-- What x and the rows b behind have both; k goes on. -/
def bin (k : List (Int × Int) → List (Int × Int)) : Int × Int → List (Int × Int) → List (Int × Int)
  | _, [] => []
  | x, y :: b =>
    (if (if x.1 < y.1 then y.1 else x.1) ≤ (if y.2 < x.2 then y.2 else x.2) then [((if x.1 < y.1 then y.1 else x.1), (if y.2 < x.2 then y.2 else x.2))] else []) ++
      (if y.2 > x.2 then k (y :: b) else bin k x b)
def bothF : List (Int × Int) → List (Int × Int) → List (Int × Int)
  | [] => fun _ => []
  | x :: a => bin (bothF a) x
def bothT (a b : List (Int × Int)) : List (Int × Int) := bothF (clip a) (clip b)
theorem Rise.from {lo m : Int} {l : List (Int × Int)} (h : Rise lo l) (hm : ∀ t, InL l t → m ≤ t) : Rise m l := by
  cases l with
  | nil => trivial
  | cons x r => exact ⟨hm x.1 (.inl ⟨Int.le_refl _, h.2.1⟩), h.2⟩
theorem bin_spec {k : List (Int × Int) → List (Int × Int)} {a : List (Int × Int)} {x : Int × Int} (ha : Rise (x.2 + 2) a)
    (hk : ∀ b lb, Rise lb b → (∀ t, InL (k b) t ↔ InL a t ∧ InL b t) ∧ Rise (x.2 + 2) (k b)) :
    ∀ (b : List (Int × Int)) (lb : Int), Rise lb b → x.1 ≤ x.2 → (∀ t, InL (bin k x b) t ↔ ((x.1 ≤ t ∧ t ≤ x.2) ∨ InL a t) ∧ InL b t) ∧ Rise x.1 (bin k x b) := by
  intro b
  induction b with
  | nil => intro lb _ _; exact ⟨fun t => by simp [bin, InL], trivial⟩
  | cons y b ih =>
    intro lb hb hx
    obtain ⟨h1, h2⟩ := hk (y :: b) lb hb
    have hb2 := hb.2.2
    have hy := hb.2.1
    obtain ⟨i1, i2⟩ := ih (y.2 + 2) hb2 hx
    rw [bin]
    generalize hm1 : (if x.1 < y.1 then y.1 else x.1) = m1
    generalize hm2 : (if y.2 < x.2 then y.2 else x.2) = m2
    have e1 : x.1 ≤ m1 ∧ y.1 ≤ m1 ∧ (m1 = x.1 ∨ m1 = y.1) := by rw [← hm1]; split <;> omega
    have e2 : m2 ≤ x.2 ∧ m2 ≤ y.2 ∧ (m2 = x.2 ∨ m2 = y.2) := by rw [← hm2]; split <;> omega
    have hE : ∀ t, InL (if m1 ≤ m2 then [(m1, m2)] else []) t ↔ (x.1 ≤ t ∧ t ≤ x.2) ∧ (y.1 ≤ t ∧ t ≤ y.2) := by
      intro t
      split
      · simp only [InL, or_false]
        constructor
        · rintro ⟨g1, g2⟩; exact ⟨⟨by omega, by omega⟩, by omega, by omega⟩
        · rintro ⟨⟨g1, g2⟩, g3, g4⟩
          rcases e1.2.2 with e | e <;> rcases e2.2.2 with e' | e' <;> exact ⟨by omega, by omega⟩
      · rename_i hno
        refine ⟨fun g => g.elim, fun g => ?_⟩
        obtain ⟨⟨g1, g2⟩, g3, g4⟩ := g
        refine absurd ?_ hno
        rcases e1.2.2 with e | e <;> rcases e2.2.2 with e' | e' <;> omega
    have hRE : ∀ m, Rise (m2 + 2) m → Rise x.1 m → Rise x.1 ((if m1 ≤ m2 then [(m1, m2)] else []) ++ m) := by
      intro m h3 h4
      split
      · rename_i hle; exact ⟨e1.1, hle, h3⟩
      · exact h4
    by_cases hgt : y.2 > x.2
    · rw [if_pos hgt]
      refine ⟨fun t => ?_, hRE _ (h2.less (by omega)) (h2.less (by omega))⟩
      rw [inL_append, hE, h1]
      have q1 := fun h => hb2.not (t := t) h
      simp only [InL]
      constructor
      · rintro (⟨g1, g2⟩ | ⟨g1, g2⟩)
        · exact ⟨.inl g1, .inl g2⟩
        · exact ⟨.inr g1, g2⟩
      · rintro ⟨g1 | g1, g2⟩
        · rcases g2 with g2 | g2
          · exact .inl ⟨g1, g2⟩
          · exact (q1 (by omega) g2).elim
        · exact .inr ⟨g1, g2⟩
    · rw [if_neg hgt]
      have i3 : Rise (y.2 + 2) (bin k x b) := i2.from fun t ht => hb2.ge ((i1 t).1 ht).2
      refine ⟨fun t => ?_, hRE _ (i3.less (by omega)) i2⟩
      rw [inL_append, hE, i1]
      have q2 := fun h => ha.not (t := t) h
      simp only [InL]
      constructor
      · rintro (⟨g1, g2⟩ | ⟨g1, g2⟩)
        · exact ⟨.inl g1, .inl g2⟩
        · exact ⟨g1, .inr g2⟩
      · rintro ⟨g1, g2 | g2⟩
        · rcases g1 with g1 | g1
          · exact .inl ⟨g1, g2⟩
          · exact (q2 (by omega) g1).elim
        · exact .inr ⟨g1, g2⟩
theorem bothF_spec : ∀ (a : List (Int × Int)) (lo : Int), Rise lo a → ∀ (b : List (Int × Int)) (lb : Int), Rise lb b → (∀ t, InL (bothF a b) t ↔ InL a t ∧ InL b t) ∧ Rise lo (bothF a b) := by
  intro a
  induction a with
  | nil => intro lo _ b lb _; exact ⟨fun t => by simp [bothF, InL], trivial⟩
  | cons x a ih =>
    intro lo ha b lb hb
    obtain ⟨h1, h2⟩ := bin_spec (k := bothF a) ha.2.2 (fun b lb hb => ih (x.2 + 2) ha.2.2 b lb hb) b lb hb ha.2.1
    exact ⟨fun t => by show InL (bin (bothF a) x b) t ↔ _; rw [h1]; rfl, h2.less ha.1⟩
/-- Rising spans with a tick between are told by their ticks. -/
theorem rise_eq : ∀ (a b : List (Int × Int)) (lo lb : Int), Rise lo a → Rise lb b → (∀ t, InL a t ↔ InL b t) → a = b
  | [], [], _, _, _, _, _ => rfl
  | [], y :: b, _, _, _, hb, h => ((h y.1).2 (.inl ⟨Int.le_refl _, hb.2.1⟩)).elim
  | x :: a, [], _, _, ha, _, h => ((h x.1).1 (.inl ⟨Int.le_refl _, ha.2.1⟩)).elim
  | x :: a, y :: b, lo, lb, ha, hb, h => by
    have hx := ha.2.1; have hy := hb.2.1
    have n1 : ∀ t, t < x.2 + 2 → ¬ InL a t := fun t ht => ha.2.2.not ht
    have n2 : ∀ t, t < y.2 + 2 → ¬ InL b t := fun t ht => hb.2.2.not ht
    have h1 : y.1 ≤ x.1 := by
      rcases (h x.1).1 (.inl ⟨Int.le_refl _, hx⟩) with g | g
      · exact g.1
      · have := hb.2.2.ge g; omega
    have h2 : x.1 ≤ y.1 := by
      rcases (h y.1).2 (.inl ⟨Int.le_refl _, hy⟩) with g | g
      · exact g.1
      · have := ha.2.2.ge g; omega
    have h3 : x.2 = y.2 := by
      rcases Int.lt_or_le x.2 y.2 with g | g
      · rcases (h (x.2 + 1)).2 (.inl ⟨by omega, by omega⟩) with g2 | g2
        · omega
        · exact (n1 _ (by omega) g2).elim
      · rcases Int.lt_or_le y.2 x.2 with g3 | g3
        · rcases (h (y.2 + 1)).1 (.inl ⟨by omega, by omega⟩) with g2 | g2
          · omega
          · exact (n2 _ (by omega) g2).elim
        · omega
    have he : x = y := by obtain ⟨x1, x2⟩ := x; obtain ⟨y1, y2⟩ := y; simp only at h1 h2 h3; rw [show x1 = y1 by omega, h3]
    subst he
    rw [rise_eq a b _ _ ha.2.2 hb.2.2 fun t => by
      constructor
      · intro g
        rcases (h t).1 (.inr g) with g2 | g2
        · exact (n1 t (by omega) g).elim
        · exact g2
      · intro g
        rcases (h t).2 (.inr g) with g2 | g2
        · exact (n2 t (by omega) g).elim
        · exact g2]
set_option maxHeartbeats 8000000 in
theorem both_any (A A2 : Option Addr) (n c n2 c2 : Nat) (za zb : List (Int × Int)) (B : Nat) (w : World) (ha : Sees w B 2 A n (smps za)) (hb : Sees w B 2 A2 n2 (smps zb)) (hB : B ≤ w.heap.size) (hn : n ≤ 40000) (hn2 : n2 ≤ 40000) :
    Calls Try.prog 11 #[.slice A n c, .slice A2 n2 c2] w (OwnAns 28 2 (bothT za zb).length (smps (bothT za zb)) w) := by
  have HC1 := Lib.hid (clipped_any A n c za B w ha hB (by omega))
  have HSB := Lib.hid hb
  have hla : (clip za).length ≤ n := Nat.le_trans (clip_len' _) (by rw [ha.smp_len]; exact Nat.le_refl _)
  have hlb : (clip zb).length ≤ n2 := Nat.le_trans (clip_len' _) (by rw [hb.smp_len]; exact Nat.le_refl _)
  have HIA := Lib.hid (clip_in za)
  have HIB := Lib.hid (clip_in zb)
  have HTOT := Lib.hid (show bothT za zb = bothF (clip za) (clip zb) from rfl)
  obtain ⟨i0, hi, hz0, hz1, hz2⟩ := info_parts Try.infoSpan
  clear ha hb
  go_enter Try.func11, Try.ntmps11
  go_wp2
  go_step3
  go_wp2_with fail
  refine HC1.out.mono ?_; rintro e w1 ⟨A3, c3, rfl, hown1, hbel1, hc1, hc2⟩
  have HC2 := Lib.hid (clipped_any A2 n2 c2 zb B w1 (HSB.out.below (hbel1.mono hB)) (Nat.le_trans hB hbel1.size) (by omega))
  have HB1 := Lib.hid hbel1; have HO1 := Lib.hid hown1
  have hs1 := hbel1.size
  clear hown1 hbel1 HC1 HSB
  go_wp2_with fail
  refine HC2.out.mono ?_; rintro e w2 ⟨A4, c4, rfl, hown2, hbel2, hc3, hc4⟩
  have HB2 := Lib.hid (HB1.out.trans (hbel2.mono hs1))
  have HSA := Lib.hid (Sees.of_own (own_below HO1.out hbel2 (Nat.le_refl _)))
  have HSB := Lib.hid (Sees.of_own hown2)
  have hs2 := HB2.out.size
  clear hown2 hbel2 HC2 HB1 HO1
  generalize bothT za zb = tot at *
  generalize clip za = ls at *
  generalize clip zb = ms at *
  generalize hn3 : ls.length = n3 at *
  generalize hm3 : ms.length = m3 at *
  have HN3 := Lib.hid hn3; have HM3 := Lib.hid hm3; clear hn3 hm3
  go_wp2_with fail
  go_step3
  go_wp2_with fail
  go_loopg [5, 6, 17] n3 (fun g x5 x6 x16 wr => ∃ (i at_ : Nat) (v : Value) (ts : List (Int × Int)), i + g = n3 ∧ at_ ≤ m3 ∧ x5 = v ∧ x6 = .int .i64 at_ ∧ x16 = .int .i64 i ∧ wr.ownsRow w2.heap.size 28 2 v ts.length (smps ts) ∧ Below w2.heap.size w2 wr ∧ ts.length ≤ i + at_ ∧ tot = ts ++ bothF (ls.drop i) (ms.drop at_))
  case atStart => exact ⟨0, 0, _, [], by omega, Nat.zero_le _, rfl, rfl, rfl, World.ownsRow_nil _ _ _ _, Below.refl _ _, by simp, HTOT.out⟩
  case round =>
    obtain ⟨i, at_, v, ts, hig, hatm, rfl, rfl, rfl, hown, hbel, htl, htot⟩ := hrel
    have HO := Lib.hid hown; have HBL := Lib.hid hbel; have HT := Lib.hid htot
    clear hown hbel htot
    cases gk with
    | zero =>
      obtain rfl : i = n3 := by omega
      have he : tot = ts := by rw [HT.out, List.drop_of_length_le (show ls.length ≤ i by rw [HN3.out]; exact Nat.le_refl _)]; simp [bothF]
      have HE := Lib.hid he; clear he
      obtain ⟨A5, c5, rfl, hc5, hc6⟩ := own_slice HO.out
      have HOM := Lib.hid (own_mono HO.out hs2)
      have HBB := Lib.hid (HB2.out.trans (HBL.out.mono hs2))
      clear HO HBL
      go_wp2_with fail
      try rw [Exit.noGoto_ret]
      go_ret
      rw [HE.out]
      exact ownAns HOM.out HBB.out rfl hc5 hc6
    | succ g =>
      have hin : i < n3 := by omega
      obtain ⟨ad, hil, rfl, c0, c1⟩ := (HSA.out.below HBL.out).smp hin
      have HDL := Lib.hid (List.drop_eq_getElem_cons hil)
      have hbnd := HIA.out ls[i] (List.getElem_mem _)
      have hal := World.block_lt_of_cell? wr _ c0
      generalize ls[i] = p at *
      obtain ⟨xf, xt⟩ := p
      simp only at c0 c1 hbnd
      have HL0 := Lib.hid (LessAt.start (a := xf) (b := xt) HO.out HBL.out)
      have HT1 := Lib.hid (show tot = ts ++ bin (bothF (ls.drop (i + 1))) (xf, xt) (ms.drop at_) by rw [HT.out, HDL.out]; rfl)
      obtain ⟨bx, hbx⟩ : ∃ bx, wr.heap.size = bx := ⟨_, rfl⟩
      rw [hbx] at HL0
      clear HO HBL HT HDL
      go_wp2_with fail
      go_loopg [5, 6] (m3 - at_) (fun g x5 x6 wy => ∃ (at2 : Nat) (v2 : Value) (ts2 : List (Int × Int)), at2 + g = m3 ∧ x5 = v2 ∧ x6 = .int .i64 at2 ∧ LessAt w2 bx ts2 (xf, xt) wy v2 ∧ ts2.length ≤ i + at2 ∧ tot = ts2 ++ bin (bothF (ls.drop (i + 1))) (xf, xt) (ms.drop at2))
      case atStart => exact ⟨at_, _, ts, by omega, rfl, rfl, HL0.out, htl, HT1.out⟩
      case round =>
        clear HT1 HL0 hbx c0 c1 hal hatm htl ts at_
        obtain ⟨at2, v2, ts2, hag, rfl, rfl, hlat, htl, htot2⟩ := hrel
        have HT2 := Lib.hid htot2; clear htot2
        have e0 : wr.cell? ⟨bx, 0, none⟩ = some (.int .i64 xf) := hlat.1.cell 0
        have e1 : wr.cell? ⟨bx, 1, none⟩ = some (.int .i64 xt) := hlat.1.cell 1
        have hbx := hlat.1.lt
        have hws : w2.heap.size ≤ wr.heap.size := hlat.2.2.1.size
        have HLA := Lib.hid hlat; clear hlat
        cases gk with
        | zero =>
          obtain rfl : at2 = m3 := by omega
          have HDM := Lib.hid (show ms.drop at2 = [] from List.drop_of_length_le (by rw [HM3.out]; exact Nat.le_refl _))
          have HE := Lib.hid (show tot = ts2 by rw [HT2.out, HDM.out]; simp [bin])
          have HOW := Lib.hid HLA.out.2.1
          have HBW := Lib.hid HLA.out.2.2.1
          obtain ⟨A5, c5, rfl, hc5, hc6⟩ := own_slice HOW.out
          have HOM := Lib.hid (own_mono HOW.out hs2)
          have HBB := Lib.hid (HB2.out.trans (HBW.out.mono hs2))
          clear HLA HOW HBW
          go_wp2_with fail
          try rw [Exit.noGoto_ret]
          go_ret
          rw [HE.out]
          exact ownAns HOM.out HBB.out rfl hc5 hc6
        | succ g2 =>
          have hin2 : at2 < m3 := by omega
          have hin3 : (at2 : Int) < m3 := by omega
          obtain ⟨ad2, hml, rfl, d0, d1⟩ := (HSB.out.below HLA.out.2.2.1).smp hin2
          have HDM := Lib.hid (List.drop_eq_getElem_cons hml)
          have hby := HIB.out ms[at2] (List.getElem_mem _)
          have hal := World.block_lt_of_cell? wr _ d0
          generalize ms[at2] = q at *
          obtain ⟨yf, yt⟩ := q
          simp only at d0 d1 hby
          obtain ⟨m1, hm1⟩ : ∃ m1 : Int, (if xf < yf then yf else xf) = m1 := ⟨_, rfl⟩
          obtain ⟨m2, hm2⟩ : ∃ m2 : Int, (if yt < xt then yt else xt) = m2 := ⟨_, rfl⟩
          have HIN := Lib.hid (show bin (bothF (ls.drop (i + 1))) (xf, xt) (ms.drop at2) = (if m1 ≤ m2 then [(m1, m2)] else []) ++ (if yt > xt then bothF (ls.drop (i + 1)) (ms.drop at2) else bin (bothF (ls.drop (i + 1))) (xf, xt) (ms.drop (at2 + 1))) by rw [HDM.out, ← hm1, ← hm2]; rfl)
          clear HDM
          have hmx : max xf yf = m1 := by rw [← hm1]; split <;> omega
          have hmn : min xt yt = m2 := by rw [← hm2]; split <;> omega
          have HLY := Lib.hid ((HLA.out.alloc (.cells #[.int .i64 yf, .int .i64 yt] 28)).alloc (.cells #[.int .i64 m1, .int .i64 m2] 28))
          have HKY := Lib.hid (show Blk ((wr.alloc (.cells #[.int .i64 yf, .int .i64 yt] 28)).alloc (.cells #[.int .i64 m1, .int .i64 m2] 28)) wr.heap.size 28 [.int .i64 yf, .int .i64 yt] from Blk.alloc (Blk.mk (heap_alloc_new wr _)) _)
          have HVY : Hid (u5.ownBlock ≠ some wr.heap.size) := fun e => by have := (HLA.out.2.1.lt _ e).2; omega
          obtain ⟨yb, hyb⟩ : ∃ yb, wr.heap.size = yb := ⟨_, rfl⟩
          rw [hyb] at HKY HVY hbx
          clear HLA
          go_upto_if 44 with fail
          go_cut [5] (fun x5 wx => ∃ ts3, LessAt w2 bx ts3 (xf, xt) wx x5 ∧ Blk wx yb 28 [.int .i64 yf, .int .i64 yt] ∧ bx ≠ yb ∧ ts3.length ≤ i + at2 + 1 ∧ ts3 = ts2 ++ (if m1 ≤ m2 then [(m1, m2)] else []))
          case first =>
            by_cases hlt : m1 ≤ m2
            · have HL2 := Lib.hid (HLY.out.alloc (.cells #[.int .i64 m1, .int .i64 m2] 28))
              have HX := Lib.hid (pair_sees2 (w := wr.alloc (.cells #[.int .i64 yf, .int .i64 yt] 28)) (o := .cells #[.int .i64 m1, .int .i64 m2] 28) (t := 28) m1 m2)
              have HX2 := Lib.hid (show Sees (((wr.alloc (.cells #[.int .i64 yf, .int .i64 yt] 28)).alloc (.cells #[.int .i64 m1, .int .i64 m2] 28)).alloc (.cells #[.int .i64 m1, .int .i64 m2] 28)) (((wr.alloc (.cells #[.int .i64 yf, .int .i64 yt] 28)).alloc (.cells #[.int .i64 m1, .int .i64 m2] 28)).alloc (.cells #[.int .i64 m1, .int .i64 m2] 28)).heap.size 2 (some ⟨yb + 1 + 1, 0, none⟩) 1 (smps [(m1, m2)]) by
                have h := HX.out
                rwa [show (wr.alloc (.cells #[.int .i64 yf, .int .i64 yt] 28)).heap.size + 1 = yb + 1 + 1 by rw [← hyb]; simp] at h)
              have HOW := Lib.hid HL2.out.2.1
              have HKY2 := Lib.hid (HKY.out.alloc (.cells #[.int .i64 m1, .int .i64 m2] 28))
              clear HX HLY HKY
              go_wp2_with (at_builtin; refine wpList_append_at rfl (.tmp 45) (.tmp 47) 24 rfl w2.heap.size 28 i0 (.agg #[.int .i64 0, .int .i64 0]) 2 16 Try.underlying24 hi hz0 hz1 hz2 rfl (by decide) _ ts2.length (smps ts2) rfl HOW.out _ _ 1 1 (smps [(m1, m2)]) rfl HX2.out (smps_one _) (by unfold maxLen; omega) (by omega) (by simp; omega) ?_)
              intro v3 w3 hown3 hgr3 hwh3
              have R := Lib.hid (HL2.out.push hown3 hgr3 hwh3)
              have R2 := Lib.hid (HL2.out.other HKY2.out HVY.out hgr3)
              clear hown3 hgr3 hwh3 HX2 HL2 HOW HKY2
              go_wp2_with fail
              go_meet
              exact ⟨_, R.out, R2.out, by omega, by rw [List.length_append, List.length_singleton]; omega, by rw [if_pos hlt]⟩
            · go_wp2_with fail
              go_meet
              exact ⟨_, HLY.out, HKY.out, by omega, by omega, by rw [if_neg (by omega), List.append_nil]⟩
          case rest =>
            obtain ⟨ts3, hlat3, hky3, hxy, htl3, hts3⟩ := hcut
            have e3 := hky3.cell 1
            have e4 := hlat3.1.cell 1
            simp only [List.getElem?_cons_zero, List.getElem?_cons_succ] at e3 e4
            have HSET := Lib.hid hlat3
            have HTS := Lib.hid hts3
            clear hlat3 hky3 hts3 d0 d1 e0 e1 hyb hws hbx hal hmx hmn hm1 hm2
            by_cases hgt : yt > xt
            · have HTT := Lib.hid (show tot = ts3 ++ bothF (ls.drop (i + 1)) (ms.drop at2) by rw [HT2.out, HIN.out, if_pos hgt, ← List.append_assoc, ← HTS.out])
              go_wp2_with fail
              go_roundg g
              case measure => omega
              case rel => exact ⟨i + 1, at2, _, ts3, by omega, by omega, rfl, rfl, by go_num, HSET.out.2.1, HSET.out.2.2.1, by omega, HTT.out⟩
            · have HTT := Lib.hid (show tot = ts3 ++ bin (bothF (ls.drop (i + 1))) (xf, xt) (ms.drop (at2 + 1)) by rw [HT2.out, HIN.out, if_neg hgt, ← List.append_assoc, ← HTS.out])
              go_wp2_with fail
              go_roundg g2
              case measure => omega
              case rel => exact ⟨at2 + 1, _, ts3, by omega, rfl, by go_num, HSET.out, by omega, HTT.out⟩
end Go.Proofs.Ytogdollfndpleaa
