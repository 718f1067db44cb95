/- expr.reader: matcher. -/
import Derived.Test.YtnkbpcenkbihpaaDoorRead3
import Derived.Test.YtnkbpcenkbihpaaDoorBase
import Derived.Test.YtnkbpcenkbihpaaDoorFieldTok
namespace Go.Proofs.YtnkbpcenkbihpaaDoor
open Go.ChangeShapes Go.WideShapes Go.ChangeAt Go.RowKit
set_option linter.unusedVariables false
set_option linter.unusedSimpArgs false
set_option maxRecDepth 100000
/-- A matcher's sign: its kind, and where the reader is then. -/
def opF (ts : List Tok) (en : Int) (s : PS) : Int × PS := if isF ts s 4 ⟨#[61]⟩ = true then (1, nextF s) else if isF ts s 4 ⟨#[33, 61]⟩ = true then (2, nextF s) else if isF ts s 4 ⟨#[94, 61]⟩ = true then (3, nextF s) else if isF ts s 4 ⟨#[33, 94]⟩ = true then (4, nextF s) else (0, failF ts en s 1)
def matcherF (ts : List Tok) (en : Int) (s : PS) : Mtc × PS :=
  (((takeF ts en s 2).1.tx, (takeF ts en (opF ts en (takeF ts en s 2).2).2 3).1.tx, (opF ts en (takeF ts en s 2).2).1), (takeF ts en (opF ts en (takeF ts en s 2).2).2 3).2)
section
variable {b n c : Nat} {A : Option Addr} {ts : List Tok} {en : Int} {s : PS} {kd : Int} {tx : ByteArray} {w : World}
theorem skip_yes (h : RdAt b A n c ts en s w) (hk : kd ≠ 0) (hn : n ≤ 1000000) (hq : isF ts s kd tx = true) :
    Calls Tryd.prog 86 #[.pointer (some ⟨b, 0, none⟩), .int .i64 kd, .string tx] w fun e w' => e = .returned (.bool true) ∧ Moved b A n c ts en (nextF s) w w' := by
  have h1 := skip_any b A n c ts en s kd tx w h hk hn
  unfold skipF at h1; rw [if_pos hq] at h1; exact h1
theorem skip_no (h : RdAt b A n c ts en s w) (hk : kd ≠ 0) (hn : n ≤ 1000000) (hq : isF ts s kd tx = false) :
    Calls Tryd.prog 86 #[.pointer (some ⟨b, 0, none⟩), .int .i64 kd, .string tx] w fun e w' => e = .returned (.bool false) ∧ Moved b A n c ts en s w w' := by
  have h1 := skip_any b A n c ts en s kd tx w h hk hn
  unfold skipF at h1; rw [if_neg (by rw [hq]; simp)] at h1; exact h1
end
/-- Within matcher: both boxes, the reader. -/
structure MbAt (b : Nat) (A : Option Addr) (n c : Nat) (ts : List Tok) (en : Int) (s : PS) (w0 : World) (g2 g3 : Nat) (a v : ByteArray) (k : Int) (w : World) : Prop where
  rd : RdAt b A n c ts en s w
  only : Only b w0 w
  z : Blk w g2 54 [.string ⟨#[]⟩, .string ⟨#[]⟩, .int .i64 0]
  m : Blk w g3 54 [.string a, .string v, .int .i64 k]
  l2 : w0.heap.size ≤ g2
  l3 : g2 < g3
  lb : b < w0.heap.size
section
variable {b n c g2 g3 : Nat} {A : Option Addr} {ts : List Tok} {en : Int} {s s' : PS} {w0 w w' : World} {a v : ByteArray} {k : Int}
theorem MbAt.moved (h : MbAt b A n c ts en s w0 g2 g3 a v k w) (hm : Moved b A n c ts en s' w w') : MbAt b A n c ts en s' w0 g2 g3 a v k w' :=
  ⟨hm.rd, h.only.trans hm.only, h.z.only hm.only (by have := h.l2; have := h.lb; omega), h.m.only hm.only (by have := h.l2; have := h.lb; have := h.l3; omega), h.l2, h.l3, h.lb⟩
theorem MbAt.kind (h : MbAt b A n c ts en s w0 g2 g3 a v k w) (h0 : RdAt b A n c ts en s' w0) (j : Int) : MbAt b A n c ts en s w0 g2 g3 a v j (w.setCell ⟨g3, 2, none⟩ (.int .i64 j)) := by
  have h2 := h.l2; have h3 := h.l3; have hb := h.lb
  have ho := h.only.setNew (g := g3) (by omega) 2 (.int .i64 j)
  exact ⟨h0.of (h.rd.blk.far (p := ⟨g3, 2, none⟩) (show b ≠ g3 by omega) _) ho h.rd.le, ho, h.z.far (p := ⟨g3, 2, none⟩) (show g2 ≠ g3 by omega) _, h.m.set 2 _, h2, h3, hb⟩
theorem MbAt.val (h : MbAt b A n c ts en s w0 g2 g3 a v k w) (h0 : RdAt b A n c ts en s' w0) (x : ByteArray) : MbAt b A n c ts en s w0 g2 g3 a x k (w.setCell ⟨g3, 1, none⟩ (.string x)) := by
  have h2 := h.l2; have h3 := h.l3; have hb := h.lb
  have ho := h.only.setNew (g := g3) (by omega) 1 (.string x)
  exact ⟨h0.of (h.rd.blk.far (p := ⟨g3, 1, none⟩) (show b ≠ g3 by omega) _) ho h.rd.le, ho, h.z.far (p := ⟨g3, 1, none⟩) (show g2 ≠ g3 by omega) _, h.m.set 1 _, h2, h3, hb⟩
theorem blk_cells3 {w : World} {b : Nat} {t : TypeId} {x0 x1 x2 : Value} (h : Blk w b t [x0, x1, x2]) : w.cell? ⟨b, 0, none⟩ = some x0 ∧ w.cell? ⟨b, 1, none⟩ = some x1 ∧ w.cell? ⟨b, 2, none⟩ = some x2 := ⟨h.cell 0, h.cell 1, h.cell 2⟩
end
set_option maxHeartbeats 4000000 in
theorem matcher_x (b : Nat) (A : Option Addr) (n c : Nat) (ts : List Tok) (en : Int) (s : PS) (w : World) (h : RdAt b A n c ts en s w) (hn : n ≤ 1000000) :
    Calls Tryd.prog 87 #[.pointer (some ⟨b, 0, none⟩)] w fun e w' => e = .returned (.agg #[.string (matcherF ts en s).1.1, .string (matcherF ts en s).1.2.1, .int .i64 (matcherF ts en s).1.2.2]) ∧ Moved b A n c ts en (matcherF ts en s).2 w w' := by
  have HR0 := Lib.hid h
  have HR := Lib.hid (h.alloc (.cells #[.string ⟨#[]⟩, .string ⟨#[]⟩, .int .i64 0] 54))
  have HB := Lib.hid ((Below.refl w.heap.size w).alloc (Nat.le_refl _) (.cells #[.string ⟨#[]⟩, .string ⟨#[]⟩, .int .i64 0] 54))
  have HK := Lib.hid (Blk.mk (heap_alloc_new w (.cells #[.string ⟨#[]⟩, .string ⟨#[]⟩, .int .i64 0] 54)) : Blk _ w.heap.size 54 [.string ⟨#[]⟩, .string ⟨#[]⟩, .int .i64 0])
  have HT1 := Lib.hid (take_any b A n c ts en s 2 (w.alloc (.cells #[.string ⟨#[]⟩, .string ⟨#[]⟩, .int .i64 0] 54)) (h.alloc _) (by decide) hn)
  have hbw : b < w.heap.size := h.blk.lt
  have HMF : Hid (∃ t1 s1 k2 s2 t3 s3, takeF ts en s 2 = (t1, s1) ∧ opF ts en s1 = (k2, s2) ∧ takeF ts en s2 3 = (t3, s3) ∧ matcherF ts en s = ((t1.tx, t3.tx, k2), s3)) := Lib.hid ⟨_, _, _, _, _, _, rfl, rfl, rfl, rfl⟩
  obtain ⟨t1, s1, k2, s2, t3, s3, e1, e2, e3, e4⟩ := HMF.out
  rw [e1] at HT1
  have HOP := Lib.hid e2; have HE3 := Lib.hid e3; have HE4 := Lib.hid e4
  clear h e1 e2 e3 e4 HMF
  have HG := Lib.hid (show ∃ g, w.heap.size = g from ⟨_, rfl⟩)
  unfold Tok.val at HT1
  go_enter Tryd.func87, Tryd.ntmps87
  go_upto_region 1 with fail
  obtain ⟨g2, hg2'⟩ := HG.out
  rw [hg2']
  have HGE := Lib.hid hg2'
  rw [hg2'] at hbw
  clear HG hg2'
  generalize w.alloc (.cells #[.string ⟨#[]⟩, .string ⟨#[]⟩, .int .i64 0] 54) = W1 at *
  rw [HGE.out] at HK
  go_wp2_with fail
  (with_reducible refine HT1.out.mono ?_); rintro e w1 ⟨rfl, hm1⟩
  have HMB : Hid (MbAt b A n c ts en s1 w g2 w1.heap.size t1.tx ⟨#[]⟩ 0 (w1.alloc (.cells #[.string t1.tx, .string ⟨#[]⟩, .int .i64 0] 54))) := Lib.hid ⟨hm1.rd.alloc _, ((Only.of_below HB.out).trans hm1.only).alloc _, (HK.out.only hm1.only (by omega)).alloc _, Blk.mk (heap_alloc_new w1 _), by rw [HGE.out]; exact Nat.le_refl _, by have := HK.out.lt; have := hm1.only.size; omega, by rw [HGE.out]; exact hbw⟩
  have HG1 := Lib.hid (show ∃ g, w1.heap.size = g from ⟨_, rfl⟩)
  clear hm1 HT1 HR HB HK
  go_upto_block 0 with fail
  obtain ⟨g3, hg3'⟩ := HG1.out
  rw [hg3']
  have HG3 := Lib.hid hg3'
  clear HG1 hg3'
  generalize w1.alloc (.cells #[.string t1.tx, .string ⟨#[]⟩, .int .i64 0] 54) = W2 at *
  rw [HG3.out] at HMB
  go_cut [] from 8 to 25 (fun wx => MbAt b A n c ts en s2 w g2 g3 t1.tx ⟨#[]⟩ k2 wx)
  case first =>
    have HM0 := HMB
    cases hq0 : isF ts s1 4 ⟨#[61]⟩ with
    | true =>
      have HX := Lib.hid (show (k2, s2) = ((1 : Int), nextF s1) by rw [← HOP.out]; unfold opF; rw [if_pos hq0])
      have HS := Lib.hid (skip_yes (tx := ⟨#[61]⟩) HM0.out.rd (show (4 : Int) ≠ 0 by decide) hn hq0)
      clear hq0
      go_wp2_with fail
      (with_reducible refine HS.out.mono ?_); rintro e w5 ⟨rfl, hm⟩
      have HMX := Lib.hid (HM0.out.moved hm)
      have HMY := Lib.hid (HMX.out.kind HR0.out 1)
      clear hm
      obtain ⟨x0, x1, x2⟩ := blk_cells3 HMX.out.m
      have f2 := HMX.out.m.frozen 2
      go_wp2_with fail
      go_meet
      have hx := HX.out
      injection hx with hx1 hx2
      rw [hx1, hx2]; exact HMY.out
    | false =>
      have HS := Lib.hid (skip_no (tx := ⟨#[61]⟩) HM0.out.rd (show (4 : Int) ≠ 0 by decide) hn hq0)
      go_wp2_with fail
      (with_reducible refine HS.out.mono ?_); rintro e w5 ⟨rfl, hm⟩
      have HM1 := Lib.hid (HM0.out.moved hm)
      clear hm HS
      cases hq1 : isF ts s1 4 ⟨#[33, 61]⟩ with
      | true =>
        have HX := Lib.hid (show (k2, s2) = ((2 : Int), nextF s1) by rw [← HOP.out]; unfold opF; rw [if_neg (by rw [hq0]; simp), if_pos hq1])
        have HS := Lib.hid (skip_yes (tx := ⟨#[33, 61]⟩) HM1.out.rd (show (4 : Int) ≠ 0 by decide) hn hq1)
        clear hq0 hq1
        go_wp2_with fail
        (with_reducible refine HS.out.mono ?_); rintro e w6 ⟨rfl, hm⟩
        have HMX := Lib.hid (HM1.out.moved hm)
        have HMY := Lib.hid (HMX.out.kind HR0.out 2)
        clear hm
        obtain ⟨x0, x1, x2⟩ := blk_cells3 HMX.out.m
        have f2 := HMX.out.m.frozen 2
        go_wp2_with fail
        go_meet
        have hx := HX.out
        injection hx with hx1 hx2
        rw [hx1, hx2]; exact HMY.out
      | false =>
        have HS := Lib.hid (skip_no (tx := ⟨#[33, 61]⟩) HM1.out.rd (show (4 : Int) ≠ 0 by decide) hn hq1)
        go_wp2_with fail
        (with_reducible refine HS.out.mono ?_); rintro e w6 ⟨rfl, hm⟩
        have HM2 := Lib.hid (HM1.out.moved hm)
        clear hm HS
        cases hq2 : isF ts s1 4 ⟨#[94, 61]⟩ with
        | true =>
          have HX := Lib.hid (show (k2, s2) = ((3 : Int), nextF s1) by rw [← HOP.out]; unfold opF; rw [if_neg (by rw [hq0]; simp), if_neg (by rw [hq1]; simp), if_pos hq2])
          have HS := Lib.hid (skip_yes (tx := ⟨#[94, 61]⟩) HM2.out.rd (show (4 : Int) ≠ 0 by decide) hn hq2)
          clear hq0 hq1 hq2
          go_wp2_with fail
          (with_reducible refine HS.out.mono ?_); rintro e w7 ⟨rfl, hm⟩
          have HMX := Lib.hid (HM2.out.moved hm)
          have HMY := Lib.hid (HMX.out.kind HR0.out 3)
          clear hm
          obtain ⟨x0, x1, x2⟩ := blk_cells3 HMX.out.m
          have f2 := HMX.out.m.frozen 2
          go_wp2_with fail
          go_meet
          have hx := HX.out
          injection hx with hx1 hx2
          rw [hx1, hx2]; exact HMY.out
        | false =>
          have HS := Lib.hid (skip_no (tx := ⟨#[94, 61]⟩) HM2.out.rd (show (4 : Int) ≠ 0 by decide) hn hq2)
          go_wp2_with fail
          (with_reducible refine HS.out.mono ?_); rintro e w7 ⟨rfl, hm⟩
          have HM3 := Lib.hid (HM2.out.moved hm)
          clear hm HS
          cases hq3 : isF ts s1 4 ⟨#[33, 94]⟩ with
          | true =>
            have HX := Lib.hid (show (k2, s2) = ((4 : Int), nextF s1) by rw [← HOP.out]; unfold opF; rw [if_neg (by rw [hq0]; simp), if_neg (by rw [hq1]; simp), if_neg (by rw [hq2]; simp), if_pos hq3])
            have HS := Lib.hid (skip_yes (tx := ⟨#[33, 94]⟩) HM3.out.rd (show (4 : Int) ≠ 0 by decide) hn hq3)
            clear hq0 hq1 hq2 hq3
            go_wp2_with fail
            (with_reducible refine HS.out.mono ?_); rintro e w8 ⟨rfl, hm⟩
            have HMX := Lib.hid (HM3.out.moved hm)
            have HMY := Lib.hid (HMX.out.kind HR0.out 4)
            clear hm
            obtain ⟨x0, x1, x2⟩ := blk_cells3 HMX.out.m
            have f2 := HMX.out.m.frozen 2
            go_wp2_with fail
            go_meet
            have hx := HX.out
            injection hx with hx1 hx2
            rw [hx1, hx2]; exact HMY.out
          | false =>
            have HS := Lib.hid (skip_no (tx := ⟨#[33, 94]⟩) HM3.out.rd (show (4 : Int) ≠ 0 by decide) hn hq3)
            go_wp2_with fail
            (with_reducible refine HS.out.mono ?_); rintro e w8 ⟨rfl, hm⟩
            have HM4 := Lib.hid (HM3.out.moved hm)
            clear hm HS
            have HX := Lib.hid (show (k2, s2) = ((0 : Int), failF ts en s1 1) by rw [← HOP.out]; unfold opF; rw [if_neg (by rw [hq0]; simp), if_neg (by rw [hq1]; simp), if_neg (by rw [hq2]; simp), if_neg (by rw [hq3]; simp)])
            have HF := Lib.hid (fail_any b A n c ts en s1 1 _ HM4.out.rd)
            go_wp2_with fail
            (with_reducible refine HF.out.mono ?_); rintro e wf ⟨rfl, hmf⟩
            have HMF := Lib.hid (HM4.out.moved hmf)
            clear hmf
            go_wp2_with fail
            go_meet
            have hx := HX.out
            injection hx with hx1 hx2
            rw [hx1, hx2]; exact HMF.out
  case rest =>
    have HM := Lib.hid hcut
    have HT3 := Lib.hid (take_any b A n c ts en s2 3 _ hcut.rd (by decide) hn)
    rw [HE3.out] at HT3
    unfold Tok.val at HT3
    clear hcut HMB
    go_wp2_with fail
    (with_reducible refine HT3.out.mono ?_); rintro e w6 ⟨rfl, hm⟩
    have HM2 := Lib.hid (HM.out.moved hm)
    have HM3 := Lib.hid (HM2.out.val HR0.out t3.tx)
    clear hm HM HT3
    obtain ⟨x0, x1, x2⟩ := blk_cells3 HM2.out.m
    have f1 := HM2.out.m.frozen 1
    go_upto_region 12 with fail
    generalize w6.setCell ⟨g3, 1, none⟩ (.string t3.tx) = W6 at *
    clear x0 x1 x2 f1 HM2
    obtain ⟨x0, x1, x2⟩ := blk_cells3 HM3.out.m
    obtain ⟨y0, y1, y2⟩ := blk_cells3 HM3.out.z
    have f0 := HM3.out.z.frozen 0
    have f1 := HM3.out.z.frozen 1
    have f2 := HM3.out.z.frozen 2
    have hbg : b ≠ g2 := by have := HM3.out.l2; have := HM3.out.lb; omega
    have HO := Lib.hid (((HM3.out.only.setNew HM3.out.l2 0 (.string t1.tx)).setNew HM3.out.l2 1 (.string t3.tx)).setNew HM3.out.l2 2 (.int .i64 k2))
    have HZ := Lib.hid (((HM3.out.z.set 0 (.string t1.tx)).set 1 (.string t3.tx)).set 2 (.int .i64 k2))
    have HRF := Lib.hid (HR0.out.of (s' := s3) (((HM3.out.rd.blk.far (p := ⟨g2, 0, none⟩) hbg (.string t1.tx)).far (p := ⟨g2, 1, none⟩) hbg (.string t3.tx)).far (p := ⟨g2, 2, none⟩) hbg (.int .i64 k2)) HO.out HM3.out.rd.le)
    go_wp2_with fail
    obtain ⟨q0, q1, q2⟩ := blk_cells3 HZ.out
    refine bodyPost_ret (v := .agg #[.string t1.tx, .string t3.tx, .int .i64 k2]) (by simp [results, Tryd.results87, go_sem, q0, q1, q2]) rfl ?_
    exact ⟨by rw [HE4.out], by rw [HE4.out]; exact ⟨HRF.out, HO.out⟩⟩
end Go.Proofs.YtnkbpcenkbihpaaDoor
