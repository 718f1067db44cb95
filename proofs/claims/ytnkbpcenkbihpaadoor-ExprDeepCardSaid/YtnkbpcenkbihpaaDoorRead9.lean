/- expr.reader: ofTwo walked. -/
import Derived.Test.YtnkbpcenkbihpaaDoorRead8
namespace Go.Proofs.YtnkbpcenkbihpaaDoor
open Go.ChangeShapes Go.WideShapes Go.ChangeAt Go.RowKit
set_option linter.unusedVariables false
set_option linter.unusedSimpArgs false
set_option maxRecDepth 100000
set_option maxHeartbeats 4000000 in
theorem two_x (b : Nat) (A : Option Addr) (n c : Nat) (ts : List Tok) (en : Int) (f : Nat) (IH : ExprSaid b A n c ts en f) (hn : n ≤ 1000000) (deep : Nat) (s : PS) (w : World) (hd : deep + (f + 1) = 9) (h : RdAt b A n c ts en s w) :
    Calls Tryd.prog 72 #[.pointer (some ⟨b, 0, none⟩), .int .i64 (deep : Nat)] w fun e w' => XAns b A n c ts en (f + 2) (ofTwoF ts en (exprF ts en n f) s) w e w' := by
  have HR0 := Lib.hid h
  have hbw : b < w.heap.size := h.blk.lt
  have HIH := Lib.hid IH
  have hde : IntKind.i64.wrap ((deep : Int) + 1) = (deep : Int) + 1 := by rw [IntKind.wrap_i64]; omega
  have HD := Lib.hid hd
  have HMU := Lib.hid (must_any b A n c ts en s 4 ⟨#[40]⟩ (w.alloc (.cells #[.int .i64 0, .int .i64 0, .slice none 0 0, .slice none 0 0, .slice none 0 0] 26)) (h.alloc _) (by decide) hn)
  have HZ0 := Lib.hid (Blk.mk (heap_alloc_new w (.cells #[.int .i64 0, .int .i64 0, .slice none 0 0, .slice none 0 0, .slice none 0 0] 26)) : Blk _ w.heap.size 26 [.int .i64 0, .int .i64 0, .slice none 0 0, .slice none 0 0, .slice none 0 0])
  have HM0 : Hid (Only b w (w.alloc (.cells #[.int .i64 0, .int .i64 0, .slice none 0 0, .slice none 0 0, .slice none 0 0] 26))) := Lib.hid ((Only.refl b w).alloc _)
  have HFF : Hid (∃ s1 t1 s2 k s3 t2 s4 s5, mustF ts en s 4 ⟨#[40]⟩ = s1 ∧ exprF ts en n f s1 = (t1, s2) ∧ betweenF ts en s2 = (k, s3) ∧ exprF ts en n f s3 = (t2, s4) ∧ mustF ts en s4 4 ⟨#[41]⟩ = s5 ∧ ofTwoF ts en (exprF ts en n f) s = (.mk k 0 [] [] [t1, t2], s5)) := Lib.hid ⟨_, _, _, _, _, _, _, _, rfl, rfl, rfl, rfl, rfl, rfl⟩
  obtain ⟨s1, t1, s2, k, s3, t2, s4, s5, e1, e2, e3, e4, e5, e6⟩ := HFF.out
  rw [e1] at HMU
  rw [e6]
  have E2 := Lib.hid e2; have E3 := Lib.hid e3; have E4 := Lib.hid e4; have E5 := Lib.hid e5
  clear h e1 e2 e3 e4 e5 e6 HFF IH hd
  have HG := Lib.hid (show ∃ g, w.heap.size = g from ⟨_, rfl⟩)
  go_enter Tryd.func72, Tryd.ntmps72
  go_upto_region 1 with fail
  obtain ⟨g4, hg4⟩ := HG.out
  rw [hg4]
  rw [hg4] at HZ0
  have hwg : w.heap.size ≤ g4 := by omega
  clear HG hg4
  generalize w.alloc (.cells #[.int .i64 0, .int .i64 0, .slice none 0 0, .slice none 0 0, .slice none 0 0] 26) = W1 at *
  go_wp2_with fail
  (with_reducible refine HMU.out.mono ?_); rintro e w1 ⟨rfl, hm⟩
  have HMv1 : Hid (Moved b A n c ts en s1 w w1) := Lib.hid ⟨hm.rd, HM0.out.trans hm.only⟩
  have HZ1 := Lib.hid (HZ0.out.only hm.only (by omega))
  have HC1 := Lib.hid (HIH.out (deep + 1) s1 w1 (by have := HD.out; omega) hm.rd)
  rw [E2.out, show ((deep + 1 : Nat) : Int) = (deep : Int) + 1 from rfl] at HC1
  clear hm HMU HM0 HZ0
  go_wp2_with fail
  (with_reducible refine HC1.out.mono ?_); rintro e w2 hx
  obtain ⟨xk, xn, A1, c1, xms, A2, c2, xns, A3, c3, xks, rfl, hp, hf, hm⟩ := hx.forms
  have HP1 := Lib.hid hp
  have hl4 := HZ1.out.lt
  have HK1 := Lib.hid (Kid.made hf hm.only.size)
  have HMv2 : Hid (Moved b A n c ts en s2 w (w2.alloc (.cells #[.int .i64 xk, .int .i64 xn, .slice A1 xms.length c1, .slice A2 xns.length c2, .slice A3 xks.length c3] 26))) := Lib.hid ⟨hm.rd.alloc _, (HMv1.out.only.trans hm.only).alloc _⟩
  have HZ2 := Lib.hid ((HZ1.out.only hm.only (by omega)).alloc (.cells #[.int .i64 xk, .int .i64 xn, .slice A1 xms.length c1, .slice A2 xns.length c2, .slice A3 xks.length c3] 26))
  have HBT := Lib.hid (between_any b A n c ts en s2 (w2.alloc (.cells #[.int .i64 xk, .int .i64 xn, .slice A1 xms.length c1, .slice A2 xns.length c2, .slice A3 xks.length c3] 26)) (hm.rd.alloc _) hn)
  rw [E3.out] at HBT
  have HG5 := Lib.hid (show ∃ g, w2.heap.size = g from ⟨_, rfl⟩)
  have hbs1 : b < w1.heap.size := HMv1.out.rd.blk.lt
  clear hx hp hf hm HC1 HZ1 HMv1
  go_upto_region 3 with fail
  obtain ⟨g5, hg5⟩ := HG5.out
  rw [hg5]
  have HK1' : Hid (Kid (f + 1) w1.heap.size g5 (.mk xk xn (.slice A1 xms.length c1) xms (.slice A2 xns.length c2) xns (.slice A3 xks.length c3) xks) (w2.alloc (.cells #[.int .i64 xk, .int .i64 xn, .slice A1 xms.length c1, .slice A2 xns.length c2, .slice A3 xks.length c3] 26))) := Lib.hid (by have h := HK1.out; rw [hg5] at h; exact h)
  clear HG5 hg5 HK1
  generalize w2.alloc (.cells #[.int .i64 xk, .int .i64 xn, .slice A1 xms.length c1, .slice A2 xns.length c2, .slice A3 xks.length c3] 26) = W3 at *
  go_wp2_with fail
  (with_reducible refine HBT.out.mono ?_); rintro e w4 ⟨rfl, hm⟩
  have HMv3 : Hid (Moved b A n c ts en s3 w w4) := Lib.hid ⟨hm.rd, HMv2.out.only.trans hm.only⟩
  have HZ3 := Lib.hid (HZ2.out.only hm.only (by omega))
  have HK2 := Lib.hid (HK1'.out.grown hm.only.grown hbs1)
  have HC2 := Lib.hid (HIH.out (deep + 1) s3 w4 (by have := HD.out; omega) hm.rd)
  rw [E4.out, show ((deep + 1 : Nat) : Int) = (deep : Int) + 1 from rfl] at HC2
  clear hm HBT HMv2 HZ2 HK1'
  go_wp2_with fail
  (with_reducible refine HC2.out.mono ?_); rintro e w5 hx
  obtain ⟨yk, yn, B1, d1, yms, B2, d2, yns, B3, d3, yks, rfl, hp, hf, hm⟩ := hx.forms
  have HP2 := Lib.hid hp
  have hl44 := HZ3.out.lt
  have HKy := Lib.hid (Kid.made hf hm.only.size)
  have HK3 : Hid (Kid (f + 1) w1.heap.size g5 (.mk xk xn (.slice A1 xms.length c1) xms (.slice A2 xns.length c2) xns (.slice A3 xks.length c3) xks) (w5.alloc (.cells #[.int .i64 yk, .int .i64 yn, .slice B1 yms.length d1, .slice B2 yns.length d2, .slice B3 yks.length d3] 26))) := Lib.hid ((HK2.out.grown hm.only.grown hbs1).grown (only_alloc (World.grownBy.refl w5 (some b)) (.cells #[.int .i64 yk, .int .i64 yn, .slice B1 yms.length d1, .slice B2 yns.length d2, .slice B3 yks.length d3] 26)) hbs1)
  have HMv4 : Hid (Moved b A n c ts en s4 w (w5.alloc (.cells #[.int .i64 yk, .int .i64 yn, .slice B1 yms.length d1, .slice B2 yns.length d2, .slice B3 yks.length d3] 26))) := Lib.hid ⟨hm.rd.alloc _, (HMv3.out.only.trans hm.only).alloc _⟩
  have HZ4 := Lib.hid ((HZ3.out.only hm.only (by omega)).alloc (.cells #[.int .i64 yk, .int .i64 yn, .slice B1 yms.length d1, .slice B2 yns.length d2, .slice B3 yks.length d3] 26))
  have HME := Lib.hid (must_any b A n c ts en s4 4 ⟨#[41]⟩ (w5.alloc (.cells #[.int .i64 yk, .int .i64 yn, .slice B1 yms.length d1, .slice B2 yns.length d2, .slice B3 yks.length d3] 26)) (hm.rd.alloc _) (by decide) hn)
  rw [E5.out] at HME
  have HG7 := Lib.hid (show ∃ g, w5.heap.size = g from ⟨_, rfl⟩)
  have hbs4 : b < w4.heap.size := HMv3.out.rd.blk.lt
  clear hx hp hf hm HC2 HZ3 HMv3 HK2
  go_upto_region 5 with fail
  obtain ⟨g7, hg7⟩ := HG7.out
  rw [hg7]
  have HKy' : Hid (Kid (f + 1) w4.heap.size g7 (.mk yk yn (.slice B1 yms.length d1) yms (.slice B2 yns.length d2) yns (.slice B3 yks.length d3) yks) (w5.alloc (.cells #[.int .i64 yk, .int .i64 yn, .slice B1 yms.length d1, .slice B2 yns.length d2, .slice B3 yks.length d3] 26))) := Lib.hid (by have h := HKy.out; rw [hg7] at h; exact h)
  clear HG7 hg7 HKy
  generalize w5.alloc (.cells #[.int .i64 yk, .int .i64 yn, .slice B1 yms.length d1, .slice B2 yns.length d2, .slice B3 yks.length d3] 26) = W6 at *
  go_wp2_with fail
  (with_reducible refine HME.out.mono ?_); rintro e w7 ⟨rfl, hm⟩
  have HMv5 : Hid (Moved b A n c ts en s5 w w7) := Lib.hid ⟨hm.rd, HMv4.out.only.trans hm.only⟩
  have HZ5 := Lib.hid (HZ4.out.only hm.only (by omega))
  have HKx := Lib.hid (HK3.out.grown hm.only.grown hbs1)
  have HKz := Lib.hid (HKy'.out.grown hm.only.grown hbs4)
  clear hm HME HMv4 HZ4 HK3 HKy'
  have HANS := Lib.hid (two_ans k HR0.out HMv5.out HZ5.out HKx.out HKz.out hwg hl4 hl44)
  rw [HP1.out, HP2.out] at HANS
  obtain ⟨u0, u1, u2, u3, u4⟩ := blk_cells5 HKx.out.blk
  obtain ⟨v0, v1, v2, v3, v4⟩ := blk_cells5 HKz.out.blk
  simp only [XE.kd, XE.n, XE.mv, XE.nv, XE.kv] at u0 u1 u2 u3 u4 v0 v1 v2 v3 v4
  have HZ6 := Lib.hid (HZ5.out.alloc (.cells #[.int .i64 xk, .int .i64 xn, .slice A1 xms.length c1, .slice A2 xns.length c2, .slice A3 xks.length c3, .int .i64 yk, .int .i64 yn, .slice B1 yms.length d1, .slice B2 yns.length d2, .slice B3 yks.length d3] 26))
  obtain ⟨y0, y1, y2, y3, y4⟩ := blk_cells5 HZ6.out
  obtain ⟨z0, z1, z2, z3, z4⟩ := blk_fr5 HZ6.out
  have HQ := Lib.hid (set5W_blk HZ6.out (.int .i64 k) (.int .i64 0) (.slice none 0 0) (.slice none 0 0) (.slice (some ⟨w7.heap.size, 0, none⟩) 2 2))
  go_wp2_with fail
  obtain ⟨q0, q1, q2, q3, q4⟩ := blk_cells5 HQ.out
  unfold set5W at q0 q1 q2 q3 q4
  refine bodyPost_ret (v := (pairX k w7.heap.size (.mk xk xn (.slice A1 xms.length c1) xms (.slice A2 xns.length c2) xns (.slice A3 xks.length c3) xks) (.mk yk yn (.slice B1 yms.length d1) yms (.slice B2 yns.length d2) yns (.slice B3 yks.length d3) yks)).val) (by simp [XE.val, pairX, XE.kd, XE.n, XE.mv, XE.nv, XE.kv, results, Tryd.results72, go_sem, q0, q1, q2, q3, q4]) rfl ?_
  exact HANS.out
end Go.Proofs.YtnkbpcenkbihpaaDoor
