/- expr.reader: expr. -/
import Derived.Test.YtnkbpcenkbihpaaDoorRead11
namespace Go.Proofs.YtnkbpcenkbihpaaDoor
open Go.ChangeShapes Go.WideShapes Go.ChangeAt Go.RowKit
set_option linter.unusedVariables false
set_option linter.unusedSimpArgs false
set_option maxRecDepth 100000
/-- Within expr: both boxes. -/
structure ExAt (b : Nat) (A : Option Addr) (n c : Nat) (ts : List Tok) (en : Int) (s : PS) (w0 : World) (g4 g5 : Nat) (t : Tok) (w : World) : Prop where
  rd : RdAt b A n c ts en s w
  only : Only b w0 w
  z : Blk w g4 26 [.int .i64 0, .int .i64 0, .slice none 0 0, .slice none 0 0, .slice none 0 0]
  tk : Blk w g5 43 [.int .i64 t.kd, .int .i64 t.n, .int .i64 t.at_, .string t.tx]
  l4 : w0.heap.size ≤ g4
  l5 : g4 < g5
  lb : b < w0.heap.size
section
variable {b n c g4 g5 d : Nat} {A : Option Addr} {ts : List Tok} {en : Int} {s s' : PS} {w0 w w' : World} {t : Tok}
theorem ExAt.moved (h : ExAt b A n c ts en s w0 g4 g5 t w) (hm : Moved b A n c ts en s' w w') : ExAt b A n c ts en s' w0 g4 g5 t w' := by
  have h2 := h.l4; have h3 := h.l5; have hb := h.lb
  exact ⟨hm.rd, h.only.trans hm.only, h.z.only hm.only (by omega), h.tk.only hm.only (by omega), h2, h3, hb⟩
theorem ExAt.below (h : ExAt b A n c ts en s w0 g4 g5 t w) (hb : Below w.heap.size w w') : ExAt b A n c ts en s w0 g4 g5 t w' := h.moved ⟨h.rd.below hb, Only.of_below hb⟩
/-- A leaf, laid into the answer. -/
theorem ExAt.leaf (h : ExAt b A n c ts en s w0 g4 g5 t w) (h0 : RdAt b A n c ts en s' w0) (d : Nat) (kd y : Int) :
    XAns b A n c ts en (d + 1) (.mk kd y [] [] [], s) w0 (.returned (.agg #[.int .i64 kd, .int .i64 y, .slice none 0 0, .slice none 0 0, .slice none 0 0])) (set5W w g4 (.int .i64 kd) (.int .i64 y) (.slice none 0 0) (.slice none 0 0) (.slice none 0 0)) := by
  have h2 := h.l4; have hb := h.lb
  have hg := set5W_grown w g4 (.int .i64 kd) (.int .i64 y) (.slice none 0 0) (.slice none 0 0) (.slice none 0 0)
  have ho := h.only.of_grown hg (fun g e => by injection e with e; omega)
  exact ⟨.mk kd y (.slice none 0 0) [] (.slice none 0 0) [] (.slice none 0 0) [], rfl, rfl, okX_far (FarS.nil 3) (FarS.nil 1) (FarS.nil 5) (fun x hx => absurd hx List.not_mem_nil), h0.of (h.rd.blk.grown hg (fun e => by injection e with e; omega)) ho h.rd.le, ho⟩
/-- An answer handed on. -/
theorem ExAt.pass {x : XE} {r : PE × PS} (h : ExAt b A n c ts en s w0 g4 g5 t w) (h0 : RdAt b A n c ts en s' w0) (hx : x.pe = r.1) (hf : FarS (fun q => q < w.heap.size) (okX d x) w') (hm : Moved b A n c ts en r.2 w w') :
    XAns b A n c ts en d r w0 (.returned x.val) (set5W w' g4 (.int .i64 x.kd) (.int .i64 x.n) x.mv x.nv x.kv) := by
  have h2 := h.l4; have hb := h.lb
  have hl := h.z.lt
  have hsz := h.only.size
  have hg := set5W_grown w' g4 (.int .i64 x.kd) (.int .i64 x.n) x.mv x.nv x.kv
  have ho := (h.only.trans hm.only).of_grown hg (fun g e => by injection e with e; omega)
  exact ⟨x, hx, rfl, (hf.grown hg (fun g e => by injection e with e; omega)).mono (fun q _ hq => by omega), h0.of (hm.rd.blk.grown hg (fun e => by injection e with e; omega)) ho hm.rd.le, ho⟩
end
set_option maxHeartbeats 8000000 in
theorem expr_step (b : Nat) (A : Option Addr) (n c : Nat) (ts : List Tok) (en : Int) (hn : n ≤ 1000000) (f : Nat) (IH : ∀ f', f = f' + 1 → ExprSaid b A n c ts en f') : ExprSaid b A n c ts en f := by
  intro deep s w hd h
  have HR0 := Lib.hid h
  have hbw : b < w.heap.size := h.blk.lt
  have HIH := Lib.hid IH
  have HD := Lib.hid hd
  obtain ⟨t, ht⟩ : ∃ t, peekF ts s = t := ⟨_, rfl⟩
  obtain ⟨k, hk⟩ : ∃ k, kindF t = k := ⟨_, rfl⟩
  have HPK := Lib.hid (peek_any b A n c ts en s (w.alloc (.cells #[.int .i64 0, .int .i64 0, .slice none 0 0, .slice none 0 0, .slice none 0 0] 26)) (h.alloc _))
  rw [ht] at HPK
  unfold Tok.val at HPK
  have HKD := Lib.hid (fun V => kind_any t V)
  rw [hk] at HKD
  unfold Tok.val at HKD
  have HT := Lib.hid ht; have HK := Lib.hid hk
  have HIS := Lib.hid (fun V (hV : RdAt b A n c ts en s V) (tx : ByteArray) => is_any b A n c ts en s 4 tx V hV)
  have HX0 : Hid (∀ w1, Below (w.alloc (.cells #[.int .i64 0, .int .i64 0, .slice none 0 0, .slice none 0 0, .slice none 0 0] 26)).heap.size (w.alloc (.cells #[.int .i64 0, .int .i64 0, .slice none 0 0, .slice none 0 0, .slice none 0 0] 26)) w1 → ExAt b A n c ts en s w w.heap.size w1.heap.size t (w1.alloc (.cells #[.int .i64 t.kd, .int .i64 t.n, .int .i64 t.at_, .string t.tx] 43))) := Lib.hid (fun w1 hb => by
    have hz := (Blk.mk (heap_alloc_new w (.cells #[.int .i64 0, .int .i64 0, .slice none 0 0, .slice none 0 0, .slice none 0 0] 26)) : Blk _ w.heap.size 26 [.int .i64 0, .int .i64 0, .slice none 0 0, .slice none 0 0, .slice none 0 0])
    have hl := hz.lt
    have hs := hb.size
    exact ⟨((h.alloc (.cells #[.int .i64 0, .int .i64 0, .slice none 0 0, .slice none 0 0, .slice none 0 0] 26)).below hb).alloc _, ((((Only.refl b w).alloc (.cells #[.int .i64 0, .int .i64 0, .slice none 0 0, .slice none 0 0, .slice none 0 0] 26)).trans (Only.of_below hb)).alloc _), (hz.below hb hl).alloc _, Blk.mk (heap_alloc_new w1 _), Nat.le_refl _, by omega, hbw⟩)
  clear h ht hk IH hd
  have HG := Lib.hid (show ∃ g, w.heap.size = g from ⟨_, rfl⟩)
  go_enter Tryd.func44, Tryd.ntmps44
  go_upto_region 1 with fail
  obtain ⟨g4, hg4⟩ := HG.out
  rw [hg4]
  rw [hg4] at HX0
  clear HG hg4
  generalize w.alloc (.cells #[.int .i64 0, .int .i64 0, .slice none 0 0, .slice none 0 0, .slice none 0 0] 26) = W1 at *
  go_wp2_with fail
  (with_reducible refine HPK.out.mono ?_); rintro e w1 ⟨rfl, hb1⟩
  have HX1 := Lib.hid (HX0.out w1 hb1)
  have HG5 := Lib.hid (show ∃ g, w1.heap.size = g from ⟨_, rfl⟩)
  clear hb1 HX0 HPK
  go_upto_region 2 with fail
  obtain ⟨g5, hg5⟩ := HG5.out
  rw [hg5]
  have HX2 : Hid (ExAt b A n c ts en s w g4 g5 t (w1.alloc (.cells #[.int .i64 t.kd, .int .i64 t.n, .int .i64 t.at_, .string t.tx] 43))) := Lib.hid (by have h := HX1.out; rw [hg5] at h; exact h)
  clear HX1 HG5 hg5
  generalize w1.alloc (.cells #[.int .i64 t.kd, .int .i64 t.n, .int .i64 t.at_, .string t.tx] 43) = W2 at *
  obtain ⟨x0, x1, x2, x3⟩ := blk_cells4 HX2.out.tk
  go_wp2_with fail
  (with_reducible refine (HKD.out _).mono ?_); rintro e w3 ⟨rfl, hb⟩
  have HX3 := Lib.hid (HX2.out.below hb)
  clear hb HX2 x0 x1 x2 x3 HKD
  by_cases h1 : t.kd = 1
  · have a1 : (t.kd != 1) = false := by rw [h1]; rfl
    have a2 : (t.kd == 1) = true := by rw [h1]; rfl
    have HXL := HX3
    obtain ⟨x0, x1, x2, x3⟩ := blk_cells4 HXL.out.tk
    have HN := Lib.hid (show noneF ts s = false by unfold noneF; rw [HT.out, h1]; rfl)
    cases f with
    | zero =>
      have HE := Lib.hid (show exprF ts en n 0 s = (zeroPE, failF ts en s 6) by unfold exprF; rw [if_neg (by rw [HN.out]; simp)])
      have hd8 : ¬ (deep : Int) ≤ 8 := by have := HD.out; omega
      have HC := Lib.hid (fail_any b A n c ts en s 6 _ HXL.out.rd)
      go_wp2_with fail
      (with_reducible refine HC.out.mono ?_); rintro e wf ⟨rfl, hm⟩
      have HXF := Lib.hid (HXL.out.moved hm)
      clear hm HC
      obtain ⟨z0, z1, z2, z3, z4⟩ := blk_cells5 HXF.out.z
      obtain ⟨f0, f1, f2, f3, f4⟩ := blk_fr5 HXF.out.z
      have HQ := Lib.hid (set5W_blk HXF.out.z (.int .i64 0) (.int .i64 0) (.slice none 0 0) (.slice none 0 0) (.slice none 0 0))
      have HANS := Lib.hid (HXF.out.leaf HR0.out 0 0 0)
      go_wp2_with fail
      obtain ⟨q0, q1, q2, q3, q4⟩ := blk_cells5 HQ.out
      unfold set5W at q0 q1 q2 q3 q4
      refine bodyPost_ret (v := .agg #[.int .i64 0, .int .i64 0, .slice none 0 0, .slice none 0 0, .slice none 0 0]) (by simp [results, Tryd.results44, go_sem, q0, q1, q2, q3, q4]) rfl ?_
      rw [HE.out]; exact HANS.out
    | succ f =>
      have hd8 : (deep : Int) ≤ 8 := by have := HD.out; omega
      obtain ⟨⟨tk, tn, ta, tx⟩, s9, hm9⟩ : ∃ m sN, takeF ts en s 1 = (m, sN) := ⟨_, _, rfl⟩
      have HE := Lib.hid (show exprF ts en n (f + 1) s = (.mk 1 tn [] [] [], s9) by unfold exprF; rw [if_neg (by rw [HN.out]; simp), HT.out, if_pos h1, hm9])
      have HC := Lib.hid (take_any b A n c ts en s 1 _ HXL.out.rd (by decide) hn)
      rw [hm9] at HC
      unfold Tok.val at HC
      go_wp2_with fail
      (with_reducible refine HC.out.mono ?_); rintro e wf ⟨rfl, hm⟩
      have HXF := Lib.hid (HXL.out.moved hm)
      clear hm HC
      obtain ⟨z0, z1, z2, z3, z4⟩ := blk_cells5 HXF.out.z
      obtain ⟨f0, f1, f2, f3, f4⟩ := blk_fr5 HXF.out.z
      have HQ := Lib.hid (set5W_blk HXF.out.z (.int .i64 1) (.int .i64 tn) (.slice none 0 0) (.slice none 0 0) (.slice none 0 0))
      have HANS := Lib.hid (HXF.out.leaf HR0.out (f + 1) 1 tn)
      go_wp2_with fail
      obtain ⟨q0, q1, q2, q3, q4⟩ := blk_cells5 HQ.out
      unfold set5W at q0 q1 q2 q3 q4
      refine bodyPost_ret (v := .agg #[.int .i64 1, .int .i64 tn, .slice none 0 0, .slice none 0 0, .slice none 0 0]) (by simp [results, Tryd.results44, go_sem, q0, q1, q2, q3, q4]) rfl ?_
      rw [HE.out]; exact HANS.out
  · have a1 : (t.kd != 1) = true := by rw [bne_iff_ne]; exact h1
    have a2 : (t.kd == 1) = false := by rw [beq_eq_false_iff_ne]; exact h1
    by_cases h2 : k = 0
    · have b1 : (k == 0) = true := by rw [h2]; rfl
      have b2 : (k != 0) = false := by rw [h2]; rfl
      obtain ⟨x0, x1, x2, x3⟩ := blk_cells4 HX3.out.tk
      cases hq : isF ts s 4 ⟨#[123]⟩ with
      | true =>
        have HC := Lib.hid (HIS.out _ HX3.out.rd ⟨#[123]⟩)
        rw [hq] at HC
        go_wp2_with fail
        (with_reducible refine HC.out.mono ?_); rintro e w4 ⟨rfl, hb⟩
        have HXL := Lib.hid (HX3.out.below hb)
        clear hb HC
        obtain ⟨x0, x1, x2, x3⟩ := blk_cells4 HXL.out.tk
        have HN := Lib.hid (show noneF ts s = false by unfold noneF; rw [hq]; simp)
        cases f with
        | zero =>
          have HE := Lib.hid (show exprF ts en n 0 s = (zeroPE, failF ts en s 6) by unfold exprF; rw [if_neg (by rw [HN.out]; simp)])
          have hd8 : ¬ (deep : Int) ≤ 8 := by have := HD.out; omega
          have HC := Lib.hid (fail_any b A n c ts en s 6 _ HXL.out.rd)
          go_wp2_with fail
          (with_reducible refine HC.out.mono ?_); rintro e wf ⟨rfl, hm⟩
          have HXF := Lib.hid (HXL.out.moved hm)
          clear hm HC
          obtain ⟨z0, z1, z2, z3, z4⟩ := blk_cells5 HXF.out.z
          obtain ⟨f0, f1, f2, f3, f4⟩ := blk_fr5 HXF.out.z
          have HQ := Lib.hid (set5W_blk HXF.out.z (.int .i64 0) (.int .i64 0) (.slice none 0 0) (.slice none 0 0) (.slice none 0 0))
          have HANS := Lib.hid (HXF.out.leaf HR0.out 0 0 0)
          go_wp2_with fail
          obtain ⟨q0, q1, q2, q3, q4⟩ := blk_cells5 HQ.out
          unfold set5W at q0 q1 q2 q3 q4
          refine bodyPost_ret (v := .agg #[.int .i64 0, .int .i64 0, .slice none 0 0, .slice none 0 0, .slice none 0 0]) (by simp [results, Tryd.results44, go_sem, q0, q1, q2, q3, q4]) rfl ?_
          rw [HE.out]; exact HANS.out
        | succ f =>
          have hd8 : (deep : Int) ≤ 8 := by have := HD.out; omega
          have HE := Lib.hid (show exprF ts en n (f + 1) s = pickR ts en n s by unfold exprF; rw [if_neg (by rw [HN.out]; simp), HT.out, HK.out, if_neg h1, if_neg (by rw [h2]; simp), if_pos hq])
          have HC := Lib.hid (HIS.out _ HXL.out.rd ⟨#[123]⟩)
          rw [hq] at HC
          go_wp2_with fail
          (with_reducible refine HC.out.mono ?_); rintro e w5 ⟨rfl, hb⟩
          have HXM := Lib.hid (HXL.out.below hb)
          clear hb HC
          obtain ⟨x0, x1, x2, x3⟩ := blk_cells4 HXM.out.tk
          have HC := Lib.hid ((pick_x b A n c ts en s _ HXM.out.rd hn).mono (fun e w9 hh => hh.floors (f + 1)))
          go_wp2_with fail
          (with_reducible refine HC.out.mono ?_); rintro e wp hx
          obtain ⟨xk, xn, A1, c1, xms, A2, c2, xns, A3, c3, xks, rfl, hp, hf, hm⟩ := hx.forms
          have HANS := Lib.hid (HXM.out.pass HR0.out hp hf hm)
          have HZP := Lib.hid ((HXM.out.moved hm).z)
          clear hx hp hf hm HC
          obtain ⟨z0, z1, z2, z3, z4⟩ := blk_cells5 HZP.out
          obtain ⟨f0, f1, f2, f3, f4⟩ := blk_fr5 HZP.out
          have HQ := Lib.hid (set5W_blk HZP.out (.int .i64 xk) (.int .i64 xn) (.slice A1 xms.length c1) (.slice A2 xns.length c2) (.slice A3 xks.length c3))
          go_wp2_with fail
          obtain ⟨q0, q1, q2, q3, q4⟩ := blk_cells5 HQ.out
          unfold set5W at q0 q1 q2 q3 q4
          refine bodyPost_ret (v := .agg #[.int .i64 xk, .int .i64 xn, .slice A1 xms.length c1, .slice A2 xns.length c2, .slice A3 xks.length c3]) (by simp [results, Tryd.results44, go_sem, q0, q1, q2, q3, q4]) rfl ?_
          rw [HE.out, show f + 1 + 1 = 1 + (f + 1) by omega]; exact HANS.out
      | false =>
        have HC := Lib.hid (HIS.out _ HX3.out.rd ⟨#[123]⟩)
        rw [hq] at HC
        go_wp2_with fail
        (with_reducible refine HC.out.mono ?_); rintro e w4 ⟨rfl, hb⟩
        have HX4 := Lib.hid (HX3.out.below hb)
        clear hb HC
        obtain ⟨x0, x1, x2, x3⟩ := blk_cells4 HX4.out.tk
        cases hq2 : isF ts s 4 ⟨#[40]⟩ with
        | true =>
          have HC := Lib.hid (HIS.out _ HX4.out.rd ⟨#[40]⟩)
          rw [hq2] at HC
          go_wp2_with fail
          (with_reducible refine HC.out.mono ?_); rintro e w5 ⟨rfl, hb⟩
          have HXL := Lib.hid (HX4.out.below hb)
          clear hb HC
          obtain ⟨x0, x1, x2, x3⟩ := blk_cells4 HXL.out.tk
          have HN := Lib.hid (show noneF ts s = false by unfold noneF; rw [hq2]; simp)
          cases f with
          | zero =>
            have HE := Lib.hid (show exprF ts en n 0 s = (zeroPE, failF ts en s 6) by unfold exprF; rw [if_neg (by rw [HN.out]; simp)])
            have hd8 : ¬ (deep : Int) ≤ 8 := by have := HD.out; omega
            have HC := Lib.hid (fail_any b A n c ts en s 6 _ HXL.out.rd)
            go_wp2_with fail
            (with_reducible refine HC.out.mono ?_); rintro e wf ⟨rfl, hm⟩
            have HXF := Lib.hid (HXL.out.moved hm)
            clear hm HC
            obtain ⟨z0, z1, z2, z3, z4⟩ := blk_cells5 HXF.out.z
            obtain ⟨f0, f1, f2, f3, f4⟩ := blk_fr5 HXF.out.z
            have HQ := Lib.hid (set5W_blk HXF.out.z (.int .i64 0) (.int .i64 0) (.slice none 0 0) (.slice none 0 0) (.slice none 0 0))
            have HANS := Lib.hid (HXF.out.leaf HR0.out 0 0 0)
            go_wp2_with fail
            obtain ⟨q0, q1, q2, q3, q4⟩ := blk_cells5 HQ.out
            unfold set5W at q0 q1 q2 q3 q4
            refine bodyPost_ret (v := .agg #[.int .i64 0, .int .i64 0, .slice none 0 0, .slice none 0 0, .slice none 0 0]) (by simp [results, Tryd.results44, go_sem, q0, q1, q2, q3, q4]) rfl ?_
            rw [HE.out]; exact HANS.out
          | succ f =>
            have hd8 : (deep : Int) ≤ 8 := by have := HD.out; omega
            have HE := Lib.hid (show exprF ts en n (f + 1) s = ofTwoF ts en (exprF ts en n f) s by unfold exprF; rw [if_neg (by rw [HN.out]; simp), HT.out, HK.out, if_neg h1, if_neg (by rw [h2]; simp), if_neg (by rw [hq]; simp)])
            have HC := Lib.hid (HIS.out _ HXL.out.rd ⟨#[123]⟩)
            rw [hq] at HC
            go_wp2_with fail
            (with_reducible refine HC.out.mono ?_); rintro e w6 ⟨rfl, hb⟩
            have HXM := Lib.hid (HXL.out.below hb)
            clear hb HC
            obtain ⟨x0, x1, x2, x3⟩ := blk_cells4 HXM.out.tk
            have HC := Lib.hid (two_x b A n c ts en f (HIH.out f rfl) hn deep s _ HD.out HXM.out.rd)
            go_wp2_with fail
            (with_reducible refine HC.out.mono ?_); rintro e wp hx
            obtain ⟨xk, xn, A1, c1, xms, A2, c2, xns, A3, c3, xks, rfl, hp, hf, hm⟩ := hx.forms
            have HANS := Lib.hid (HXM.out.pass HR0.out hp hf hm)
            have HZP := Lib.hid ((HXM.out.moved hm).z)
            clear hx hp hf hm HC
            obtain ⟨z0, z1, z2, z3, z4⟩ := blk_cells5 HZP.out
            obtain ⟨f0, f1, f2, f3, f4⟩ := blk_fr5 HZP.out
            have HQ := Lib.hid (set5W_blk HZP.out (.int .i64 xk) (.int .i64 xn) (.slice A1 xms.length c1) (.slice A2 xns.length c2) (.slice A3 xks.length c3))
            go_wp2_with fail
            obtain ⟨q0, q1, q2, q3, q4⟩ := blk_cells5 HQ.out
            unfold set5W at q0 q1 q2 q3 q4
            refine bodyPost_ret (v := .agg #[.int .i64 xk, .int .i64 xn, .slice A1 xms.length c1, .slice A2 xns.length c2, .slice A3 xks.length c3]) (by simp [results, Tryd.results44, go_sem, q0, q1, q2, q3, q4]) rfl ?_
            rw [HE.out]; exact HANS.out
        | false =>
          have HC := Lib.hid (HIS.out _ HX4.out.rd ⟨#[40]⟩)
          rw [hq2] at HC
          go_wp2_with fail
          (with_reducible refine HC.out.mono ?_); rintro e w5 ⟨rfl, hb⟩
          have HX5 := Lib.hid (HX4.out.below hb)
          clear hb HC
          obtain ⟨x0, x1, x2, x3⟩ := blk_cells4 HX5.out.tk
          have HE := Lib.hid (show exprF ts en n f s = (zeroPE, failF ts en s 1) by
            have hno : noneF ts s = true := by unfold noneF; rw [HT.out, HK.out, a1, b1, hq, hq2]; rfl
            cases f with
            | zero => unfold exprF; rw [if_pos hno]
            | succ f => unfold exprF; rw [if_pos hno])
          have HC := Lib.hid (fail_any b A n c ts en s 1 _ HX5.out.rd)
          go_wp2_with fail
          (with_reducible refine HC.out.mono ?_); rintro e wf ⟨rfl, hm⟩
          have HXF := Lib.hid (HX5.out.moved hm)
          clear hm HC
          obtain ⟨z0, z1, z2, z3, z4⟩ := blk_cells5 HXF.out.z
          obtain ⟨f0, f1, f2, f3, f4⟩ := blk_fr5 HXF.out.z
          have HQ := Lib.hid (set5W_blk HXF.out.z (.int .i64 0) (.int .i64 0) (.slice none 0 0) (.slice none 0 0) (.slice none 0 0))
          have HANS := Lib.hid (HXF.out.leaf HR0.out f 0 0)
          go_wp2_with fail
          obtain ⟨q0, q1, q2, q3, q4⟩ := blk_cells5 HQ.out
          unfold set5W at q0 q1 q2 q3 q4
          refine bodyPost_ret (v := .agg #[.int .i64 0, .int .i64 0, .slice none 0 0, .slice none 0 0, .slice none 0 0]) (by simp [results, Tryd.results44, go_sem, q0, q1, q2, q3, q4]) rfl ?_
          rw [HE.out]; exact HANS.out
    · have b1 : (k == 0) = false := by rw [beq_eq_false_iff_ne]; exact h2
      have b2 : (k != 0) = true := by rw [bne_iff_ne]; exact h2
      have HXL := HX3
      obtain ⟨x0, x1, x2, x3⟩ := blk_cells4 HXL.out.tk
      have HN := Lib.hid (show noneF ts s = false by unfold noneF; rw [HT.out, HK.out, b1]; simp)
      cases f with
      | zero =>
        have HE := Lib.hid (show exprF ts en n 0 s = (zeroPE, failF ts en s 6) by unfold exprF; rw [if_neg (by rw [HN.out]; simp)])
        have hd8 : ¬ (deep : Int) ≤ 8 := by have := HD.out; omega
        have HC := Lib.hid (fail_any b A n c ts en s 6 _ HXL.out.rd)
        go_wp2_with fail
        (with_reducible refine HC.out.mono ?_); rintro e wf ⟨rfl, hm⟩
        have HXF := Lib.hid (HXL.out.moved hm)
        clear hm HC
        obtain ⟨z0, z1, z2, z3, z4⟩ := blk_cells5 HXF.out.z
        obtain ⟨f0, f1, f2, f3, f4⟩ := blk_fr5 HXF.out.z
        have HQ := Lib.hid (set5W_blk HXF.out.z (.int .i64 0) (.int .i64 0) (.slice none 0 0) (.slice none 0 0) (.slice none 0 0))
        have HANS := Lib.hid (HXF.out.leaf HR0.out 0 0 0)
        go_wp2_with fail
        obtain ⟨q0, q1, q2, q3, q4⟩ := blk_cells5 HQ.out
        unfold set5W at q0 q1 q2 q3 q4
        refine bodyPost_ret (v := .agg #[.int .i64 0, .int .i64 0, .slice none 0 0, .slice none 0 0, .slice none 0 0]) (by simp [results, Tryd.results44, go_sem, q0, q1, q2, q3, q4]) rfl ?_
        rw [HE.out]; exact HANS.out
      | succ f =>
        have hd8 : (deep : Int) ≤ 8 := by have := HD.out; omega
        have HE := Lib.hid (show exprF ts en n (f + 1) s = ofOneF ts en n (exprF ts en n f) k s by unfold exprF; rw [if_neg (by rw [HN.out]; simp), HT.out, HK.out, if_neg h1, if_pos h2])
        have HC := Lib.hid (one_x b A n c ts en f (HIH.out f rfl) hn k deep s _ HD.out HXL.out.rd)
        go_wp2_with fail
        (with_reducible refine HC.out.mono ?_); rintro e wp hx
        obtain ⟨xk, xn, A1, c1, xms, A2, c2, xns, A3, c3, xks, rfl, hp, hf, hm⟩ := hx.forms
        have HANS := Lib.hid (HXL.out.pass HR0.out hp hf hm)
        have HZP := Lib.hid ((HXL.out.moved hm).z)
        clear hx hp hf hm HC
        obtain ⟨z0, z1, z2, z3, z4⟩ := blk_cells5 HZP.out
        obtain ⟨f0, f1, f2, f3, f4⟩ := blk_fr5 HZP.out
        have HQ := Lib.hid (set5W_blk HZP.out (.int .i64 xk) (.int .i64 xn) (.slice A1 xms.length c1) (.slice A2 xns.length c2) (.slice A3 xks.length c3))
        go_wp2_with fail
        obtain ⟨q0, q1, q2, q3, q4⟩ := blk_cells5 HQ.out
        unfold set5W at q0 q1 q2 q3 q4
        refine bodyPost_ret (v := .agg #[.int .i64 xk, .int .i64 xn, .slice A1 xms.length c1, .slice A2 xns.length c2, .slice A3 xks.length c3]) (by simp [results, Tryd.results44, go_sem, q0, q1, q2, q3, q4]) rfl ?_
        rw [HE.out]; exact HANS.out
/-- expr reads what exprF tells. -/
theorem expr_x (b : Nat) (A : Option Addr) (n c : Nat) (ts : List Tok) (en : Int) (hn : n ≤ 1000000) : ∀ f, ExprSaid b A n c ts en f
  | 0 => expr_step b A n c ts en hn 0 (fun f' h => by omega)
  | f + 1 => expr_step b A n c ts en hn (f + 1) (fun f' h => by injection h with h; subst h; exact expr_x b A n c ts en hn f)
end Go.Proofs.YtnkbpcenkbihpaaDoor
