/- expr.Parse, expr.Read. -/
import Derived.Test.YtcaapbbbekggiaaGreatDoorReadX
namespace Go.Proofs.YtcaapbbbekggiaaGreatDoor
open Go.ChangeShapes Go.WideShapes Go.ChangeAt Go.RowKit
set_option linter.unusedVariables false
set_option linter.unusedSimpArgs false
set_option maxRecDepth 100000
theorem tokGo_len : ∀ (f : Nat) (l : List UInt8) (a : Nat) (acc : List Tok), acc.length ≤ 400 → (tokGo f l a acc).1.length ≤ 400
  | 0, l, a, acc, h => by unfold tokGo; exact h
  | f + 1, l, a, acc, h => by
    unfold tokGo
    cases l with
    | nil => exact h
    | cons c r =>
      simp only
      split
      · exact tokGo_len f _ _ _ h
      · split
        · exact h
        · split
          · exact h
          · split
            · exact h
            · refine tokGo_len f _ _ _ ?_
              rw [List.length_append, List.length_singleton]
              omega
theorem tokF_len (l : List UInt8) : (tokF l).1.length ≤ 400 := tokGo_len _ _ _ _ (by simp)
/-- What a text is parsed to. -/
def parseF (l : List UInt8) : PE × Int × Int := if (tokF l).2 < l.length then (zeroPE, (tokF l).2, 1) else readF (tokF l).1 l.length (tokF l).1.length
theorem ReadAns.forms {r : PE × Int × Int} {w w' : World} {e : Ending} (h : ReadAns r w e w') : ∃ (xk xn : Int) (A1 : Option Addr) (c1 : Nat) (ms : List Mtc) (A2 : Option Addr) (c2 : Nat) (ns : List ByteArray) (A3 : Option Addr) (c3 : Nat) (ks : List XE),
      e = .returned (.tuple #[.agg #[.int .i64 xk, .int .i64 xn, .slice A1 ms.length c1, .slice A2 ns.length c2, .slice A3 ks.length c3], .int .i64 r.2.1, .int .i64 r.2.2]) ∧
      (XE.mk xk xn (.slice A1 ms.length c1) ms (.slice A2 ns.length c2) ns (.slice A3 ks.length c3) ks).pe = r.1 ∧
      FarS (fun q => q < w.heap.size) (okX 9 (.mk xk xn (.slice A1 ms.length c1) ms (.slice A2 ns.length c2) ns (.slice A3 ks.length c3) ks)) w' ∧ Below w.heap.size w w' := by
  obtain ⟨⟨xk, xn, xmv, xms, xnv, xns, xkv, xks⟩, h1, h2, h3, h4⟩ := h
  obtain ⟨A1, c1, A2, c2, A3, c3, e1, e2, e3⟩ := okX_forms h3.now
  simp only [XE.mv, XE.nv, XE.kv, XE.ms, XE.ns, XE.kids] at e1 e2 e3
  subst e1; subst e2; subst e3
  exact ⟨xk, xn, A1, c1, xms, A2, c2, xns, A3, c3, xks, h2, h1, h3, h4⟩
/-- An answer handed on in a box of one's own. -/
theorem read_pass {r : PE × Int × Int} {w0 w w' : World} {g4 : Nat} {x : XE} (hz : Blk w g4 26 [.int .i64 0, .int .i64 0, .slice none 0 0, .slice none 0 0, .slice none 0 0]) (hb : Below w0.heap.size w0 w) (h4 : w0.heap.size ≤ g4)
    (hx : x.pe = r.1) (hf : FarS (fun q => q < w.heap.size) (okX 9 x) w') (hw : Below w.heap.size w w') :
    ReadAns r w0 (.returned (.tuple #[x.val, .int .i64 r.2.1, .int .i64 r.2.2])) (set5W w' g4 (.int .i64 x.kd) (.int .i64 x.n) x.mv x.nv x.kv) := by
  have hl := hz.lt
  have hs := hb.size
  have hg := set5W_grown w' g4 (.int .i64 x.kd) (.int .i64 x.n) x.mv x.nv x.kv
  refine ⟨x, hx, rfl, (hf.grown hg (fun g e => by injection e with e; omega)).mono (fun q _ hq => by omega), ?_⟩
  have ho : Only g4 w' (set5W w' g4 (.int .i64 x.kd) (.int .i64 x.n) x.mv x.nv x.kv) := ⟨hg.size, hg.os, hg.tape, hg.output, fun q hq hn => hg.block q hq (fun e => hn (by injection e))⟩
  have hb2 := hb.trans (hw.mono hs)
  exact below_only hb2 ho h4 hb2.size
/-- None, in a box of one's own. -/
theorem zero_pass {w0 w : World} {g4 : Nat} (at_ er : Int) (hb : Below w0.heap.size w0 w) (h4 : w0.heap.size ≤ g4) :
    ReadAns (zeroPE, at_, er) w0 (.returned (.tuple #[.agg #[.int .i64 0, .int .i64 0, .slice none 0 0, .slice none 0 0, .slice none 0 0], .int .i64 at_, .int .i64 er])) (set5W w g4 (.int .i64 0) (.int .i64 0) (.slice none 0 0) (.slice none 0 0) (.slice none 0 0)) := by
  have hg := set5W_grown w g4 (.int .i64 0) (.int .i64 0) (.slice none 0 0) (.slice none 0 0) (.slice none 0 0)
  refine ⟨zeroXE, rfl, rfl, zeroXE_far _ _ 8, ?_⟩
  have ho : Only g4 w (set5W w g4 (.int .i64 0) (.int .i64 0) (.slice none 0 0) (.slice none 0 0) (.slice none 0 0)) := ⟨hg.size, hg.os, hg.tape, hg.output, fun q hq hn => hg.block q hq (fun e => hn (by injection e))⟩
  exact below_only hb ho h4 hb.size
set_option maxHeartbeats 2000000 in
theorem parse_x (s : ByteArray) (w : World) (hs : s.size ≤ 35184372088832) :
    Calls Tryz.prog 33 #[.string s] w (ReadAns (parseF s.data.toList) w) := by
  have hb1 : Below w.heap.size w (w.alloc (.cells #[.int .i64 0, .int .i64 0, .slice none 0 0, .slice none 0 0, .slice none 0 0] 26)) := (Below.refl _ _).alloc (Nat.le_refl _) _
  have HB := Lib.hid hb1
  have HZ : Hid (Blk (w.alloc (.cells #[.int .i64 0, .int .i64 0, .slice none 0 0, .slice none 0 0, .slice none 0 0] 26)) w.heap.size 26 [.int .i64 0, .int .i64 0, .slice none 0 0, .slice none 0 0, .slice none 0 0]) := Lib.hid (Blk.mk (heap_alloc_new w (.cells #[.int .i64 0, .int .i64 0, .slice none 0 0, .slice none 0 0, .slice none 0 0] 26)))
  have HT := Lib.hid (tokens_any s (w.alloc (.cells #[.int .i64 0, .int .i64 0, .slice none 0 0, .slice none 0 0, .slice none 0 0] 26)) hs)
  have HL := Lib.hid (tokF_len s.data.toList)
  have hsl : s.data.toList.length = s.size := by simp
  have HF : Hid (parseF s.data.toList = if (tokF s.data.toList).2 < s.size then ((zeroPE, (((tokF s.data.toList).2 : Nat) : Int), (1 : Int)) : PE × Int × Int) else readF (tokF s.data.toList).1 s.size (tokF s.data.toList).1.length) := Lib.hid (by unfold parseF; rw [hsl])
  generalize parseF s.data.toList = rr at *
  generalize tokF s.data.toList = tt at *
  have HRD := Lib.hid (fun A n c V (h : Sees V V.heap.size 4 A n (tcells tt.1)) (h1 : n ≤ 1000000) => read_x A n c tt.1 s.size V h h1)
  obtain ⟨ts, pt⟩ := tt
  clear hb1 hsl
  have HG := Lib.hid (show ∃ g, w.heap.size = g from ⟨_, rfl⟩)
  go_enter Tryz.func33, Tryz.ntmps33
  go_upto_region 1 with fail
  obtain ⟨g4, hg4⟩ := HG.out
  have HGE := Lib.hid hg4
  rw [hg4] at HZ ⊢
  clear HG hg4
  generalize w.alloc (.cells #[.int .i64 0, .int .i64 0, .slice none 0 0, .slice none 0 0, .slice none 0 0] 26) = W1 at *
  go_wp2_with fail
  (with_reducible refine HT.out.mono ?_); rintro e w2 ht
  unfold TokAns at ht
  by_cases hp : pt < s.size
  · rw [if_pos hp] at ht
    obtain ⟨rfl, hb2⟩ := ht
    have HE := Lib.hid (show rr = (zeroPE, (pt : Int), 1) by rw [HF.out, if_pos hp])
    have HZ2 := Lib.hid (HZ.out.below hb2 HZ.out.lt)
    have HB2 := Lib.hid (HB.out.trans (hb2.mono HB.out.size))
    clear hb2 HZ HB hp HT HRD HF
    obtain ⟨z0, z1, z2, z3, z4⟩ := blk_cells5 HZ2.out
    obtain ⟨f0, f1, f2, f3, f4⟩ := blk_fr HZ2.out
    have HQ := Lib.hid (set5W_blk HZ2.out (.int .i64 0) (.int .i64 0) (.slice none 0 0) (.slice none 0 0) (.slice none 0 0))
    have HANS := Lib.hid (zero_pass (g4 := g4) (pt : Int) 1 HB2.out (by rw [HGE.out]; exact Nat.le_refl _))
    rw [← HE.out] at HANS
    go_wp2_with fail
    obtain ⟨q0, q1, q2, q3, q4⟩ := blk_cells5 HQ.out
    unfold set5W at q0 q1 q2 q3 q4
    refine bodyPost_ret (v := .tuple #[.agg #[.int .i64 0, .int .i64 0, .slice none 0 0, .slice none 0 0, .slice none 0 0], .int .i64 (pt : Int), .int .i64 1]) (by simp [results, Tryz.results33, go_sem, q0, q1, q2, q3, q4]) rfl ?_
    exact HANS.out
  · rw [if_neg hp] at ht
    obtain ⟨A, c, rfl, hown, hb2, hc1, hc2⟩ := ht
    have HE := Lib.hid (show rr = readF ts s.size ts.length by rw [HF.out, if_neg hp])
    have HZ2 := Lib.hid (HZ.out.below hb2 HZ.out.lt)
    have HB2 := Lib.hid (HB.out.trans (hb2.mono HB.out.size))
    have HC := Lib.hid (HRD.out A ts.length c w2 (Sees.of_own hown) (Nat.le_trans HL.out (by decide)))
    rw [← HE.out] at HC
    have hsz : (s.size : Int) ≤ 9223372036854775807 := by omega
    clear hb2 HZ HB hp HT HRD HF hown
    go_wp2_with fail
    (with_reducible refine HC.out.mono ?_); rintro e w3 hx
    obtain ⟨xk, xn, A1, c1, xms, A2, c2, xns, A3, c3, xks, rfl, hp, hf, hw⟩ := hx.forms
    have HZ3 := Lib.hid (HZ2.out.below hw HZ2.out.lt)
    have HANS := Lib.hid (read_pass HZ2.out HB2.out (by rw [HGE.out]; exact Nat.le_refl _) hp hf hw)
    clear hx hp hf hw HC HZ2
    obtain ⟨z0, z1, z2, z3, z4⟩ := blk_cells5 HZ3.out
    obtain ⟨f0, f1, f2, f3, f4⟩ := blk_fr HZ3.out
    have HQ := Lib.hid (set5W_blk HZ3.out (.int .i64 xk) (.int .i64 xn) (.slice A1 xms.length c1) (.slice A2 xns.length c2) (.slice A3 xks.length c3))
    go_wp2_with fail
    obtain ⟨q0, q1, q2, q3, q4⟩ := blk_cells5 HQ.out
    unfold set5W at q0 q1 q2 q3 q4
    refine bodyPost_ret (v := .tuple #[.agg #[.int .i64 xk, .int .i64 xn, .slice A1 xms.length c1, .slice A2 xns.length c2, .slice A3 xks.length c3], .int .i64 rr.2.1, .int .i64 rr.2.2]) (by simp [results, Tryz.results33, go_sem, q0, q1, q2, q3, q4]) rfl ?_
    exact HANS.out
end Go.Proofs.YtcaapbbbekggiaaGreatDoor
