/- clone.Expr at any expression: its kind and number, all else new. -/
import Derived.Test.YtcaapbbbekggiaaGreatDoorPicksX
namespace Go.Proofs.YtcaapbbbekggiaaGreatDoor
open Go.ChangeShapes Go.WideShapes Go.ChangeAt Go.RowKit
set_option linter.unusedVariables false
set_option linter.unusedSimpArgs false
set_option maxRecDepth 100000
mutual
/-- An expression of short rows. -/
def PE.few : PE → Prop
  | .mk _ _ ms ns ks => ms.length ≤ 1000 ∧ ns.length ≤ 1000 ∧ ks.length ≤ 1000 ∧ fewP ks
def fewP : List PE → Prop
  | [] => True
  | x :: l => x.few ∧ fewP l
end
theorem fewP_mem : ∀ (l : List XE), fewP (pesX l) → ∀ x ∈ l, x.pe.few
  | [], _ => fun x hx => absurd hx List.not_mem_nil
  | y :: l, h => fun x hx => by
    have h' : y.pe.few ∧ fewP (pesX l) := h
    rcases List.mem_cons.1 hx with rfl | hx
    · exact h'.1
    · exact fewP_mem l h'.2 x hx
/-- The kind and the number of what was copied; its rows are slices. -/
def ClAns (k n : Int) (w : World) (e : Ending) (w' : World) : Prop := ∃ (A1 : Option Addr) (n1 c1 : Nat) (A2 : Option Addr) (n2 c2 : Nat) (A3 : Option Addr) (n3 c3 : Nat), e = .returned (.agg #[.int .i64 k, .int .i64 n, .slice A1 n1 c1, .slice A2 n2 c2, .slice A3 n3 c3]) ∧ Below w.heap.size w w'
def CloneSaid (d : Nat) : Prop := ∀ (x : XE) (w : World), okX d x w → x.pe.few → Calls Tryz.prog 42 #[x.val] w (ClAns x.kd x.n w)
set_option maxHeartbeats 4000000 in
theorem each_any (d : Nat) (IH : CloneSaid d) (A : Option Addr) (c : Nat) (ks : List XE) (w : World) (hs : Slc w 5 (.slice A ks.length c) ks.length (kcells ks)) (ho : ∀ k ∈ ks, okX d k w) (hf : ∀ k ∈ ks, k.pe.few) (hn : ks.length ≤ 1000) :
    Calls Tryz.prog 57 #[.slice A ks.length c, .func (.func 42) #[] #[]] w fun e w' => (∃ (A' : Option Addr) (n' c' : Nat), e = .returned (.slice A' n' c')) ∧ Below w.heap.size w w' := by
  obtain ⟨i0, hi, hz0, hz1, hz2⟩ := info_parts Tryz.infoExprC
  have HI := Lib.hid hi; have HZ0 := Lib.hid hz0; have HZ1 := Lib.hid hz1; have HZ2 := Lib.hid hz2
  have HS := Lib.hid (fun V (hV : Below w.heap.size w V) => Slc.slice (hs.below hV))
  have HO := Lib.hid (fun V (hV : Below w.heap.size w V) k (hk : k ∈ ks) => okX_below hV d k (ho k hk))
  have HF := Lib.hid hf; have HIH := Lib.hid IH
  have HR := Lib.hid (Below.refl w.heap.size w)
  obtain ⟨N, hN⟩ : ∃ N, ks.length = N := ⟨_, rfl⟩
  have HN := Lib.hid hN
  rw [hN] at HS hn ⊢
  clear hs ho hf IH hN
  go_enter Tryz.func57, Tryz.ntmps57
  go_wp2_with (at_make; refine wpList_make_own _ rfl _ _ 24 rfl w.heap.size 26 i0 (.agg #[.int .i64 0, .int .i64 0, .slice none 0 0, .slice none 0 0, .slice none 0 0]) 5 Tryz.underlying24 hi hz0 hz1 _ _ _ N rfl rfl rfl (by rw [hz2]; omega) (by unfold maxLen; omega) (Nat.le_refl _) ?_)
  intro w1 hown hg
  have HB := Lib.hid (HR.out.grown hg (Nat.le_refl _) (fun k h => by cases h))
  have HW := Lib.hid hown
  clear hown hg hi hz0 hz1 hz2
  go_wp2_with fail
  go_loopg [5, 7, 13] N (fun g x5 x7 x13 wr => ∃ (i : Nat) (A' : Option Addr) (c' : Nat) (cs : List Value), i + g = N ∧ x13 = .int .i64 i ∧ x5 = .slice A' i c' ∧ wr.ownsRow w.heap.size 26 5 (.slice A' i c') i cs ∧ Below w.heap.size w wr)
  case atStart => exact ⟨0, _, _, [], by omega, rfl, rfl, HW.out, HB.out⟩
  case round =>
    obtain ⟨i, A', c', cs, hig, rfl, rfl, hown, hbel⟩ := hrel
    have HOW := Lib.hid hown; have HBE := Lib.hid hbel
    clear hown hbel HW HB
    cases gk with
    | zero =>
      obtain rfl : i = N := by omega
      go_wp2_with fail
      go_ret
      exact ⟨⟨A', i, c', rfl⟩, HBE.out⟩
    | succ gg =>
      have hlt : i < N := by omega
      have hltI : (i : Int) < N := by omega
      obtain ⟨ad, hkl, hA, e0, e1, e2, e3, e4⟩ := (HS.out _ HBE.out).1.kid hlt
      subst hA
      have hki := HO.out _ HBE.out ks[i] (List.getElem_mem hkl)
      have hfi := HF.out ks[i] (List.getElem_mem hkl)
      generalize ks[i] = qa at *
      obtain ⟨B1, b1, B2, b2, B3, b3, v1, v2, v3⟩ := okX_forms hki
      rw [v1] at e2; rw [v2] at e3; rw [v3] at e4
      have hva : qa.val = .agg #[.int .i64 qa.kd, .int .i64 qa.n, .slice B1 qa.ms.length b1, .slice B2 qa.ns.length b2, .slice B3 qa.kids.length b3] := by unfold XE.val; rw [v1, v2, v3]
      have ha := (Below.refl wr.heap.size wr).alloc (Nat.le_refl _) (.cells #[.int .i64 qa.kd, .int .i64 qa.n, .slice B1 qa.ms.length b1, .slice B2 qa.ns.length b2, .slice B3 qa.kids.length b3] 26)
      have HC0 := HIH.out qa _ (okX_below ha d _ hki) hfi
      rw [hva] at HC0
      have HCC := Lib.hid HC0
      have HOW2 := Lib.hid (own_below HOW.out ha (Nat.le_refl _))
      have HBE2 := Lib.hid (HBE.out.trans (ha.mono HBE.out.size))
      clear hki hfi v1 v2 v3 hva HC0 ha HOW HBE
      generalize qa.ms.length = l1 at *
      generalize qa.ns.length = l2 at *
      generalize qa.kids.length = l3 at *
      generalize qa.kd = qak at *
      generalize qa.n = qan at *
      go_wp2_with fail
      (with_reducible refine HCC.out.mono ?_); rintro e w3 ⟨C1, n1, d1, C2, n2, d2, C3, n3, d3, rfl, hb⟩
      have hb2 := (Below.refl w3.heap.size w3).alloc (Nat.le_refl _) (.cells #[.int .i64 qak, .int .i64 qan, .slice C1 n1 d1, .slice C2 n2 d2, .slice C3 n3 d3] 26)
      have HOW3 := Lib.hid (own_below (own_below HOW2.out hb (Nat.le_refl _)) hb2 (Nat.le_refl _))
      have HBE3 := Lib.hid ((HBE2.out.trans (hb.mono HBE2.out.size)).trans (hb2.mono (Nat.le_trans HBE2.out.size hb.size)))
      have HSN := Lib.hid ((Blk.mk (heap_alloc_new w3 _) : Blk (w3.alloc (.cells #[.int .i64 qak, .int .i64 qan, .slice C1 n1 d1, .slice C2 n2 d2, .slice C3 n3 d3] 26)) w3.heap.size 26 [.int .i64 qak, .int .i64 qan, .slice C1 n1 d1, .slice C2 n2 d2, .slice C3 n3 d3]).sees (size := 5) (n := 1) rfl (List.prefix_refl _))
      clear hb hb2 HCC HOW2 HBE2
      go_wp2_with (at_builtin; refine wpList_append_sees rfl (.tmp 17) (.tmp 21) 24 rfl w.heap.size 26 i0 (.agg #[.int .i64 0, .int .i64 0, .slice none 0 0, .slice none 0 0, .slice none 0 0]) 5 88 Tryz.underlying24 HI.out HZ0.out HZ1.out HZ2.out rfl (by decide) _ i cs rfl HOW3.out _ (some ⟨w3.heap.size, 0, none⟩) 1 _ [.int .i64 qak, .int .i64 qan, .slice C1 n1 d1, .slice C2 n2 d2, .slice C3 n3 d3] rfl HSN.out (by intro u hu; simp only [List.mem_cons, List.not_mem_nil, or_false] at hu; rcases hu with rfl | rfl | rfl | rfl | rfl <;> rfl) (by unfold maxLen; omega) (by omega) HBE3.out.size ?_)
      intro v' w4 hown hg
      obtain ⟨A5, c5, rfl, hc1, hc2⟩ := own_slice hown
      have HOW5 := Lib.hid hown
      have HBE5 := Lib.hid (HBE3.out.grown hg HBE3.out.size (fun g e => (HOW3.out.lt g e).1))
      clear hown hg HOW3 HBE3 HSN
      go_wp2_with fail
      go_roundg gg
      case measure => omega
      case rel => exact ⟨i + 1, A5, c5, _, by omega, by go_num, rfl, HOW5.out, HBE5.out⟩
set_option maxHeartbeats 4000000 in
theorem clone_step (d : Nat) (IH : CloneSaid d) : CloneSaid (d + 1) := by
  intro x w hok hfew
  obtain ⟨A1, c1, A2, c2, A3, c3, e1, e2, e3⟩ := okX_forms hok
  obtain ⟨kk, n, mv, ms, nv, ns, kv, ks⟩ := x
  simp only [XE.mv, XE.nv, XE.kv, XE.ms, XE.ns, XE.kids] at e1 e2 e3
  subst e1; subst e2; subst e3
  obtain ⟨o1, o2, o3, o4⟩ := hok
  simp only [XE.mv, XE.nv, XE.kv, XE.ms, XE.ns, XE.kids] at o1 o2 o3 o4
  have hfe : ms.length ≤ 1000 ∧ ns.length ≤ 1000 ∧ ks.length ≤ 1000 ∧ fewP (pesX ks) := by
    have h : PE.few (.mk kk n ms ns (pesX ks)) := hfew
    unfold PE.few at h
    rw [pesX_length] at h; exact h
  obtain ⟨l1, l2, l3, l4⟩ := hfe
  show Calls Tryz.prog 42 #[.agg #[.int .i64 kk, .int .i64 n, .slice A1 ms.length c1, .slice A2 ns.length c2, .slice A3 ks.length c3]] w (ClAns kk n w)
  have hsz : (w.alloc (.cells #[.int .i64 kk, .int .i64 n, .slice A1 ms.length c1, .slice A2 ns.length c2, .slice A3 ks.length c3] 26)).heap.size = w.heap.size + 1 := by simp
  have hb : Below w.heap.size w ((w.alloc (.cells #[.int .i64 kk, .int .i64 n, .slice A1 ms.length c1, .slice A2 ns.length c2, .slice A3 ks.length c3] 26)).alloc (.cells #[.int .i64 0, .int .i64 0, .slice none 0 0, .slice none 0 0, .slice none 0 0] 26)) := ((Below.refl _ _).alloc (Nat.le_refl _) _).alloc (by simp) _
  have HC0 : Hid (ClAt w w.heap.size (w.heap.size + 1) kk n (.slice A1 ms.length c1) (.slice A2 ns.length c2) (.slice A3 ks.length c3) ((w.alloc (.cells #[.int .i64 kk, .int .i64 n, .slice A1 ms.length c1, .slice A2 ns.length c2, .slice A3 ks.length c3] 26)).alloc (.cells #[.int .i64 0, .int .i64 0, .slice none 0 0, .slice none 0 0, .slice none 0 0] 26))) := Lib.hid ⟨hb, (Blk.mk (heap_alloc_new w _)).alloc _, (by have hh := (Blk.mk (heap_alloc_new (w.alloc (.cells #[.int .i64 kk, .int .i64 n, .slice A1 ms.length c1, .slice A2 ns.length c2, .slice A3 ks.length c3] 26)) (.cells #[.int .i64 0, .int .i64 0, .slice none 0 0, .slice none 0 0, .slice none 0 0] 26)) : Blk _ (w.alloc (.cells #[.int .i64 kk, .int .i64 n, .slice A1 ms.length c1, .slice A2 ns.length c2, .slice A3 ks.length c3] 26)).heap.size 26 [.int .i64 0, .int .i64 0, .slice none 0 0, .slice none 0 0, .slice none 0 0]); rw [hsz] at hh; exact hh), Nat.le_refl _, Nat.le_succ _, by omega⟩
  have HS := Lib.hid (Slc.slice (o1.below hb)).1
  have HS2 := Lib.hid (fun V (hV : Below w.heap.size w V) => (Slc.slice (o2.below hV)).1)
  have HEA := Lib.hid (fun V (hV : Below w.heap.size w V) => each_any d IH A3 c3 ks V (o3.below hV) (fun k hk => okX_below hV d k (o4 k hk)) (fewP_mem ks l4) l3)
  obtain ⟨m, hm⟩ : ∃ m, ms.length = m := ⟨_, rfl⟩
  obtain ⟨m2, hm2⟩ : ∃ m, ns.length = m := ⟨_, rfl⟩
  obtain ⟨m3, hm3⟩ : ∃ m, ks.length = m := ⟨_, rfl⟩
  rw [hm] at HC0 HS l1 ⊢
  rw [hm2] at HC0 HS HS2 l2 ⊢
  rw [hm3] at HC0 HS HEA l3 ⊢
  have HG := Lib.hid (show ∃ g, w.heap.size = g from ⟨_, rfl⟩)
  have HG1 := Lib.hid (show ∃ g, w.heap.size + 1 = g from ⟨_, rfl⟩)
  have HWS : Hid (∃ W, ((w.alloc (.cells #[.int .i64 kk, .int .i64 n, .slice A1 m c1, .slice A2 m2 c2, .slice A3 m3 c3] 26)).alloc (.cells #[.int .i64 0, .int .i64 0, .slice none 0 0, .slice none 0 0, .slice none 0 0] 26)) = W) := Lib.hid ⟨_, rfl⟩
  clear hb o1 o2 o3 o4 IH hfew l4 hm hm2 hm3 hsz
  go_enter Tryz.func42, Tryz.ntmps42
  go_upto_region 1 with fail
  obtain ⟨b2, hb2⟩ := HG1.out
  obtain ⟨b1, hb1⟩ := HG.out
  obtain ⟨W1, hW1⟩ := HWS.out
  have HB1 := Lib.hid hb1
  have HC := HC0
  rw [hb2, hb1, hW1] at HC
  rw [hW1] at HS
  rw [hW1, hb2, hb1]
  clear HG HG1 HWS HC0 hb1 hb2 hW1
  have HCL := Lib.hid (clone_mtc A1 m c1 W1.heap.size ms W1 HS.out (Nat.le_refl _) (by omega))
  obtain ⟨x0, x1, x2, x3, x4⟩ := blk_cells5 HC.out.bx
  obtain ⟨f0, f1, f2, f3, f4⟩ := blk_fr HC.out.bx
  go_wp2_with fail
  (with_reducible refine HCL.out.mono ?_); rintro e w2 ⟨E1, e1, rfl, hown, hb, hc1, hc2⟩
  have HLT := Lib.hid (show b1 < W1.heap.size ∧ b2 < W1.heap.size from ⟨HC.out.bx.lt, HC.out.bz.lt⟩)
  have HC_n := Lib.hid (HC.out.below hb); clear HC; have HC := HC_n; clear HC_n
  clear hown hb HCL HS x0 x1 x2 x3 x4 f0 f1 f2 f3 f4
  obtain ⟨x0, x1, x2, x3, x4⟩ := blk_cells5 HC.out.bx
  obtain ⟨f0, f1, f2, f3, f4⟩ := blk_fr HC.out.bx
  have HC2 := Lib.hid (HC.out.set2 (.slice E1 m e1))
  go_upto_region 2 with fail
  obtain ⟨W3, hW3⟩ : ∃ W, w2.setCell ⟨b1, 2, none⟩ (.slice E1 m e1) = W := ⟨_, rfl⟩
  rw [hW3] at HC2 ⊢
  clear hW3 HC x0 x1 x2 x3 x4 f0 f1 f2 f3 f4
  have HCL := Lib.hid (clone_str A2 m2 c2 W3.heap.size ns W3 (HS2.out W3 HC2.out.bel) (Nat.le_refl _) (by omega))
  obtain ⟨x0, x1, x2, x3, x4⟩ := blk_cells5 HC2.out.bx
  obtain ⟨f0, f1, f2, f3, f4⟩ := blk_fr HC2.out.bx
  go_wp2_with fail
  (with_reducible refine HCL.out.mono ?_); rintro e w4 ⟨E2, e2, rfl, hown, hb, hd1, hd2⟩
  have HC2_n := Lib.hid (HC2.out.below hb); clear HC2; have HC2 := HC2_n; clear HC2_n
  clear hown hb HCL x0 x1 x2 x3 x4 f0 f1 f2 f3 f4
  obtain ⟨x0, x1, x2, x3, x4⟩ := blk_cells5 HC2.out.bx
  obtain ⟨f0, f1, f2, f3, f4⟩ := blk_fr HC2.out.bx
  have HC5 := Lib.hid (HC2.out.set3 (.slice E2 m2 e2))
  go_upto_region 3 with fail
  obtain ⟨W5, hW5⟩ : ∃ W, w4.setCell ⟨b1, 3, none⟩ (.slice E2 m2 e2) = W := ⟨_, rfl⟩
  rw [hW5] at HC5 ⊢
  clear hW5 HC2 x0 x1 x2 x3 x4 f0 f1 f2 f3 f4
  have HCL := Lib.hid (HEA.out W5 HC5.out.bel)
  obtain ⟨x0, x1, x2, x3, x4⟩ := blk_cells5 HC5.out.bx
  obtain ⟨f0, f1, f2, f3, f4⟩ := blk_fr HC5.out.bx
  go_wp2_with fail
  (with_reducible refine HCL.out.mono ?_); rintro e w6 ⟨⟨E3, m4, e3, rfl⟩, hb⟩
  have HC5_n := Lib.hid (HC5.out.below hb); clear HC5; have HC5 := HC5_n; clear HC5_n
  clear hb HCL x0 x1 x2 x3 x4 f0 f1 f2 f3 f4
  obtain ⟨x0, x1, x2, x3, x4⟩ := blk_cells5 HC5.out.bx
  obtain ⟨f0, f1, f2, f3, f4⟩ := blk_fr HC5.out.bx
  have HC7 := Lib.hid (HC5.out.set4 (.slice E3 m4 e3))
  go_upto_region 4 with fail
  obtain ⟨W7, hW7⟩ : ∃ W, w6.setCell ⟨b1, 4, none⟩ (.slice E3 m4 e3) = W := ⟨_, rfl⟩
  rw [hW7] at HC7 ⊢
  clear hW7 HC5 x0 x1 x2 x3 x4 f0 f1 f2 f3 f4
  obtain ⟨x0, x1, x2, x3, x4⟩ := blk_cells5 HC7.out.bx
  obtain ⟨y0, y1, y2, y3, y4⟩ := blk_cells5 HC7.out.bz
  obtain ⟨f0, f1, f2, f3, f4⟩ := blk_fr HC7.out.bz
  have HQ := Lib.hid (set5W_blk HC7.out.bz (.int .i64 kk) (.int .i64 n) (.slice E1 m e1) (.slice E2 m2 e2) (.slice E3 m4 e3))
  have hg := set5W_grown W7 b2 (.int .i64 kk) (.int .i64 n) (.slice E1 m e1) (.slice E2 m2 e2) (.slice E3 m4 e3)
  have HB8 := Lib.hid (HC7.out.bel.grown hg HC7.out.bel.size (fun g e => by injection e with e; have := HC7.out.l2; omega))
  have HBL := Lib.hid (show w.heap.size ≤ W1.heap.size from by have h1 := HC7.out.l1; have := HLT.out.1; omega)
  clear hg
  go_wp2_with fail
  obtain ⟨q0, q1, q2, q3, q4⟩ := blk_cells5 HQ.out
  unfold set5W at q0 q1 q2 q3 q4
  refine bodyPost_ret (v := .agg #[.int .i64 kk, .int .i64 n, .slice E1 m e1, .slice E2 m2 e2, .slice E3 m4 e3]) (by simp [results, Tryz.results42, go_sem, q0, q1, q2, q3, q4]) rfl ?_
  exact ⟨E1, m, e1, E2, m2, e2, E3, m4, e3, rfl, HB8.out⟩
theorem clone_any : ∀ d, CloneSaid d
  | 0 => fun x w h => h.elim
  | d + 1 => clone_step d (clone_any d)
end Go.Proofs.YtcaapbbbekggiaaGreatDoor
