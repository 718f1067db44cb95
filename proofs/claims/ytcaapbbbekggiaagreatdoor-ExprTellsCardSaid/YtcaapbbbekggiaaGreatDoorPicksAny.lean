/- expr.Picks at any expression of short rows: so many, each a pick by its kind. -/
import Derived.Test.YtcaapbbbekggiaaGreatDoorCloneAny
namespace Go.Proofs.YtcaapbbbekggiaaGreatDoor
open Go.ChangeShapes Go.WideShapes Go.ChangeAt Go.RowKit
set_option linter.unusedVariables false
set_option linter.unusedSimpArgs false
set_option maxRecDepth 100000
mutual
/-- How many picks there are in it. -/
def PE.count : PE → Nat
  | .mk k _ _ _ ks => (if k = 2 then 1 else 0) + countP ks
def countP : List PE → Nat
  | [] => 0
  | x :: l => x.count + countP l
end
theorem countP_append : ∀ l m : List PE, countP (l ++ m) = countP l + countP m
  | [], m => by simp [countP]
  | x :: l, m => by
    show x.count + countP (l ++ m) = (x.count + countP l) + countP m
    rw [countP_append l m, Nat.add_assoc]
theorem countP_snoc (ks : List XE) (i : Nat) (h : i < ks.length) : countP (pesX (ks.take (i + 1))) = countP (pesX (ks.take i)) + (ks[i]).pe.count := by
  rw [List.take_succ_eq_append_getElem h, pesX_map, pesX_map, List.map_append, countP_append]
  simp [countP]
theorem countP_at (ks : List XE) (i : Nat) (h : i < ks.length) : countP (pesX (ks.take i)) + (ks[i]).pe.count ≤ countP (pesX ks) := by
  have h1 := countP_snoc ks i h
  have h2 : countP (pesX ks) = countP (pesX (ks.take (i + 1))) + countP (pesX (ks.drop (i + 1))) := by
    rw [← countP_append, pesX_map, pesX_map, pesX_map, ← List.map_append, List.take_append_drop]
  omega
/-- A pick's cells. -/
def PkT (t : Value × Value × Value × Value × Value) : Prop := ∃ (n : Int) (A1 : Option Addr) (n1 c1 : Nat) (A2 : Option Addr) (n2 c2 : Nat) (A3 : Option Addr) (n3 c3 : Nat), t = (.int .i64 2, .int .i64 n, .slice A1 n1 c1, .slice A2 n2 c2, .slice A3 n3 c3)
/-- Picks, by their kinds, in a row of one's own. -/
structure PkA (w0 : World) (A : Option Addr) (n c : Nat) (W : World) : Prop where
  row : ∃ l, W.ownsRow w0.heap.size 26 5 (.slice A n c) n (quint l) ∧ ∀ t ∈ l, PkT t
  bel : Below w0.heap.size w0 W
theorem PkA.below {w0 W W' : World} {A : Option Addr} {n c : Nat} (h : PkA w0 A n c W) (hb : Below W.heap.size W W') : PkA w0 A n c W' := by
  obtain ⟨⟨l, h1, h2⟩, h3⟩ := h
  exact ⟨⟨l, own_below h1 hb (Nat.le_refl _), h2⟩, h3.trans (hb.mono h3.size)⟩
theorem PkA.lt {w0 W : World} {A : Option Addr} {n c : Nat} (h : PkA w0 A n c W) : ∀ g, (Value.slice A n c).ownBlock = some g → w0.heap.size ≤ g ∧ g < W.heap.size := fun g e => by
  obtain ⟨⟨l, h1, h2⟩, h3⟩ := h
  exact h1.lt g e
def AllAns (w0 : World) (m : Nat) (e : Ending) (w' : World) : Prop := ∃ (A' : Option Addr) (c' : Nat), e = .returned (.slice A' m c') ∧ PkA w0 A' m c' w'
def AllSaid (d : Nat) : Prop := ∀ (w0 : World) (x : XE) (A : Option Addr) (n c : Nat) (w : World), okX d x w0 → x.pe.few → PkA w0 A n c w → n + x.pe.count ≤ 1000000 →
    Calls Tryz.prog 22 #[.slice A n c, x.val] w (AllAns w0 (n + x.pe.count))
set_option maxHeartbeats 4000000 in
theorem all_step (d : Nat) (IH : AllSaid d) : AllSaid (d + 1) := by
  intro w0 x A n c w hok hfew hp hN
  obtain ⟨A1, c1, A2, c2, A3, c3, e1, e2, e3⟩ := okX_forms hok
  obtain ⟨kk, nn, mv, ms, nv, ns, kv, ks⟩ := x
  simp only [XE.mv, XE.nv, XE.kv, XE.ms, XE.ns, XE.kids] at e1 e2 e3
  subst e1; subst e2; subst e3
  have hfe : ks.length ≤ 1000 ∧ fewP (pesX ks) := by
    have h : PE.few (.mk kk nn ms ns (pesX ks)) := hfew
    unfold PE.few at h
    rw [pesX_length] at h; exact ⟨h.2.2.1, h.2.2.2⟩
  obtain ⟨hk1000, hfk⟩ := hfe
  have HB0 : Hid (Blk (w.alloc (.cells #[.int .i64 kk, .int .i64 nn, .slice A1 ms.length c1, .slice A2 ns.length c2, .slice A3 ks.length c3] 26)) w.heap.size 26 [.int .i64 kk, .int .i64 nn, .slice A1 ms.length c1, .slice A2 ns.length c2, .slice A3 ks.length c3]) := Lib.hid (Blk.mk (heap_alloc_new w _))
  have HP := Lib.hid (hp.below ((Below.refl w.heap.size w).alloc (Nat.le_refl _) (.cells #[.int .i64 kk, .int .i64 nn, .slice A1 ms.length c1, .slice A2 ns.length c2, .slice A3 ks.length c3] 26)))
  have HLT := Lib.hid (show ∀ g, (Value.slice A n c).ownBlock = some g → g < w.heap.size from fun g e => (hp.lt g e).2)
  have HCA := Lib.hid (fun V (hV : Below w0.heap.size w0 V) => show Calls Tryz.prog 42 #[.agg #[.int .i64 kk, .int .i64 nn, .slice A1 ms.length c1, .slice A2 ns.length c2, .slice A3 ks.length c3]] V (ClAns kk nn V) from clone_any (d + 1) _ V (okX_below hV _ _ hok) hfew)
  have HKS : Hid (Slc w0 5 (.slice A3 ks.length c3) ks.length (kcells ks)) := Lib.hid hok.2.2.1
  have HKO : Hid (∀ k ∈ ks, okX d k w0) := Lib.hid hok.2.2.2
  have HKF := Lib.hid (fewP_mem ks hfk)
  have HIH := Lib.hid IH
  obtain ⟨nb, hnb⟩ : ∃ b : Nat, (if kk = 2 then 1 else 0) = b := ⟨_, rfl⟩
  have HNB := Lib.hid hnb
  have hct : (XE.mk kk nn (.slice A1 ms.length c1) ms (.slice A2 ns.length c2) ns (.slice A3 ks.length c3) ks).pe.count = nb + countP (pesX ks) := by
    show PE.count (.mk kk nn ms ns (pesX ks)) = _
    unfold PE.count; rw [hnb]
  rw [hct] at hN ⊢
  obtain ⟨tot, htot⟩ : ∃ t, n + (nb + countP (pesX ks)) = t := ⟨_, rfl⟩
  have HTOT := Lib.hid htot
  rw [htot] at hN ⊢
  have hn1 : n + nb ≤ 1000000 := by omega
  show Calls Tryz.prog 22 #[.slice A n c, .agg #[.int .i64 kk, .int .i64 nn, .slice A1 ms.length c1, .slice A2 ns.length c2, .slice A3 ks.length c3]] w (AllAns w0 tot)
  clear hct hnb htot hfk hok hfew hp IH
  go_enter Tryz.func22, Tryz.ntmps22
  go_upto_region 1 with fail
  obtain ⟨b3, hb3⟩ : ∃ g, w.heap.size = g := ⟨_, rfl⟩
  rw [hb3] at HB0 HLT ⊢
  clear hb3
  generalize w.alloc (.cells #[.int .i64 kk, .int .i64 nn, .slice A1 ms.length c1, .slice A2 ns.length c2, .slice A3 ks.length c3] 26) = W1 at *
  obtain ⟨x0, x1, x2, x3, x4⟩ := blk_cells5 HB0.out
  obtain ⟨pb, hpb⟩ : ∃ p, (kk == 2) = p := ⟨_, rfl⟩
  have HPB := Lib.hid hpb
  go_upto_if 9 with fail
  clear hpb
  go_cut [0] from 10 to 14 (fun y0 wx => ∃ (A' : Option Addr) (c' : Nat), y0 = .slice A' (n + nb) c' ∧ PkA w0 A' (n + nb) c' wx ∧ Blk wx b3 26 [.int .i64 kk, .int .i64 nn, .slice A1 ms.length c1, .slice A2 ns.length c2, .slice A3 ks.length c3])
  case first =>
    cases pb with
    | true =>
      have hk2 : kk = 2 := by have h := HPB.out; simpa using h
      have hnb1 : nb = 1 := by rw [← HNB.out, if_pos hk2]
      subst hnb1
      obtain ⟨i0, hi, hz0, hz1, hz2⟩ := info_parts Tryz.infoExprC
      have HC := Lib.hid (HCA.out W1 HP.out.bel)
      have HK2 := Lib.hid hk2
      clear hk2
      go_wp2_with fail
      (with_reducible refine HC.out.mono ?_); rintro e w2 ⟨C1, n1, d1, C2, n2, d2, C3, n3, d3, rfl, hb⟩
      have hb2 := (Below.refl w2.heap.size w2).alloc (Nat.le_refl _) (.cells #[.int .i64 kk, .int .i64 nn, .slice C1 n1 d1, .slice C2 n2 d2, .slice C3 n3 d3] 26)
      have HP2 := Lib.hid ((HP.out.below hb).below hb2)
      have HB2 := Lib.hid ((HB0.out.below hb HB0.out.lt).below hb2 (HB0.out.below hb HB0.out.lt).lt)
      have HSN := Lib.hid ((Blk.mk (heap_alloc_new w2 _) : Blk (w2.alloc (.cells #[.int .i64 kk, .int .i64 nn, .slice C1 n1 d1, .slice C2 n2 d2, .slice C3 n3 d3] 26)) w2.heap.size 26 [.int .i64 kk, .int .i64 nn, .slice C1 n1 d1, .slice C2 n2 d2, .slice C3 n3 d3]).sees (size := 5) (n := 1) rfl (List.prefix_refl _))
      clear hb hb2 HC HP HB0 x0 x1 x2 x3 x4
      obtain ⟨l, hl1, hl2⟩ := HP2.out.row
      go_wp2_with (at_builtin; refine wpList_append_sees rfl (.tmp 10) (.tmp 13) 24 rfl w0.heap.size 26 i0 (.agg #[.int .i64 0, .int .i64 0, .slice none 0 0, .slice none 0 0, .slice none 0 0]) 5 88 Tryz.underlying24 hi hz0 hz1 hz2 rfl (by decide) _ n (quint l) rfl hl1 _ (some ⟨w2.heap.size, 0, none⟩) 1 _ [.int .i64 kk, .int .i64 nn, .slice C1 n1 d1, .slice C2 n2 d2, .slice C3 n3 d3] rfl HSN.out (by intro u hu; simp only [List.mem_cons, List.not_mem_nil, or_false] at hu; rcases hu with rfl | rfl | rfl | rfl | rfl <;> rfl) (by unfold maxLen; omega) (by omega) HP2.out.bel.size ?_)
      intro v' w4 hown hg
      obtain ⟨A5, c5, rfl, hc1, hc2⟩ := own_slice hown
      have HP5 : Hid (PkA w0 A5 (n + 1) c5 w4) := Lib.hid ⟨⟨l ++ [(.int .i64 kk, .int .i64 nn, .slice C1 n1 d1, .slice C2 n2 d2, .slice C3 n3 d3)], by rw [quint_append]; exact hown, fun t ht => by
        rcases List.mem_append.1 ht with ht | ht
        · exact hl2 t ht
        · rw [List.mem_singleton] at ht; subst ht; exact ⟨nn, C1, n1, d1, C2, n2, d2, C3, n3, d3, by rw [HK2.out]⟩⟩, HP2.out.bel.grown hg HP2.out.bel.size (fun g e => (HP2.out.lt g e).1)⟩
      have HB5 := Lib.hid (HB2.out.grown hg (fun e => by have := HLT.out b3 e.symm; omega))
      clear hown hg hl1 hl2 HP2 HB2 HSN hi hz0 hz1 hz2
      go_wp2_with fail
      go_meet
      exact ⟨A5, c5, rfl, HP5.out, HB5.out⟩
    | false =>
      have hk2 : ¬ kk = 2 := by have h := HPB.out; simpa using h
      have hnb0 : nb = 0 := by rw [← HNB.out, if_neg hk2]
      subst hnb0
      clear hk2
      go_wp2_with fail
      go_meet
      exact ⟨A, c, rfl, HP.out, HB0.out⟩
  case rest =>
    obtain ⟨A0, c0, rfl, hpa, hbk⟩ := hcut
    have HPA := Lib.hid hpa; have HBK := Lib.hid hbk
    clear hpa hbk HP HB0 HCA HLT HPB x0 x1 x2 x3 x4
    obtain ⟨n0, hn0⟩ : ∃ m, n + nb = m := ⟨_, rfl⟩
    have HT2 := Lib.hid (show n0 + countP (pesX ks) = tot by rw [← HTOT.out, ← hn0, Nat.add_assoc])
    rw [hn0] at HPA ⊢
    obtain ⟨N, hNe⟩ : ∃ N, ks.length = N := ⟨_, rfl⟩
    have HNE := Lib.hid hNe
    obtain ⟨x0, x1, x2, x3, x4⟩ := blk_cells5 HBK.out
    rw [hNe] at HKS x4 hk1000
    clear hNe hn0 HTOT HNB hn1
    go_wp2_with fail
    go_loopg [0, 6, 18] N (fun g y0 y6 y18 wr => ∃ (i m : Nat) (A' : Option Addr) (c' : Nat), i + g = N ∧ y18 = .int .i64 i ∧ y0 = .slice A' m c' ∧ m = n0 + countP (pesX (ks.take i)) ∧ PkA w0 A' m c' wr)
    case atStart => exact ⟨0, n0, A0, c0, by omega, rfl, rfl, by simp [pesX, countP], HPA.out⟩
    case round =>
      obtain ⟨i, m, A', c', hig, rfl, rfl, hm, hpr⟩ := hrel
      have HPR := Lib.hid hpr; have HM := Lib.hid hm
      clear hpr hm HPA HBK x0 x1 x2 x3 x4
      cases gk with
      | zero =>
        obtain rfl : i = N := by omega
        have hmt : m = tot := by rw [HM.out, List.take_of_length_le (by rw [HNE.out]; exact Nat.le_refl _)]; exact HT2.out
        subst hmt
        go_wp2_with fail
        go_ret
        exact ⟨A', c', rfl, HPR.out⟩
      | succ gg =>
        have hlt : i < N := by omega
        obtain ⟨ad, hkl, hA, e0, e1, e2, e3, e4⟩ := (Slc.slice (HKS.out.below HPR.out.bel)).1.kid hlt
        subst hA
        have hki := HKO.out ks[i] (List.getElem_mem hkl)
        have hfi := HKF.out ks[i] (List.getElem_mem hkl)
        have hbd : m + (ks[i]).pe.count ≤ 1000000 := by
          have h2 := countP_at ks i hkl
          have h3 := HM.out
          have h4 := HT2.out
          omega
        have HSN := Lib.hid (countP_snoc ks i hkl)
        have HC0 := Lib.hid (fun V hV => HIH.out w0 ks[i] A' m c' V hki hfi hV hbd)
        generalize ks[i] = qa at *
        obtain ⟨B1, b1, B2, b2, B3, b3', v1, v2, v3⟩ := okX_forms hki
        rw [v1] at e2; rw [v2] at e3; rw [v3] at e4
        have hva : qa.val = .agg #[.int .i64 qa.kd, .int .i64 qa.n, .slice B1 qa.ms.length b1, .slice B2 qa.ns.length b2, .slice B3 qa.kids.length b3'] := by unfold XE.val; rw [v1, v2, v3]
        rw [hva] at HC0
        have HCC := Lib.hid (HC0.out _ (HPR.out.below ((Below.refl wr.heap.size wr).alloc (Nat.le_refl _) (.cells #[.int .i64 qa.kd, .int .i64 qa.n, .slice B1 qa.ms.length b1, .slice B2 qa.ns.length b2, .slice B3 qa.kids.length b3'] 26))))
        clear hki hfi hbd v1 v2 v3 hva HC0 HPR
        generalize qa.ms.length = l1 at *
        generalize qa.ns.length = l2 at *
        generalize qa.kids.length = l3 at *
        generalize qa.kd = qak at *
        generalize qa.n = qan at *
        go_wp2_with fail
        (with_reducible refine HCC.out.mono ?_); rintro e w3 ⟨A5, c5, rfl, hp5⟩
        have HP5 := Lib.hid hp5
        clear hp5 HCC
        go_wp2_with fail
        go_roundg gg
        case measure => omega
        case rel => exact ⟨i + 1, m + qa.pe.count, A5, c5, by omega, by go_num, rfl, by rw [HM.out, HSN.out, Nat.add_assoc], HP5.out⟩
theorem all_any : ∀ d, AllSaid d
  | 0 => fun w0 x A n c w h => h.elim
  | d + 1 => all_step d (all_any d)
set_option maxHeartbeats 2000000 in
theorem picks_all (d : Nat) (x : XE) (w : World) (hok : okX d x w) (hf : x.pe.few) (hN : x.pe.count ≤ 1000000) :
    Calls Tryz.prog 8 #[x.val] w (AllAns w x.pe.count) := by
  obtain ⟨A1, c1, A2, c2, A3, c3, e1, e2, e3⟩ := okX_forms hok
  obtain ⟨kk, nn, mv, ms, nv, ns, kv, ks⟩ := x
  simp only [XE.mv, XE.nv, XE.kv, XE.ms, XE.ns, XE.kids] at e1 e2 e3
  subst e1; subst e2; subst e3
  have HB0 : Hid (Blk (w.alloc (.cells #[.int .i64 kk, .int .i64 nn, .slice A1 ms.length c1, .slice A2 ns.length c2, .slice A3 ks.length c3] 26)) w.heap.size 26 [.int .i64 kk, .int .i64 nn, .slice A1 ms.length c1, .slice A2 ns.length c2, .slice A3 ks.length c3]) := Lib.hid (Blk.mk (heap_alloc_new w _))
  have HC := Lib.hid (show Calls Tryz.prog 22 #[.slice none 0 0, .agg #[.int .i64 kk, .int .i64 nn, .slice A1 ms.length c1, .slice A2 ns.length c2, .slice A3 ks.length c3]] (w.alloc (.cells #[.int .i64 kk, .int .i64 nn, .slice A1 ms.length c1, .slice A2 ns.length c2, .slice A3 ks.length c3] 26)) (AllAns w (PE.count (.mk kk nn ms ns (pesX ks)))) from by
    have h := all_any d w _ none 0 0 (w.alloc (.cells #[.int .i64 kk, .int .i64 nn, .slice A1 ms.length c1, .slice A2 ns.length c2, .slice A3 ks.length c3] 26)) hok hf ⟨⟨[], World.ownsRow_nil _ _ _ _, fun t ht => absurd ht List.not_mem_nil⟩, (Below.refl _ _).alloc (Nat.le_refl _) _⟩ (by omega)
    rw [Nat.zero_add] at h
    exact h)
  show Calls Tryz.prog 8 #[.agg #[.int .i64 kk, .int .i64 nn, .slice A1 ms.length c1, .slice A2 ns.length c2, .slice A3 ks.length c3]] w (AllAns w (PE.count (.mk kk nn ms ns (pesX ks))))
  obtain ⟨m, hm⟩ : ∃ m, PE.count (.mk kk nn ms ns (pesX ks)) = m := ⟨_, rfl⟩
  rw [hm] at HC ⊢
  clear hok hf hN hm
  go_enter Tryz.func8, Tryz.ntmps8
  go_upto_region 1 with fail
  obtain ⟨b1, hb1⟩ : ∃ g, w.heap.size = g := ⟨_, rfl⟩
  rw [hb1] at HB0 ⊢
  clear hb1
  generalize w.alloc (.cells #[.int .i64 kk, .int .i64 nn, .slice A1 ms.length c1, .slice A2 ns.length c2, .slice A3 ks.length c3] 26) = W1 at *
  obtain ⟨x0, x1, x2, x3, x4⟩ := blk_cells5 HB0.out
  go_wp2_with fail
  (with_reducible refine HC.out.mono ?_); rintro e w2 ⟨A', c', rfl, hp⟩
  have HP := Lib.hid hp
  clear hp HC x0 x1 x2 x3 x4
  go_wp2_with fail
  go_ret
  exact ⟨A', c', rfl, HP.out⟩
end Go.Proofs.YtcaapbbbekggiaaGreatDoor
