/- VecLogic. -/
import Derived.Test.YtbndmmfpoljeaaaVecStart
namespace Go.Proofs.Ytbndmmfpoljeaaa
open Go.ChangeShapes Go.WideShapes Go.ChangeAt Go.RowKit
set_option linter.unusedVariables false
set_option linter.unusedSimpArgs false
set_option maxRecDepth 100000
/-- What a law of and, or, unless wants of two vectors. -/
structure LogicF (ps qs : List Pt) (n : Int) (La Lu Lo Lb L10 L13 L8 L9 L11 L12 : List Pt) : Prop where
  r14 : logicR 14 ps qs = (La, 0)
  r16 : logicR 16 ps qs = (Lu, 0)
  r15 : logicR 15 ps qs = (Lo, 0)
  rb : logicR 16 qs ps = (Lb, 0)
  rs : logicR 14 ps ps = (sortP ps, 0)
  tw : twiceF (keysP Lo) = false
  au : sortP (La ++ Lu) = sortP ps
  xb : sortP (ps ++ Lb) = Lo
  n1 : La.length + Lu.length = ps.length
  n2 : Lo.length ≤ ps.length + qs.length
  n3 : Lb.length ≤ qs.length
  fa : Fine La
  fu : Fine Lu
  fo : Fine Lo
  fb : Fine Lb
  a10 : sortP (aboveF 10 n ps) = L10
  a13 : sortP (aboveF 13 n ps) = L13
  a8 : sortP (aboveF 8 n ps) = L8
  a9 : sortP (aboveF 9 n ps) = L9
  a11 : sortP (aboveF 11 n ps) = L11
  a12 : sortP (aboveF 12 n ps) = L12
  lg : sortP (L10 ++ L13) = sortP ps
  en : sortP (L8 ++ L9) = sortP ps
  m1 : L10.length + L13.length = ps.length
  m2 : L8.length + L9.length = ps.length
  m3 : L11.length = L10.length + L8.length
  m4 : L12.length + L8.length = L13.length
  f10 : Fine (L10 ++ L13)
  f8 : Fine (L8 ++ L9)
theorem logicF_of {ps qs : List Pt} (hp : VecOk ps) (hq : VecOk qs) (n : Int) (h : twiceF (keysP ps) = false) (h2 : twiceF (keysP qs) = false) : ∃ La Lu Lo Lb L10 L13 L8 L9 L11 L12, LogicF ps qs n La Lu Lo Lb L10 L13 L8 L9 L11 L12 := by
  have hn := (twice_iff _).1 h
  have hn2 := (twice_iff _).1 h2
  have e : ∀ b : Bool, amongF (keysP qs) b ps = ps.filter fun p => decide (keyT p.1 ∈ keysP qs) == b := fun b => among_filter _ _ _
  have et : amongF (keysP qs) true ps = ps.filter fun p => decide (keyT p.1 ∈ keysP qs) := by rw [e]; exact List.filter_congr fun p _ => by simp
  have ef : amongF (keysP qs) false ps = ps.filter fun p => !decide (keyT p.1 ∈ keysP qs) := by rw [e]; exact List.filter_congr fun p _ => by simp
  have hsub : ∀ f : Pt → Bool, Fine (sortP (ps.filter f)) := fun f => (hp.fine.sub fun p hp => (List.mem_filter.1 hp).1).sort
  have a9e : aboveF 9 n ps = ps.filter fun p => !holdsF 8 p.2 n := above_opp 8 n ps (.inl rfl)
  have a13e : aboveF 13 n ps = ps.filter fun p => !holdsF 10 p.2 n := above_opp 10 n ps (.inr (.inl rfl))
  refine ⟨sortP (amongF (keysP qs) true ps), sortP (amongF (keysP qs) false ps), sortP (ps ++ amongF (keysP ps) false qs), sortP (amongF (keysP ps) false qs), _, _, _, _, _, _, ?_, ?_, ?_, ?_, ?_, ?_, ?_, ?_, ?_, ?_, ?_, ?_, ?_, ?_, ?_, rfl, rfl, rfl, rfl, rfl, rfl, ?_, ?_, ?_, ?_, ?_, ?_, ?_, ?_⟩
  · unfold logicR; rw [h, h2]; rfl
  · unfold logicR; rw [h, h2]; rfl
  · unfold logicR; rw [h, h2]; rfl
  · unfold logicR; rw [h, h2]; rfl
  · unfold logicR; rw [h]; show (sortP (amongF (keysP ps) true ps), (0 : Int)) = _; rw [among_self]
  · rw [twice_perm (keysP_sort _), twice_iff]; exact or_nodup hn hn2
  · rw [et, ef]; exact sort_parts hp.inj _
  · exact sort_or hp hq
  · rw [sortP_len, sortP_len, et, ef]; exact parts_len ps _
  · rw [sortP_len, List.length_append]; have := among_len (keysP ps) false qs; omega
  · rw [sortP_len]; exact among_len _ _ _
  · rw [et]; exact hsub _
  · rw [ef]; exact hsub _
  · exact (hp.fine.app (hq.fine.sub fun p hp => among_mem hp)).sort
  · exact (hq.fine.sub fun p hp => among_mem hp).sort
  · rw [a13e]; exact sort_parts hp.inj _
  · rw [a9e]; exact sort_parts hp.inj _
  · rw [sortP_len, sortP_len, a13e]; exact parts_len ps _
  · rw [sortP_len, sortP_len, a9e]; exact parts_len ps _
  · rw [sortP_len, sortP_len, sortP_len]; exact le_len n ps
  · rw [sortP_len, sortP_len, sortP_len]; exact gt_len n ps
  · rw [a13e]; exact (hsub _).app (hsub _)
  · rw [a9e]; exact (hsub _).app (hsub _)
set_option maxHeartbeats 8000000 in
theorem vec_logic (ka kb : KVec) (n : Int) (w0 : World) (ha : ka.ok w0.heap.size w0) (hb : kb.ok w0.heap.size w0) :
    Calls Try.prog 5 #[ka.val, kb.val, .int .i64 n] w0 fun e w' => e = .returned (.bool true) ∧ Below w0.heap.size w0 w' := by
  have HRN := Lib.hid vec_runs
  have HT0 := Lib.hid (TwoV.start ha hb)
  have hpA := vecF_ok ka
  have hpB := vecF_ok kb
  have HPA := Lib.hid hpA; have HPB := Lib.hid hpB
  have hla := hpA.len
  have hlb := hpB.len
  obtain ⟨b3, hb3⟩ : ∃ q, w0.heap.size = q := ⟨_, rfl⟩
  obtain ⟨b4, hb4⟩ : ∃ q, w0.heap.size + 1 = q := ⟨_, rfl⟩
  obtain ⟨W0, hW0⟩ : ∃ V, (w0.alloc (.cells #[.slice ka.A ka.qs.length ka.c, .slice ka.A2 ka.n2 ka.c2] 37)).alloc (.cells #[.slice kb.A kb.qs.length kb.c, .slice kb.A2 kb.n2 kb.c2] 37) = V := ⟨_, rfl⟩
  have HT := Lib.hid (show TwoV w0 ka kb b3 b4 W0 by have h := HT0.out; rw [hW0, hb4, hb3] at h; exact h)
  have HEQ := Lib.hid (And.intro hb3 (And.intro hb4 hW0))
  clear ha hb HT0 hb3 hb4 hW0 hpA hpB
  unfold KVec.val
  go_enter Try.func5, Try.ntmps5
  go_upto_region 1 with fail
  rw [HEQ.out.2.2, HEQ.out.2.1, HEQ.out.1]
  clear HEQ
  refine wp_region_facts (R := fun a b => Below a.heap.size a b) (G := (fun W => TwoV w0 ka kb b3 b4 W)) (V := fun i' u' W => match i' with | 0 => u' = .agg #[.slice ka.A ka.qs.length ka.c, .slice ka.A2 ka.n2 ka.c2] | 1 => VAt (vecF ka) u' W | 2 => u' = .agg #[.slice kb.A kb.qs.length kb.c, .slice kb.A2 kb.n2 kb.c2] | 3 => VAt (vecF kb) u' W | 4 => VAt (vecF ka) u' W | 5 => VAt (vecF kb) u' W | _ => True) (by kernel_rfl) (fun w => Below.refl _ _) (fun a b c h1 h2 => h1.trans (h2.mono h1.size)) (by kernel_rfl) (by kernel_rfl) ?hG ⟨?o0, ?o1, ?o2, ?o3, ?o4, ?o5, trivial⟩ ?hend
  case o0 =>
    intro a w hfr hG hd
    refine ⟨fun hw => ?_, fun hw => absurd hw (by simp [Region.wanted])⟩
    have s3 : a.tmps.getD 3 undef = .pointer (some ⟨b3, 0, none⟩) := hfr.at 3 (by kernel_rfl)
    have z0 := hG.now.x3.cell 0; have z1 := hG.now.x3.cell 1; simp only [List.getElem?_cons_zero, List.getElem?_cons_succ] at z0 z1
    refine op_yields (.agg #[.slice ka.A ka.qs.length ka.c, .slice ka.A2 ka.n2 ka.c2]) ?_ ?_ ?_
    · simp only [execOp, resolve, List.map_toArray, List.map_cons, List.map_nil, Act.eval, s3]; simp [go_sem, -Array.getD_eq_getD_getElem?, s3, z0, z1]
    · exact Below.refl _ _
    · exact (fun _ _ => rfl)
  case o1 =>
    intro a w hfr hG hd
    obtain ⟨d0, _⟩ := hd
    refine ⟨fun hw => ?_, fun hw => absurd hw (by simp [Region.wanted])⟩
    have s27 : a.tmps.getD 27 undef = .agg #[.slice ka.A ka.qs.length ka.c, .slice ka.A2 ka.n2 ka.c2] := (d0 rfl).now
    refine op_calls2 ((vec_v hG.now.oka hG.now.bel.size).mono fun e' w' hh => ?_) (by simp only [execOp, resolve, List.map_toArray, List.map_cons, List.map_nil, Act.eval, s27]; simp [go_sem, -Array.getD_eq_getD_getElem?, s27]); obtain ⟨v, h1, h2, h3⟩ := hh; exact ⟨v, h1, h3, fun W' hW' => h2.below hW'⟩
  case o2 =>
    intro a w hfr hG hd
    refine ⟨fun hw => ?_, fun hw => absurd hw (by simp [Region.wanted])⟩
    have s4 : a.tmps.getD 4 undef = .pointer (some ⟨b4, 0, none⟩) := hfr.at 4 (by kernel_rfl)
    have z0 := hG.now.x4.cell 0; have z1 := hG.now.x4.cell 1; simp only [List.getElem?_cons_zero, List.getElem?_cons_succ] at z0 z1
    refine op_yields (.agg #[.slice kb.A kb.qs.length kb.c, .slice kb.A2 kb.n2 kb.c2]) ?_ ?_ ?_
    · simp only [execOp, resolve, List.map_toArray, List.map_cons, List.map_nil, Act.eval, s4]; simp [go_sem, -Array.getD_eq_getD_getElem?, s4, z0, z1]
    · exact Below.refl _ _
    · exact (fun _ _ => rfl)
  case o3 =>
    intro a w hfr hG hd
    obtain ⟨d0, d1, _⟩ := hd
    refine ⟨fun hw => ?_, fun hw => absurd hw (by simp [Region.wanted])⟩
    have s29 : a.tmps.getD 29 undef = .agg #[.slice kb.A kb.qs.length kb.c, .slice kb.A2 kb.n2 kb.c2] := (d0 rfl).now
    refine op_calls2 ((vec_v hG.now.okb hG.now.bel.size).mono fun e' w' hh => ?_) (by simp only [execOp, resolve, List.map_toArray, List.map_cons, List.map_nil, Act.eval, s29]; simp [go_sem, -Array.getD_eq_getD_getElem?, s29]); obtain ⟨v, h1, h2, h3⟩ := hh; exact ⟨v, h1, h3, fun W' hW' => h2.below hW'⟩
  case o4 =>
    intro a w hfr hG hd
    obtain ⟨d0, d1, d2, d3, d4, d5, _⟩ := hd
    refine ⟨fun hw => ?_, fun hw => absurd hw (by simp [Region.wanted])⟩
    have p28 : Hold (fun a b => Below a.heap.size a b) (fun W => VAt (vecF ka) (a.tmps.getD 28 undef) W) w := d0 rfl
    refine op_yields (a.tmps.getD 28 undef) ?_ ?_ ?_
    · simp only [execOp, Act.eval]; rfl
    · exact Below.refl _ _
    · exact p28
  case o5 =>
    intro a w hfr hG hd
    obtain ⟨d0, d1, d2, d3, d4, d5, d6, _⟩ := hd
    refine ⟨fun hw => ?_, fun hw => absurd hw (by simp [Region.wanted])⟩
    have p30 : Hold (fun a b => Below a.heap.size a b) (fun W => VAt (vecF kb) (a.tmps.getD 30 undef) W) w := d0 rfl
    refine op_yields (a.tmps.getD 30 undef) ?_ ?_ ?_
    · simp only [execOp, Act.eval]; rfl
    · exact Below.refl _ _
    · exact p30
  case hG => exact fun w' hb => HT.out.below ((Below.refl _ _).drew.trans (hb.mono (by simp)))
  case hend =>
    intro vs w1 hG hv
    have key : VAt (vecF ka) (vs 4) w1 ∧ VAt (vecF kb) (vs 5) w1 := by
      obtain ⟨_, _, _, _, h4, h5, _⟩ := hv
      exact ⟨h4.now, h5.now⟩
    obtain ⟨hva, hvb⟩ := key
    have HS0 := Lib.hid (show VS w0 [(vs 4, vecF ka), (vs 5, vecF kb)] w1 from ⟨fun x hx => by
      simp only [List.mem_cons, List.not_mem_nil, or_false] at hx
      rcases hx with rfl | rfl
      · exact hva
      · exact hvb, hG.now.bel⟩)
    clear hva hvb hG hv HT
    simp only [putAll, Act.put]
    generalize vs 4 = x at *
    generalize vs 5 = y at *
    generalize vecF ka = ps at *
    generalize vecF kb = qs at *
    have HFA := Lib.hid HPA.out.fine; have HFB := Lib.hid HPB.out.fine
    go_simp
    go_wp2_with fail
    (with_reducible refine (twice_v (HS0.out.at (List.mem_cons_self)) (by omega) HFA.out).mono ?_); rintro e wv1 ⟨rfl, hb⟩
    have HS1 := Lib.hid (HS0.out.below hb)
    clear hb HS0
    obtain ⟨tp, htp⟩ : ∃ t, twiceF (keysP ps) = t := ⟨_, rfl⟩
    obtain ⟨tq, htq⟩ : ∃ t, twiceF (keysP qs) = t := ⟨_, rfl⟩
    have HTP := Lib.hid htp; have HTQ := Lib.hid htq
    rw [htp]
    clear htp htq
    
    cases tp with
    | true =>
      have HTQ2 := HTQ
      have HL14 : Hid (logicR 14 ps qs = ([], 5)) := Lib.hid (by unfold logicR; rw [HTP.out]; rfl)
      have HF8 : Hid (filterR 8 ps qs = ([], 5)) := Lib.hid (by unfold filterR; rw [HTP.out]; rfl)
      go_wp2_with fail
      (with_reducible refine (logic_v 14 HL14.out (HS1.out.at (List.mem_cons_self)) (HS1.out.at (List.mem_cons_of_mem _ (List.mem_cons_self))) (by omega) HFA.out HFB.out).mono ?_); rintro e wv2 ⟨e1, rfl, hv, hb⟩
      have HS2 := Lib.hid (HS1.out.add hv hb)
      clear hv hb HS1
      go_wp2_with fail
      (with_reducible refine (filter_v 8 HF8.out (HS2.out.at (List.mem_cons_of_mem _ (List.mem_cons_self))) (HS2.out.at (List.mem_cons_of_mem _ (List.mem_cons_of_mem _ (List.mem_cons_self)))) (by omega) HFA.out HFB.out).mono ?_); rintro e wv3 ⟨e2, rfl, hv, hb⟩
      have HS3 := Lib.hid (HS2.out.add hv hb)
      clear hv hb HS2
      go_wp2_with fail
      (with_reducible refine (HRN.out wv3).mono ?_); rintro e wv4 ⟨rfl, hb⟩
      have HS4 := Lib.hid (HS3.out.below hb)
      clear hb HS3
      go_wp2_with fail
      go_ret
      exact ⟨rfl, HS4.out.bel⟩
    | false =>
    go_wp2_with fail
    (with_reducible refine (twice_v (HS1.out.at (List.mem_cons_of_mem _ (List.mem_cons_self))) (by omega) HFB.out).mono ?_); rintro e wv2 ⟨rfl, hb⟩
    have HS2 := Lib.hid (HS1.out.below hb)
    clear hb HS1
    rw [HTQ.out]
    cases tq with
    | true =>
      have HL14 : Hid (logicR 14 ps qs = ([], 5)) := Lib.hid (by unfold logicR; rw [HTP.out, HTQ.out]; rfl)
      have HF8 : Hid (filterR 8 ps qs = ([], 5)) := Lib.hid (by unfold filterR; rw [HTP.out, HTQ.out]; rfl)
      go_wp2_with fail
      (with_reducible refine (logic_v 14 HL14.out (HS2.out.at (List.mem_cons_self)) (HS2.out.at (List.mem_cons_of_mem _ (List.mem_cons_self))) (by omega) HFA.out HFB.out).mono ?_); rintro e wv3 ⟨e1, rfl, hv, hb⟩
      have HS3 := Lib.hid (HS2.out.add hv hb)
      clear hv hb HS2
      go_wp2_with fail
      (with_reducible refine (filter_v 8 HF8.out (HS3.out.at (List.mem_cons_of_mem _ (List.mem_cons_self))) (HS3.out.at (List.mem_cons_of_mem _ (List.mem_cons_of_mem _ (List.mem_cons_self)))) (by omega) HFA.out HFB.out).mono ?_); rintro e wv4 ⟨e2, rfl, hv, hb⟩
      have HS4 := Lib.hid (HS3.out.add hv hb)
      clear hv hb HS3
      go_wp2_with fail
      (with_reducible refine (HRN.out wv4).mono ?_); rintro e wv5 ⟨rfl, hb⟩
      have HS5 := Lib.hid (HS4.out.below hb)
      clear hb HS4
      go_wp2_with fail
      go_ret
      exact ⟨rfl, HS5.out.bel⟩
    | false =>
    obtain ⟨La, Lu, Lo, Lb, L10, L13, L8, L9, L11, L12, hLF⟩ := logicF_of HPA.out HPB.out n HTP.out HTQ.out
    have HLF := Lib.hid hLF
    have n1 := hLF.n1; have n2 := hLF.n2; have n3 := hLF.n3; have m1 := hLF.m1; have m2 := hLF.m2; have m3 := hLF.m3; have m4 := hLF.m4
    clear hLF
    have hnx : (sortP ps).length = ps.length := sortP_len ps
    go_wp2_with fail
    (with_reducible refine (logic_v 14 HLF.out.r14 (HS2.out.at (List.mem_cons_self)) (HS2.out.at (List.mem_cons_of_mem _ (List.mem_cons_self))) (by omega) HFA.out HFB.out).mono ?_); rintro e wv3 ⟨va, rfl, hv, hb⟩
    have HS3 := Lib.hid (HS2.out.add hv hb)
    clear hv hb HS2
    go_wp2_with fail
    (with_reducible refine (logic_v 16 HLF.out.r16 (HS3.out.at (List.mem_cons_of_mem _ (List.mem_cons_self))) (HS3.out.at (List.mem_cons_of_mem _ (List.mem_cons_of_mem _ (List.mem_cons_self)))) (by omega) HFA.out HFB.out).mono ?_); rintro e wv4 ⟨vu, rfl, hv, hb⟩
    have HS4 := Lib.hid (HS3.out.add hv hb)
    clear hv hb HS3
    go_wp2_with fail
    (with_reducible refine (logic_v 15 HLF.out.r15 (HS4.out.at (List.mem_cons_of_mem _ (List.mem_cons_of_mem _ (List.mem_cons_self)))) (HS4.out.at (List.mem_cons_of_mem _ (List.mem_cons_of_mem _ (List.mem_cons_of_mem _ (List.mem_cons_self))))) (by omega) HFA.out HFB.out).mono ?_); rintro e wv5 ⟨vo, rfl, hv, hb⟩
    have HS5 := Lib.hid (HS4.out.add hv hb)
    clear hv hb HS4
    go_wp2_with fail
    (with_reducible refine (logic_v 16 HLF.out.rb (HS5.out.at (List.mem_cons_of_mem _ (List.mem_cons_of_mem _ (List.mem_cons_of_mem _ (List.mem_cons_of_mem _ (List.mem_cons_self)))))) (HS5.out.at (List.mem_cons_of_mem _ (List.mem_cons_of_mem _ (List.mem_cons_of_mem _ (List.mem_cons_self))))) (by omega) HFB.out HFA.out).mono ?_); rintro e wv6 ⟨vb, rfl, hv, hb⟩
    have HS6 := Lib.hid (HS5.out.add hv hb)
    clear hv hb HS5
    go_wp2_with fail
    (with_reducible refine (logic_v 14 HLF.out.rs (HS6.out.at (List.mem_cons_of_mem _ (List.mem_cons_of_mem _ (List.mem_cons_of_mem _ (List.mem_cons_of_mem _ (List.mem_cons_self)))))) (HS6.out.at (List.mem_cons_of_mem _ (List.mem_cons_of_mem _ (List.mem_cons_of_mem _ (List.mem_cons_of_mem _ (List.mem_cons_self)))))) (by omega) HFA.out HFA.out).mono ?_); rintro e wv7 ⟨vs_, rfl, hv, hb⟩
    have HS7 := Lib.hid (HS6.out.add hv hb)
    clear hv hb HS6
    go_wp2_with fail
    (with_reducible refine (sort_v (HS7.out.at (List.mem_cons_of_mem _ (List.mem_cons_of_mem _ (List.mem_cons_of_mem _ (List.mem_cons_of_mem _ (List.mem_cons_of_mem _ (List.mem_cons_self))))))) (by omega) HFA.out).mono ?_); rintro e wv8 ⟨sx, rfl, hv, hb⟩
    have HS8 := Lib.hid (HS7.out.add hv hb)
    clear hv hb HS7
    go_wp2_with fail
    (with_reducible refine (points_v (HS8.out.at (List.mem_cons_of_mem _ (List.mem_cons_self))) (HS8.out.at (List.mem_cons_self))).mono ?_); rintro e wv9 ⟨rfl, hb⟩
    have HS9 := Lib.hid (HS8.out.below hb)
    clear hb HS8
    rw [decide_eq_true rfl]
    go_wp2_with fail
    (with_reducible refine (twice_v (HS9.out.at (List.mem_cons_of_mem _ (List.mem_cons_of_mem _ (List.mem_cons_of_mem _ (List.mem_cons_self))))) (by omega) HLF.out.fo).mono ?_); rintro e wv10 ⟨rfl, hb⟩
    have HS10 := Lib.hid (HS9.out.below hb)
    clear hb HS9
    rw [HLF.out.tw]
    have HE := Lib.hid (vo_empty wv10)
    have HBE := Lib.hid ((Below.refl wv10.heap.size wv10).alloc (Nat.le_refl _) (.cells #[] 28))
    go_wp2_with (at_builtin; refine app_vv (by first | rfl | (simp [Region.wanted, yielded]; done)) (.tmp 117) (.tmp 118) rfl rfl HE.out rfl ((HS10.out.at (List.mem_cons_of_mem _ (List.mem_cons_of_mem _ (List.mem_cons_of_mem _ (List.mem_cons_of_mem _ (List.mem_cons_of_mem _ (List.mem_cons_self))))))).below HBE.out) (by simp; omega) (by have := HBE.out.size; omega) ?_)
    intro jau0 wv11 ho hb
    have HVjau0 := Lib.hid (show VO wv10.heap.size (La) jau0 wv11 from ho); have HBjau0 := Lib.hid (HBE.out.trans hb)
    clear ho hb HE HBE
    have HBE := HBjau0; clear HBjau0
    go_wp2_with (at_builtin; refine app_vv (by first | rfl | (simp [Region.wanted, yielded]; done)) (.tmp 119) (.tmp 120) rfl rfl HVjau0.out rfl ((HS10.out.at (List.mem_cons_of_mem _ (List.mem_cons_of_mem _ (List.mem_cons_of_mem _ (List.mem_cons_of_mem _ (List.mem_cons_self)))))).below HBE.out) (by omega) (by have := HBE.out.size; omega) ?_)
    intro jau1 wv12 ho hb
    have HVjau1 := Lib.hid (show VO wv10.heap.size ((La ++ Lu)) jau1 wv12 from ho); have HBjau1 := Lib.hid (HBE.out.trans hb)
    clear ho hb HBE HVjau0
    have HBE := HBjau1; clear HBjau1
    have HS11 := Lib.hid (HS10.out.add HVjau1.out.vat (HBE.out))
    clear HS10 HVjau1 HBE
    have HAU := Lib.hid HLF.out.au
    have hjl : (La ++ Lu).length ≤ 19 := by rw [List.length_append]; omega
    have HFJ : Hid (Fine (La ++ Lu)) := Lib.hid (HLF.out.fa.app HLF.out.fu)
    go_wp2_with fail
    (with_reducible refine (sort_v (HS11.out.at (List.mem_cons_self)) hjl HFJ.out).mono ?_); rintro e wv13 ⟨sau, rfl, hv, hb⟩
    have HS12 := Lib.hid (HS11.out.add hv hb)
    clear hv hb HS11
    go_wp2_with fail
    (with_reducible refine (sort_v (HS12.out.at (List.mem_cons_of_mem _ (List.mem_cons_of_mem _ (List.mem_cons_of_mem _ (List.mem_cons_of_mem _ (List.mem_cons_of_mem _ (List.mem_cons_of_mem _ (List.mem_cons_of_mem _ (List.mem_cons_of_mem _ (List.mem_cons_self)))))))))) (by omega) HFA.out).mono ?_); rintro e wv14 ⟨sx2, rfl, hv, hb⟩
    have HS13 := Lib.hid (HS12.out.add hv hb)
    clear hv hb HS12
    go_wp2_with fail
    (with_reducible refine (points_v (HS13.out.at (List.mem_cons_of_mem _ (List.mem_cons_self))) (HS13.out.at (List.mem_cons_self))).mono ?_); rintro e wv15 ⟨rfl, hb⟩
    have HS14 := Lib.hid (HS13.out.below hb)
    clear hb HS13
    rw [HAU.out, decide_eq_true rfl]
    have HE := Lib.hid (vo_empty wv15)
    have HBE := Lib.hid ((Below.refl wv15.heap.size wv15).alloc (Nat.le_refl _) (.cells #[] 28))
    go_wp2_with (at_builtin; refine app_vv (by first | rfl | (simp [Region.wanted, yielded]; done)) (.tmp 128) (.tmp 129) rfl rfl HE.out rfl ((HS14.out.at (List.mem_cons_of_mem _ (List.mem_cons_of_mem _ (List.mem_cons_of_mem _ (List.mem_cons_of_mem _ (List.mem_cons_of_mem _ (List.mem_cons_of_mem _ (List.mem_cons_of_mem _ (List.mem_cons_of_mem _ (List.mem_cons_of_mem _ (List.mem_cons_self))))))))))).below HBE.out) (by simp; omega) (by have := HBE.out.size; omega) ?_)
    intro jxb0 wv16 ho hb
    have HVjxb0 := Lib.hid (show VO wv15.heap.size (ps) jxb0 wv16 from ho); have HBjxb0 := Lib.hid (HBE.out.trans hb)
    clear ho hb HE HBE
    have HBE := HBjxb0; clear HBjxb0
    go_wp2_with (at_builtin; refine app_vv (by first | rfl | (simp [Region.wanted, yielded]; done)) (.tmp 130) (.tmp 131) rfl rfl HVjxb0.out rfl ((HS14.out.at (List.mem_cons_of_mem _ (List.mem_cons_of_mem _ (List.mem_cons_of_mem _ (List.mem_cons_of_mem _ (List.mem_cons_of_mem _ (List.mem_cons_self))))))).below HBE.out) (by omega) (by have := HBE.out.size; omega) ?_)
    intro jxb1 wv17 ho hb
    have HVjxb1 := Lib.hid (show VO wv15.heap.size ((ps ++ Lb)) jxb1 wv17 from ho); have HBjxb1 := Lib.hid (HBE.out.trans hb)
    clear ho hb HBE HVjxb0
    have HBE := HBjxb1; clear HBjxb1
    have HS15 := Lib.hid (HS14.out.add HVjxb1.out.vat (HBE.out))
    clear HS14 HVjxb1 HBE
    have hjx : (ps ++ Lb).length ≤ 19 := by rw [List.length_append]; omega
    have HFX : Hid (Fine (ps ++ Lb)) := Lib.hid (HFA.out.app HLF.out.fb)
    go_wp2_with fail
    (with_reducible refine (sort_v (HS15.out.at (List.mem_cons_self)) hjx HFX.out).mono ?_); rintro e wv18 ⟨sxb, rfl, hv, hb⟩
    have HS16 := Lib.hid (HS15.out.add hv hb)
    clear hv hb HS15
    go_wp2_with fail
    (with_reducible refine (points_v (HS16.out.at (List.mem_cons_self)) (HS16.out.at (List.mem_cons_of_mem _ (List.mem_cons_of_mem _ (List.mem_cons_of_mem _ (List.mem_cons_of_mem _ (List.mem_cons_of_mem _ (List.mem_cons_of_mem _ (List.mem_cons_of_mem _ (List.mem_cons_of_mem _ (List.mem_cons_self))))))))))).mono ?_); rintro e wv19 ⟨rfl, hb⟩
    have HS17 := Lib.hid (HS16.out.below hb)
    clear hb HS16
    rw [HLF.out.xb, decide_eq_true rfl]
    have e10 := HLF.out.a10; have e13 := HLF.out.a13; have e8 := HLF.out.a8; have e9 := HLF.out.a9; have e11 := HLF.out.a11; have e12 := HLF.out.a12
    have H10 := Lib.hid e10; have H13 := Lib.hid e13; have H8 := Lib.hid e8; have H9 := Lib.hid e9; have H11 := Lib.hid e11; have H12 := Lib.hid e12
    clear e10 e13 e8 e9 e11 e12
    go_wp2_with fail
    (with_reducible refine ((show Calls _ _ _ _ (VAns L10 _) from H10.out ▸ above_v 10 n (HS17.out.at (List.mem_cons_of_mem _ (List.mem_cons_of_mem _ (List.mem_cons_of_mem _ (List.mem_cons_of_mem _ (List.mem_cons_of_mem _ (List.mem_cons_of_mem _ (List.mem_cons_of_mem _ (List.mem_cons_of_mem _ (List.mem_cons_of_mem _ (List.mem_cons_of_mem _ (List.mem_cons_of_mem _ (List.mem_cons_self))))))))))))) (by omega) HFA.out)).mono ?_); rintro e wv20 ⟨l10, rfl, hv, hb⟩
    have HS18 := Lib.hid (HS17.out.add hv hb)
    clear hv hb HS17
    obtain ⟨Al10, cl10, rl10, rfl, hll10, hql10⟩ := (HS18.out.at (List.mem_cons_self))
    have hnl10 : Hid (rl10.length = (L10).length) := Lib.hid (by rw [← ptsOf_len, hll10])
    clear hll10 hql10
    generalize rl10.length = nl10 at *
    go_wp2_with fail
    (with_reducible refine ((show Calls _ _ _ _ (VAns L13 _) from H13.out ▸ above_v 13 n (HS18.out.at (List.mem_cons_of_mem _ (List.mem_cons_of_mem _ (List.mem_cons_of_mem _ (List.mem_cons_of_mem _ (List.mem_cons_of_mem _ (List.mem_cons_of_mem _ (List.mem_cons_of_mem _ (List.mem_cons_of_mem _ (List.mem_cons_of_mem _ (List.mem_cons_of_mem _ (List.mem_cons_of_mem _ (List.mem_cons_of_mem _ (List.mem_cons_self)))))))))))))) (by omega) HFA.out)).mono ?_); rintro e wv21 ⟨l13, rfl, hv, hb⟩
    have HS19 := Lib.hid (HS18.out.add hv hb)
    clear hv hb HS18
    obtain ⟨Al13, cl13, rl13, rfl, hll13, hql13⟩ := (HS19.out.at (List.mem_cons_self))
    have hnl13 : Hid (rl13.length = (L13).length) := Lib.hid (by rw [← ptsOf_len, hll13])
    clear hll13 hql13
    generalize rl13.length = nl13 at *
    go_wp2_with fail
    (with_reducible refine ((show Calls _ _ _ _ (VAns L8 _) from H8.out ▸ above_v 8 n (HS19.out.at (List.mem_cons_of_mem _ (List.mem_cons_of_mem _ (List.mem_cons_of_mem _ (List.mem_cons_of_mem _ (List.mem_cons_of_mem _ (List.mem_cons_of_mem _ (List.mem_cons_of_mem _ (List.mem_cons_of_mem _ (List.mem_cons_of_mem _ (List.mem_cons_of_mem _ (List.mem_cons_of_mem _ (List.mem_cons_of_mem _ (List.mem_cons_of_mem _ (List.mem_cons_self))))))))))))))) (by omega) HFA.out)).mono ?_); rintro e wv22 ⟨l8, rfl, hv, hb⟩
    have HS20 := Lib.hid (HS19.out.add hv hb)
    clear hv hb HS19
    obtain ⟨Al8, cl8, rl8, rfl, hll8, hql8⟩ := (HS20.out.at (List.mem_cons_self))
    have hnl8 : Hid (rl8.length = (L8).length) := Lib.hid (by rw [← ptsOf_len, hll8])
    clear hll8 hql8
    generalize rl8.length = nl8 at *
    go_wp2_with fail
    (with_reducible refine ((show Calls _ _ _ _ (VAns L9 _) from H9.out ▸ above_v 9 n (HS20.out.at (List.mem_cons_of_mem _ (List.mem_cons_of_mem _ (List.mem_cons_of_mem _ (List.mem_cons_of_mem _ (List.mem_cons_of_mem _ (List.mem_cons_of_mem _ (List.mem_cons_of_mem _ (List.mem_cons_of_mem _ (List.mem_cons_of_mem _ (List.mem_cons_of_mem _ (List.mem_cons_of_mem _ (List.mem_cons_of_mem _ (List.mem_cons_of_mem _ (List.mem_cons_of_mem _ (List.mem_cons_self)))))))))))))))) (by omega) HFA.out)).mono ?_); rintro e wv23 ⟨l9, rfl, hv, hb⟩
    have HS21 := Lib.hid (HS20.out.add hv hb)
    clear hv hb HS20
    have HE := Lib.hid (vo_empty wv23)
    have HBE := Lib.hid ((Below.refl wv23.heap.size wv23).alloc (Nat.le_refl _) (.cells #[] 28))
    go_wp2_with (at_builtin; refine app_vv (by first | rfl | (simp [Region.wanted, yielded]; done)) (.tmp 150) (.tmp 151) rfl rfl HE.out rfl ((HS21.out.at (List.mem_cons_of_mem _ (List.mem_cons_of_mem _ (List.mem_cons_of_mem _ (List.mem_cons_self))))).below HBE.out) (by simp; omega) (by have := HBE.out.size; omega) ?_)
    intro jlg0 wv24 ho hb
    have HVjlg0 := Lib.hid (show VO wv23.heap.size (L10) jlg0 wv24 from ho); have HBjlg0 := Lib.hid (HBE.out.trans hb)
    clear ho hb HE HBE
    have HBE := HBjlg0; clear HBjlg0
    go_wp2_with (at_builtin; refine app_vv (by first | rfl | (simp [Region.wanted, yielded]; done)) (.tmp 152) (.tmp 153) rfl rfl HVjlg0.out rfl ((HS21.out.at (List.mem_cons_of_mem _ (List.mem_cons_of_mem _ (List.mem_cons_self)))).below HBE.out) (by omega) (by have := HBE.out.size; omega) ?_)
    intro jlg1 wv25 ho hb
    have HVjlg1 := Lib.hid (show VO wv23.heap.size ((L10 ++ L13)) jlg1 wv25 from ho); have HBjlg1 := Lib.hid (HBE.out.trans hb)
    clear ho hb HBE HVjlg0
    have HBE := HBjlg1; clear HBjlg1
    have HS22 := Lib.hid (HS21.out.add HVjlg1.out.vat (HBE.out))
    clear HS21 HVjlg1 HBE
    have hjjlg : (L10 ++ L13).length ≤ 19 := by rw [List.length_append]; omega
    go_wp2_with fail
    (with_reducible refine (sort_v (HS22.out.at (List.mem_cons_self)) hjjlg HLF.out.f10).mono ?_); rintro e wv26 ⟨sjlg, rfl, hv, hb⟩
    have HS23 := Lib.hid (HS22.out.add hv hb)
    clear hv hb HS22
    go_wp2_with fail
    (with_reducible refine (sort_v (HS23.out.at (List.mem_cons_of_mem _ (List.mem_cons_of_mem _ (List.mem_cons_of_mem _ (List.mem_cons_of_mem _ (List.mem_cons_of_mem _ (List.mem_cons_of_mem _ (List.mem_cons_of_mem _ (List.mem_cons_of_mem _ (List.mem_cons_of_mem _ (List.mem_cons_of_mem _ (List.mem_cons_of_mem _ (List.mem_cons_of_mem _ (List.mem_cons_of_mem _ (List.mem_cons_of_mem _ (List.mem_cons_of_mem _ (List.mem_cons_of_mem _ (List.mem_cons_of_mem _ (List.mem_cons_self))))))))))))))))))) (by omega) HFA.out).mono ?_); rintro e wv27 ⟨sxjlg, rfl, hv, hb⟩
    have HS24 := Lib.hid (HS23.out.add hv hb)
    clear hv hb HS23
    go_wp2_with fail
    (with_reducible refine (points_v (HS24.out.at (List.mem_cons_of_mem _ (List.mem_cons_self))) (HS24.out.at (List.mem_cons_self))).mono ?_); rintro e wv28 ⟨rfl, hb⟩
    have HS25 := Lib.hid (HS24.out.below hb)
    clear hb HS24
    rw [HLF.out.lg, decide_eq_true rfl]
    have HE := Lib.hid (vo_empty wv28)
    have HBE := Lib.hid ((Below.refl wv28.heap.size wv28).alloc (Nat.le_refl _) (.cells #[] 28))
    go_wp2_with (at_builtin; refine app_vv (by first | rfl | (simp [Region.wanted, yielded]; done)) (.tmp 160) (.tmp 161) rfl rfl HE.out rfl ((HS25.out.at (List.mem_cons_of_mem _ (List.mem_cons_of_mem _ (List.mem_cons_of_mem _ (List.mem_cons_of_mem _ (List.mem_cons_self)))))).below HBE.out) (by simp; omega) (by have := HBE.out.size; omega) ?_)
    intro jen0 wv29 ho hb
    have HVjen0 := Lib.hid (show VO wv28.heap.size (L8) jen0 wv29 from ho); have HBjen0 := Lib.hid (HBE.out.trans hb)
    clear ho hb HE HBE
    have HBE := HBjen0; clear HBjen0
    go_wp2_with (at_builtin; refine app_vv (by first | rfl | (simp [Region.wanted, yielded]; done)) (.tmp 162) (.tmp 163) rfl rfl HVjen0.out rfl ((HS25.out.at (List.mem_cons_of_mem _ (List.mem_cons_of_mem _ (List.mem_cons_of_mem _ (List.mem_cons_self))))).below HBE.out) (by omega) (by have := HBE.out.size; omega) ?_)
    intro jen1 wv30 ho hb
    have HVjen1 := Lib.hid (show VO wv28.heap.size ((L8 ++ L9)) jen1 wv30 from ho); have HBjen1 := Lib.hid (HBE.out.trans hb)
    clear ho hb HBE HVjen0
    have HBE := HBjen1; clear HBjen1
    have HS26 := Lib.hid (HS25.out.add HVjen1.out.vat (HBE.out))
    clear HS25 HVjen1 HBE
    have hjjen : (L8 ++ L9).length ≤ 19 := by rw [List.length_append]; omega
    go_wp2_with fail
    (with_reducible refine (sort_v (HS26.out.at (List.mem_cons_self)) hjjen HLF.out.f8).mono ?_); rintro e wv31 ⟨sjen, rfl, hv, hb⟩
    have HS27 := Lib.hid (HS26.out.add hv hb)
    clear hv hb HS26
    go_wp2_with fail
    (with_reducible refine (sort_v (HS27.out.at (List.mem_cons_of_mem _ (List.mem_cons_of_mem _ (List.mem_cons_of_mem _ (List.mem_cons_of_mem _ (List.mem_cons_of_mem _ (List.mem_cons_of_mem _ (List.mem_cons_of_mem _ (List.mem_cons_of_mem _ (List.mem_cons_of_mem _ (List.mem_cons_of_mem _ (List.mem_cons_of_mem _ (List.mem_cons_of_mem _ (List.mem_cons_of_mem _ (List.mem_cons_of_mem _ (List.mem_cons_of_mem _ (List.mem_cons_of_mem _ (List.mem_cons_of_mem _ (List.mem_cons_of_mem _ (List.mem_cons_of_mem _ (List.mem_cons_of_mem _ (List.mem_cons_self)))))))))))))))))))))) (by omega) HFA.out).mono ?_); rintro e wv32 ⟨sxjen, rfl, hv, hb⟩
    have HS28 := Lib.hid (HS27.out.add hv hb)
    clear hv hb HS27
    go_wp2_with fail
    (with_reducible refine (points_v (HS28.out.at (List.mem_cons_of_mem _ (List.mem_cons_self))) (HS28.out.at (List.mem_cons_self))).mono ?_); rintro e wv33 ⟨rfl, hb⟩
    have HS29 := Lib.hid (HS28.out.below hb)
    clear hb HS28
    rw [HLF.out.en, decide_eq_true rfl]
    go_wp2_with fail
    (with_reducible refine ((show Calls _ _ _ _ (VAns L11 _) from H11.out ▸ above_v 11 n (HS29.out.at (List.mem_cons_of_mem _ (List.mem_cons_of_mem _ (List.mem_cons_of_mem _ (List.mem_cons_of_mem _ (List.mem_cons_of_mem _ (List.mem_cons_of_mem _ (List.mem_cons_of_mem _ (List.mem_cons_of_mem _ (List.mem_cons_of_mem _ (List.mem_cons_of_mem _ (List.mem_cons_of_mem _ (List.mem_cons_of_mem _ (List.mem_cons_of_mem _ (List.mem_cons_of_mem _ (List.mem_cons_of_mem _ (List.mem_cons_of_mem _ (List.mem_cons_of_mem _ (List.mem_cons_of_mem _ (List.mem_cons_of_mem _ (List.mem_cons_of_mem _ (List.mem_cons_of_mem _ (List.mem_cons_self))))))))))))))))))))))) (by omega) HFA.out)).mono ?_); rintro e wv34 ⟨l11, rfl, hv, hb⟩
    have HS30 := Lib.hid (HS29.out.add hv hb)
    clear hv hb HS29
    obtain ⟨Al11, cl11, rl11, rfl, hll11, hql11⟩ := (HS30.out.at (List.mem_cons_self))
    have hnl11 : Hid (rl11.length = (L11).length) := Lib.hid (by rw [← ptsOf_len, hll11])
    clear hll11 hql11
    generalize rl11.length = nl11 at *
    have hw1 : IntKind.i64.wrap ((nl10 : Int) + (nl8 : Int)) = (nl11 : Int) := by rw [IntKind.wrap_i64]; have := hnl10.out; have := hnl8.out; have := hnl11.out; omega
    go_wp2_with fail
    (with_reducible refine ((show Calls _ _ _ _ (VAns L12 _) from H12.out ▸ above_v 12 n (HS30.out.at (List.mem_cons_of_mem _ (List.mem_cons_of_mem _ (List.mem_cons_of_mem _ (List.mem_cons_of_mem _ (List.mem_cons_of_mem _ (List.mem_cons_of_mem _ (List.mem_cons_of_mem _ (List.mem_cons_of_mem _ (List.mem_cons_of_mem _ (List.mem_cons_of_mem _ (List.mem_cons_of_mem _ (List.mem_cons_of_mem _ (List.mem_cons_of_mem _ (List.mem_cons_of_mem _ (List.mem_cons_of_mem _ (List.mem_cons_of_mem _ (List.mem_cons_of_mem _ (List.mem_cons_of_mem _ (List.mem_cons_of_mem _ (List.mem_cons_of_mem _ (List.mem_cons_of_mem _ (List.mem_cons_of_mem _ (List.mem_cons_self)))))))))))))))))))))))) (by omega) HFA.out)).mono ?_); rintro e wv35 ⟨l12, rfl, hv, hb⟩
    have HS31 := Lib.hid (HS30.out.add hv hb)
    clear hv hb HS30
    obtain ⟨Al12, cl12, rl12, rfl, hll12, hql12⟩ := (HS31.out.at (List.mem_cons_self))
    have hnl12 : Hid (rl12.length = (L12).length) := Lib.hid (by rw [← ptsOf_len, hll12])
    clear hll12 hql12
    generalize rl12.length = nl12 at *
    have hw2 : IntKind.i64.wrap ((nl13 : Int) - (nl8 : Int)) = (nl12 : Int) := by rw [IntKind.wrap_i64]; have := hnl13.out; have := hnl8.out; have := hnl12.out; omega
    go_wp2_with fail
    (with_reducible refine (HRN.out wv35).mono ?_); rintro e wv36 ⟨rfl, hb⟩
    have HS32 := Lib.hid (HS31.out.below hb)
    clear hb HS31
    go_wp2_with fail
    go_ret
    exact ⟨rfl, HS32.out.bel⟩
end Go.Proofs.Ytbndmmfpoljeaaa
