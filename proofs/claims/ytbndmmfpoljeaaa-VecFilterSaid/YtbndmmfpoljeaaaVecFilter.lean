/- VecFilter. -/
import Derived.Test.YtbndmmfpoljeaaaVecStart
namespace Go.Proofs.Ytbndmmfpoljeaaa
open Go.ChangeShapes Go.WideShapes Go.ChangeAt Go.RowKit
set_option linter.unusedVariables false
set_option linter.unusedSimpArgs false
set_option maxRecDepth 100000
/-- Does a point hold against its own of another vector. -/
def okF (k : Int) (qs : List Pt) (p : Pt) : Bool := match findP qs p with
  | none => false
  | some i => holdsF k p.2 (valP qs i)
theorem findP_mem (qs : List Pt) (p : Pt) : (findP qs p).isSome = decide (keyT p.1 ∈ keysP qs) := by
  have := place_mem (keysP qs) (keyT p.1)
  rwa [show (keysP qs).length = qs.length by simp [keysP]] at this
theorem filter_outF (k : Int) (qs ps : List Pt) : outF (filterF k qs) ps = ps.filter (okF k qs) ∧ errF (filterF k qs) ps = 0 := by
  induction ps with
  | nil => exact ⟨rfl, rfl⟩
  | cons p ps ih =>
    obtain ⟨h1, h2⟩ := ih
    have e : filterF k qs p = if okF k qs p = true then some (p.1, (p.2, 0)) else none := by
      unfold filterF okF
      cases findP qs p with
      | none => rfl
      | some i => rfl
    refine ⟨?_, ?_⟩
    · unfold outF at h1 ⊢
      rw [List.filterMap_cons, e]
      by_cases h : okF k qs p = true
      · rw [if_pos h, List.filter_cons_of_pos h, ← h1]; rfl
      · rw [if_neg h, List.filter_cons_of_neg h, ← h1]; rfl
    · rw [errF_cons, e]
      by_cases h : okF k qs p = true
      · rw [if_pos h]; simp [h2]
      · rw [if_neg h]; exact h2
theorem filterR_eq {ps qs : List Pt} (k : Int) (h : twiceF (keysP ps) = false) (h2 : twiceF (keysP qs) = false) : filterR k ps qs = (sortP (ps.filter (okF k qs)), 0) := by
  obtain ⟨e1, e2⟩ := filter_outF k qs ps
  unfold filterR resF
  rw [h, h2, e2, e1]; rfl
structure FilterF (ps qs : List Pt) (ky kn : Int) (Ly Ln La : List Pt) : Prop where
  ry : filterR ky ps qs = (Ly, 0)
  rn : filterR kn ps qs = (Ln, 0)
  ra : logicR 14 ps qs = (La, 0)
  rg : filterR ky Ly qs = (Ly, 0)
  yn : sortP (Ly ++ Ln) = La
  n1 : Ly.length + Ln.length = La.length
  n2 : La.length ≤ ps.length
  fy : Fine Ly
  fn : Fine Ln
theorem filterF_of {ps qs : List Pt} (hp : VecOk ps) (ky : Int) (hk : ky = 8 ∨ ky = 10 ∨ ky = 11) (h : twiceF (keysP ps) = false) (h2 : twiceF (keysP qs) = false) : ∃ Ly Ln La, FilterF ps qs ky (if ky = 8 then 9 else if ky = 10 then 13 else 12) Ly Ln La := by
  have hn := (twice_iff _).1 h
  have ea : amongF (keysP qs) true ps = ps.filter fun p => decide (keyT p.1 ∈ keysP qs) := by rw [among_filter]; exact List.filter_congr fun p _ => by simp
  generalize hkn : (if ky = 8 then (9 : Int) else if ky = 10 then 13 else 12) = kn
  have hopp : ∀ p, okF kn qs p = (decide (keyT p.1 ∈ keysP qs) && !okF ky qs p) := fun p => by
    rw [← findP_mem]
    unfold okF
    cases findP qs p with
    | none => rfl
    | some i => show holdsF kn p.2 (valP qs i) = _; rw [← hkn, holds_opp ky _ _ hk]; rfl
  have hyes : ∀ p, okF ky qs p = (decide (keyT p.1 ∈ keysP qs) && okF ky qs p) := fun p => by
    rw [← findP_mem]
    unfold okF
    cases findP qs p with
    | none => rfl
    | some i => rfl
  have ey : ps.filter (okF ky qs) = (amongF (keysP qs) true ps).filter (okF ky qs) := by
    rw [ea, List.filter_filter]
    exact List.filter_congr fun p _ => by rw [Bool.and_comm]; exact hyes p
  have en : ps.filter (okF kn qs) = (amongF (keysP qs) true ps).filter fun p => !okF ky qs p := by
    rw [ea, List.filter_filter]
    exact List.filter_congr fun p _ => by rw [hopp p, Bool.and_comm]
  have hia : TxtInj (amongF (keysP qs) true ps) := hp.inj.sub fun p hp => among_mem hp
  have hfa : Fine (amongF (keysP qs) true ps) := hp.fine.sub fun p hp => among_mem hp
  have htw : twiceF (keysP (sortP (ps.filter (okF ky qs)))) = false := by
    rw [twice_perm (keysP_sort _), twice_iff]; exact keysP_filter_nodup hn _
  refine ⟨sortP (ps.filter (okF ky qs)), sortP (ps.filter (okF kn qs)), sortP (amongF (keysP qs) true ps), filterR_eq ky h h2, filterR_eq kn h h2, ?_, ?_, ?_, ?_, ?_, ?_, ?_⟩
  · unfold logicR; rw [h, h2]; rfl
  · rw [filterR_eq ky htw h2]
    have e : (sortP (ps.filter (okF ky qs))).filter (okF ky qs) = sortP (ps.filter (okF ky qs)) := List.filter_eq_self.2 fun p hp => (List.mem_filter.1 (sortP_mem.1 hp)).2
    rw [e, sortP_twice]
  · rw [ey, en]; exact sort_parts hia _
  · rw [sortP_len, sortP_len, sortP_len, ey, en]; exact parts_len _ _
  · rw [sortP_len]; exact among_len _ _ _
  · rw [ey]; exact (hfa.sub fun p hp => (List.mem_filter.1 hp).1).sort
  · rw [en]; exact (hfa.sub fun p hp => (List.mem_filter.1 hp).1).sort
set_option maxHeartbeats 8000000 in
theorem vec_filter (ka kb : KVec) (k : Int) (wk : I64 k) (w0 : World) (ha : ka.ok w0.heap.size w0) (hb : kb.ok w0.heap.size w0) :
    Calls Try.prog 8 #[ka.val, kb.val, .int .i64 k] w0 fun e w' => e = .returned (.bool true) ∧ Below w0.heap.size w0 w' := by
  have HRN := Lib.hid vec_runs
  have HT0 := Lib.hid (TwoV.start ha hb)
  have hpA := vecF_ok ka
  have hpB := vecF_ok kb
  have HPA := Lib.hid hpA; have HPB := Lib.hid hpB
  have hla := hpA.len
  have hlb := hpB.len
  obtain ⟨b3, hb3⟩ : ∃ q, w0.heap.size = q := ⟨_, rfl⟩
  obtain ⟨b4, hb4⟩ : ∃ q, w0.heap.size + 1 = q := ⟨_, rfl⟩
  obtain ⟨W0, hW0⟩ : ∃ V, (w0.alloc (.cells #[.slice ka.A ka.qs.length ka.c, .slice ka.A2 ka.n2 ka.c2] 37)).alloc (.cells #[.slice kb.A kb.qs.length kb.c, .slice kb.A2 kb.n2 kb.c2] 37) = V := ⟨_, rfl⟩
  have HT := Lib.hid (show TwoV w0 ka kb b3 b4 W0 by have h := HT0.out; rw [hW0, hb4, hb3] at h; exact h)
  have HEQ := Lib.hid (And.intro hb3 (And.intro hb4 hW0))
  clear ha hb HT0 hb3 hb4 hW0 hpA hpB
  unfold KVec.val
  go_enter Try.func8, Try.ntmps8
  go_upto_region 1 with fail
  rw [HEQ.out.2.2, HEQ.out.2.1, HEQ.out.1]
  clear HEQ
  refine wp_region_facts (R := fun a b => Below a.heap.size a b) (G := (fun W => TwoV w0 ka kb b3 b4 W)) (V := fun i' u' W => match i' with | 0 => u' = .agg #[.slice ka.A ka.qs.length ka.c, .slice ka.A2 ka.n2 ka.c2] | 1 => VAt (vecF ka) u' W | 2 => u' = .agg #[.slice kb.A kb.qs.length kb.c, .slice kb.A2 kb.n2 kb.c2] | 3 => VAt (vecF kb) u' W | 4 => VAt (vecF ka) u' W | 5 => VAt (vecF kb) u' W | _ => True) (by kernel_rfl) (fun w => Below.refl _ _) (fun a b c h1 h2 => h1.trans (h2.mono h1.size)) (by kernel_rfl) (by kernel_rfl) ?hG ⟨?o0, ?o1, ?o2, ?o3, ?o4, ?o5, trivial⟩ ?hend
  case o0 =>
    intro a w hfr hG hd
    refine ⟨fun hw => ?_, fun hw => absurd hw (by simp [Region.wanted])⟩
    have s3 : a.tmps.getD 3 undef = .pointer (some ⟨b3, 0, none⟩) := hfr.at 3 (by kernel_rfl)
    have z0 := hG.now.x3.cell 0; have z1 := hG.now.x3.cell 1; simp only [List.getElem?_cons_zero, List.getElem?_cons_succ] at z0 z1
    refine op_yields (.agg #[.slice ka.A ka.qs.length ka.c, .slice ka.A2 ka.n2 ka.c2]) ?_ ?_ ?_
    · simp only [execOp, resolve, List.map_toArray, List.map_cons, List.map_nil, Act.eval, s3]; simp [go_sem, -Array.getD_eq_getD_getElem?, s3, z0, z1]
    · exact Below.refl _ _
    · exact (fun _ _ => rfl)
  case o1 =>
    intro a w hfr hG hd
    obtain ⟨d0, _⟩ := hd
    refine ⟨fun hw => ?_, fun hw => absurd hw (by simp [Region.wanted])⟩
    have s20 : a.tmps.getD 20 undef = .agg #[.slice ka.A ka.qs.length ka.c, .slice ka.A2 ka.n2 ka.c2] := (d0 rfl).now
    refine op_calls2 ((vec_v hG.now.oka hG.now.bel.size).mono fun e' w' hh => ?_) (by simp only [execOp, resolve, List.map_toArray, List.map_cons, List.map_nil, Act.eval, s20]; simp [go_sem, -Array.getD_eq_getD_getElem?, s20]); obtain ⟨v, h1, h2, h3⟩ := hh; exact ⟨v, h1, h3, fun W' hW' => h2.below hW'⟩
  case o2 =>
    intro a w hfr hG hd
    refine ⟨fun hw => ?_, fun hw => absurd hw (by simp [Region.wanted])⟩
    have s4 : a.tmps.getD 4 undef = .pointer (some ⟨b4, 0, none⟩) := hfr.at 4 (by kernel_rfl)
    have z0 := hG.now.x4.cell 0; have z1 := hG.now.x4.cell 1; simp only [List.getElem?_cons_zero, List.getElem?_cons_succ] at z0 z1
    refine op_yields (.agg #[.slice kb.A kb.qs.length kb.c, .slice kb.A2 kb.n2 kb.c2]) ?_ ?_ ?_
    · simp only [execOp, resolve, List.map_toArray, List.map_cons, List.map_nil, Act.eval, s4]; simp [go_sem, -Array.getD_eq_getD_getElem?, s4, z0, z1]
    · exact Below.refl _ _
    · exact (fun _ _ => rfl)
  case o3 =>
    intro a w hfr hG hd
    obtain ⟨d0, d1, _⟩ := hd
    refine ⟨fun hw => ?_, fun hw => absurd hw (by simp [Region.wanted])⟩
    have s22 : a.tmps.getD 22 undef = .agg #[.slice kb.A kb.qs.length kb.c, .slice kb.A2 kb.n2 kb.c2] := (d0 rfl).now
    refine op_calls2 ((vec_v hG.now.okb hG.now.bel.size).mono fun e' w' hh => ?_) (by simp only [execOp, resolve, List.map_toArray, List.map_cons, List.map_nil, Act.eval, s22]; simp [go_sem, -Array.getD_eq_getD_getElem?, s22]); obtain ⟨v, h1, h2, h3⟩ := hh; exact ⟨v, h1, h3, fun W' hW' => h2.below hW'⟩
  case o4 =>
    intro a w hfr hG hd
    obtain ⟨d0, d1, d2, d3, d4, d5, _⟩ := hd
    refine ⟨fun hw => ?_, fun hw => absurd hw (by simp [Region.wanted])⟩
    have p21 : Hold (fun a b => Below a.heap.size a b) (fun W => VAt (vecF ka) (a.tmps.getD 21 undef) W) w := d0 rfl
    refine op_yields (a.tmps.getD 21 undef) ?_ ?_ ?_
    · simp only [execOp, Act.eval]; rfl
    · exact Below.refl _ _
    · exact p21
  case o5 =>
    intro a w hfr hG hd
    obtain ⟨d0, d1, d2, d3, d4, d5, d6, _⟩ := hd
    refine ⟨fun hw => ?_, fun hw => absurd hw (by simp [Region.wanted])⟩
    have p23 : Hold (fun a b => Below a.heap.size a b) (fun W => VAt (vecF kb) (a.tmps.getD 23 undef) W) w := d0 rfl
    refine op_yields (a.tmps.getD 23 undef) ?_ ?_ ?_
    · simp only [execOp, Act.eval]; rfl
    · exact Below.refl _ _
    · exact p23
  case hG => exact fun w' hb => HT.out.below ((Below.refl _ _).drew.trans (hb.mono (by simp)))
  case hend =>
    intro vs w1 hG hv
    have key : VAt (vecF ka) (vs 4) w1 ∧ VAt (vecF kb) (vs 5) w1 := by
      obtain ⟨_, _, _, _, h4, h5, _⟩ := hv
      exact ⟨h4.now, h5.now⟩
    obtain ⟨hva, hvb⟩ := key
    have HS0 := Lib.hid (show VS w0 [(vs 4, vecF ka), (vs 5, vecF kb)] w1 from ⟨fun x hx => by
      simp only [List.mem_cons, List.not_mem_nil, or_false] at hx
      rcases hx with rfl | rfl
      · exact hva
      · exact hvb, hG.now.bel⟩)
    clear hva hvb hG hv HT
    simp only [putAll, Act.put]
    generalize vs 4 = x at *
    generalize vs 5 = y at *
    generalize vecF ka = ps at *
    generalize vecF kb = qs at *
    have HFA := Lib.hid HPA.out.fine; have HFB := Lib.hid HPB.out.fine
    go_simp
    go_wp2_with fail
    (with_reducible refine (twice_v (HS0.out.at (List.mem_cons_self)) (by omega) HFA.out).mono ?_); rintro e wv1 ⟨rfl, hb⟩
    have HS1 := Lib.hid (HS0.out.below hb)
    clear hb HS0
    obtain ⟨tp, htp⟩ : ∃ t, twiceF (keysP ps) = t := ⟨_, rfl⟩
    obtain ⟨tq, htq⟩ : ∃ t, twiceF (keysP qs) = t := ⟨_, rfl⟩
    have HTP := Lib.hid htp; have HTQ := Lib.hid htq
    rw [htp]
    clear htp htq
    cases tp with
    | true =>
      go_wp2_with fail
      (with_reducible refine (HRN.out wv1).mono ?_); rintro e wv2 ⟨rfl, hb⟩
      have HS2 := Lib.hid (HS1.out.below hb)
      clear hb HS1
      go_wp2_with fail
      go_ret
      exact ⟨rfl, HS2.out.bel⟩
    | false =>
    go_wp2_with fail
    (with_reducible refine (twice_v (HS1.out.at (List.mem_cons_of_mem _ (List.mem_cons_self))) (by omega) HFB.out).mono ?_); rintro e wv2 ⟨rfl, hb⟩
    have HS2 := Lib.hid (HS1.out.below hb)
    clear hb HS1
    rw [HTQ.out]
    cases tq with
    | true =>
      go_wp2_with fail
      (with_reducible refine (HRN.out wv2).mono ?_); rintro e wv3 ⟨rfl, hb⟩
      have HS3 := Lib.hid (HS2.out.below hb)
      clear hb HS2
      go_wp2_with fail
      go_ret
      exact ⟨rfl, HS3.out.bel⟩
    | false =>
    have HWI := Lib.hid (fun V => within_any k 0 2 V wk (by omega) (by omega) (by omega))
    obtain ⟨hk1, hk2⟩ := nWithin_in k (lo := 0) (hi := 2) (by omega)
    generalize nWithin k 0 2 = kj at *
    go_wp2_with fail
    (with_reducible refine (HWI.out _).mono ?_); rintro e wz ⟨rfl, rfl⟩
    clear HWI
    have hkj : kj = 0 ∨ kj = 1 ∨ kj = 2 := by omega
    clear hk1 hk2
    rcases hkj with rfl | rfl | rfl
    · obtain ⟨Ly, Ln, La, hFF⟩ := filterF_of (qs := qs) HPA.out 8 (by omega) HTP.out HTQ.out
      have HFF : Hid (FilterF ps qs 8 9 Ly Ln La) := Lib.hid hFF
      have n1 := hFF.n1; have n2 := hFF.n2
      clear hFF
      go_upto_region 5 with fail
      go_cut [10, 11] from 33 to 40 (fun x10 x11 wx => x10 = .int .i64 8 ∧ x11 = .int .i64 9 ∧ VS w0 [(x, ps), (y, qs)] wx)
      case first =>
        go_region
        all_goals
          first | (go_wp2_with fail; go_meet) | go_meet
          exact ⟨rfl, rfl, HS2.out.below (by repeat (first | exact Below.refl _ _ | refine Below.setCell ?_ (by simp) _ | refine below_drewN2 ?_ _ | refine Below.drew ?_ | refine Below.alloc ?_ (by simp) _ | refine Below.alloc ?_ (by simp; omega) _))⟩
      case rest =>
        obtain ⟨rfl, rfl, hs⟩ := hcut
        have HS3 := Lib.hid hs
        clear hs HS2
        go_wp2_with fail
        (with_reducible refine (filter_v 8 HFF.out.ry (HS3.out.at (List.mem_cons_self)) (HS3.out.at (List.mem_cons_of_mem _ (List.mem_cons_self))) (by omega) HFA.out HFB.out).mono ?_); rintro e wv3 ⟨vy, rfl, hv, hb⟩
        have HS4 := Lib.hid (HS3.out.add hv hb)
        clear hv hb HS3
        go_wp2_with fail
        (with_reducible refine (filter_v 9 HFF.out.rn (HS4.out.at (List.mem_cons_of_mem _ (List.mem_cons_self))) (HS4.out.at (List.mem_cons_of_mem _ (List.mem_cons_of_mem _ (List.mem_cons_self)))) (by omega) HFA.out HFB.out).mono ?_); rintro e wv4 ⟨vn, rfl, hv, hb⟩
        have HS5 := Lib.hid (HS4.out.add hv hb)
        clear hv hb HS4
        go_wp2_with fail
        (with_reducible refine (logic_v 14 HFF.out.ra (HS5.out.at (List.mem_cons_of_mem _ (List.mem_cons_of_mem _ (List.mem_cons_self)))) (HS5.out.at (List.mem_cons_of_mem _ (List.mem_cons_of_mem _ (List.mem_cons_of_mem _ (List.mem_cons_self))))) (by omega) HFA.out HFB.out).mono ?_); rintro e wv5 ⟨va, rfl, hv, hb⟩
        have HS6 := Lib.hid (HS5.out.add hv hb)
        clear hv hb HS5
        go_wp2_with fail
        (with_reducible refine (filter_v 8 HFF.out.rg (HS6.out.at (List.mem_cons_of_mem _ (List.mem_cons_of_mem _ (List.mem_cons_self)))) (HS6.out.at (List.mem_cons_of_mem _ (List.mem_cons_of_mem _ (List.mem_cons_of_mem _ (List.mem_cons_of_mem _ (List.mem_cons_self)))))) (by omega) HFF.out.fy HFB.out).mono ?_); rintro e wv6 ⟨vg, rfl, hv, hb⟩
        have HS7 := Lib.hid (HS6.out.add hv hb)
        clear hv hb HS6
        go_wp2_with fail
        (with_reducible refine (points_v (HS7.out.at (List.mem_cons_self)) (HS7.out.at (List.mem_cons_of_mem _ (List.mem_cons_of_mem _ (List.mem_cons_of_mem _ (List.mem_cons_self)))))).mono ?_); rintro e wv7 ⟨rfl, hb⟩
        have HS8 := Lib.hid (HS7.out.below hb)
        clear hb HS7
        rw [decide_eq_true rfl]
        have HE := Lib.hid (vo_empty wv7)
        have HBE := Lib.hid ((Below.refl wv7.heap.size wv7).alloc (Nat.le_refl _) (.cells #[] 28))
        go_wp2_with (at_builtin; refine app_vv (by first | rfl | (simp [Region.wanted, yielded]; done)) (.tmp 88) (.tmp 89) rfl rfl HE.out rfl ((HS8.out.at (List.mem_cons_of_mem _ (List.mem_cons_of_mem _ (List.mem_cons_of_mem _ (List.mem_cons_self))))).below HBE.out) (by simp; omega) (by have := HBE.out.size; omega) ?_)
        intro jyn0 wv8 ho hb
        have HVjyn0 := Lib.hid (show VO wv7.heap.size (Ly) jyn0 wv8 from ho); have HBjyn0 := Lib.hid (HBE.out.trans hb)
        clear ho hb HE HBE
        have HBE := HBjyn0; clear HBjyn0
        go_wp2_with (at_builtin; refine app_vv (by first | rfl | (simp [Region.wanted, yielded]; done)) (.tmp 90) (.tmp 91) rfl rfl HVjyn0.out rfl ((HS8.out.at (List.mem_cons_of_mem _ (List.mem_cons_of_mem _ (List.mem_cons_self)))).below HBE.out) (by omega) (by have := HBE.out.size; omega) ?_)
        intro jyn1 wv9 ho hb
        have HVjyn1 := Lib.hid (show VO wv7.heap.size ((Ly ++ Ln)) jyn1 wv9 from ho); have HBjyn1 := Lib.hid (HBE.out.trans hb)
        clear ho hb HBE HVjyn0
        have HBE := HBjyn1; clear HBjyn1
        have HS9 := Lib.hid (HS8.out.add HVjyn1.out.vat (HBE.out))
        clear HS8 HVjyn1 HBE
        have hj : (Ly ++ Ln).length ≤ 19 := by rw [List.length_append]; omega
        have HFJ : Hid (Fine (Ly ++ Ln)) := Lib.hid (HFF.out.fy.app HFF.out.fn)
        go_wp2_with fail
        (with_reducible refine (sort_v (HS9.out.at (List.mem_cons_self)) hj HFJ.out).mono ?_); rintro e wv10 ⟨sj, rfl, hv, hb⟩
        have HS10 := Lib.hid (HS9.out.add hv hb)
        clear hv hb HS9
        go_wp2_with fail
        (with_reducible refine (points_v (HS10.out.at (List.mem_cons_self)) (HS10.out.at (List.mem_cons_of_mem _ (List.mem_cons_of_mem _ (List.mem_cons_of_mem _ (List.mem_cons_self)))))).mono ?_); rintro e wv11 ⟨rfl, hb⟩
        have HS11 := Lib.hid (HS10.out.below hb)
        clear hb HS10
        rw [HFF.out.yn, decide_eq_true rfl]
        obtain ⟨Avy, cvy, rvy, rfl, hlvy, hqvy⟩ := (HS11.out.at (List.mem_cons_of_mem _ (List.mem_cons_of_mem _ (List.mem_cons_of_mem _ (List.mem_cons_of_mem _ (List.mem_cons_of_mem _ (List.mem_cons_self)))))))
        have hnvy : Hid (rvy.length = (Ly).length) := Lib.hid (by rw [← ptsOf_len, hlvy])
        clear hlvy hqvy
        generalize rvy.length = nvy at *
        obtain ⟨Avn, cvn, rvn, rfl, hlvn, hqvn⟩ := (HS11.out.at (List.mem_cons_of_mem _ (List.mem_cons_of_mem _ (List.mem_cons_of_mem _ (List.mem_cons_of_mem _ (List.mem_cons_self))))))
        have hnvn : Hid (rvn.length = (Ln).length) := Lib.hid (by rw [← ptsOf_len, hlvn])
        clear hlvn hqvn
        generalize rvn.length = nvn at *
        obtain ⟨Ava, cva, rva, rfl, hlva, hqva⟩ := (HS11.out.at (List.mem_cons_of_mem _ (List.mem_cons_of_mem _ (List.mem_cons_of_mem _ (List.mem_cons_self)))))
        have hnva : Hid (rva.length = (La).length) := Lib.hid (by rw [← ptsOf_len, hlva])
        clear hlva hqva
        generalize rva.length = nva at *
        have hw1 : IntKind.i64.wrap ((nvy : Int) + (nvn : Int)) = (nva : Int) := by rw [IntKind.wrap_i64]; have := hnvy.out; have := hnvn.out; have := hnva.out; omega
        go_wp2_with fail
        (with_reducible refine (HRN.out wv11).mono ?_); rintro e wv12 ⟨rfl, hb⟩
        have HS12 := Lib.hid (HS11.out.below hb)
        clear hb HS11
        go_wp2_with fail
        go_ret
        exact ⟨rfl, HS12.out.bel⟩
    · obtain ⟨Ly, Ln, La, hFF⟩ := filterF_of (qs := qs) HPA.out 10 (by omega) HTP.out HTQ.out
      have HFF : Hid (FilterF ps qs 10 13 Ly Ln La) := Lib.hid hFF
      have n1 := hFF.n1; have n2 := hFF.n2
      clear hFF
      go_upto_region 5 with fail
      go_cut [10, 11] from 33 to 40 (fun x10 x11 wx => x10 = .int .i64 10 ∧ x11 = .int .i64 13 ∧ VS w0 [(x, ps), (y, qs)] wx)
      case first =>
        go_region
        all_goals
          first | (go_wp2_with fail; go_meet) | go_meet
          exact ⟨rfl, rfl, HS2.out.below (by repeat (first | exact Below.refl _ _ | refine Below.setCell ?_ (by simp) _ | refine below_drewN2 ?_ _ | refine Below.drew ?_ | refine Below.alloc ?_ (by simp) _ | refine Below.alloc ?_ (by simp; omega) _))⟩
      case rest =>
        obtain ⟨rfl, rfl, hs⟩ := hcut
        have HS3 := Lib.hid hs
        clear hs HS2
        go_wp2_with fail
        (with_reducible refine (filter_v 10 HFF.out.ry (HS3.out.at (List.mem_cons_self)) (HS3.out.at (List.mem_cons_of_mem _ (List.mem_cons_self))) (by omega) HFA.out HFB.out).mono ?_); rintro e wv3 ⟨vy, rfl, hv, hb⟩
        have HS4 := Lib.hid (HS3.out.add hv hb)
        clear hv hb HS3
        go_wp2_with fail
        (with_reducible refine (filter_v 13 HFF.out.rn (HS4.out.at (List.mem_cons_of_mem _ (List.mem_cons_self))) (HS4.out.at (List.mem_cons_of_mem _ (List.mem_cons_of_mem _ (List.mem_cons_self)))) (by omega) HFA.out HFB.out).mono ?_); rintro e wv4 ⟨vn, rfl, hv, hb⟩
        have HS5 := Lib.hid (HS4.out.add hv hb)
        clear hv hb HS4
        go_wp2_with fail
        (with_reducible refine (logic_v 14 HFF.out.ra (HS5.out.at (List.mem_cons_of_mem _ (List.mem_cons_of_mem _ (List.mem_cons_self)))) (HS5.out.at (List.mem_cons_of_mem _ (List.mem_cons_of_mem _ (List.mem_cons_of_mem _ (List.mem_cons_self))))) (by omega) HFA.out HFB.out).mono ?_); rintro e wv5 ⟨va, rfl, hv, hb⟩
        have HS6 := Lib.hid (HS5.out.add hv hb)
        clear hv hb HS5
        go_wp2_with fail
        (with_reducible refine (filter_v 10 HFF.out.rg (HS6.out.at (List.mem_cons_of_mem _ (List.mem_cons_of_mem _ (List.mem_cons_self)))) (HS6.out.at (List.mem_cons_of_mem _ (List.mem_cons_of_mem _ (List.mem_cons_of_mem _ (List.mem_cons_of_mem _ (List.mem_cons_self)))))) (by omega) HFF.out.fy HFB.out).mono ?_); rintro e wv6 ⟨vg, rfl, hv, hb⟩
        have HS7 := Lib.hid (HS6.out.add hv hb)
        clear hv hb HS6
        go_wp2_with fail
        (with_reducible refine (points_v (HS7.out.at (List.mem_cons_self)) (HS7.out.at (List.mem_cons_of_mem _ (List.mem_cons_of_mem _ (List.mem_cons_of_mem _ (List.mem_cons_self)))))).mono ?_); rintro e wv7 ⟨rfl, hb⟩
        have HS8 := Lib.hid (HS7.out.below hb)
        clear hb HS7
        rw [decide_eq_true rfl]
        have HE := Lib.hid (vo_empty wv7)
        have HBE := Lib.hid ((Below.refl wv7.heap.size wv7).alloc (Nat.le_refl _) (.cells #[] 28))
        go_wp2_with (at_builtin; refine app_vv (by first | rfl | (simp [Region.wanted, yielded]; done)) (.tmp 88) (.tmp 89) rfl rfl HE.out rfl ((HS8.out.at (List.mem_cons_of_mem _ (List.mem_cons_of_mem _ (List.mem_cons_of_mem _ (List.mem_cons_self))))).below HBE.out) (by simp; omega) (by have := HBE.out.size; omega) ?_)
        intro jyn0 wv8 ho hb
        have HVjyn0 := Lib.hid (show VO wv7.heap.size (Ly) jyn0 wv8 from ho); have HBjyn0 := Lib.hid (HBE.out.trans hb)
        clear ho hb HE HBE
        have HBE := HBjyn0; clear HBjyn0
        go_wp2_with (at_builtin; refine app_vv (by first | rfl | (simp [Region.wanted, yielded]; done)) (.tmp 90) (.tmp 91) rfl rfl HVjyn0.out rfl ((HS8.out.at (List.mem_cons_of_mem _ (List.mem_cons_of_mem _ (List.mem_cons_self)))).below HBE.out) (by omega) (by have := HBE.out.size; omega) ?_)
        intro jyn1 wv9 ho hb
        have HVjyn1 := Lib.hid (show VO wv7.heap.size ((Ly ++ Ln)) jyn1 wv9 from ho); have HBjyn1 := Lib.hid (HBE.out.trans hb)
        clear ho hb HBE HVjyn0
        have HBE := HBjyn1; clear HBjyn1
        have HS9 := Lib.hid (HS8.out.add HVjyn1.out.vat (HBE.out))
        clear HS8 HVjyn1 HBE
        have hj : (Ly ++ Ln).length ≤ 19 := by rw [List.length_append]; omega
        have HFJ : Hid (Fine (Ly ++ Ln)) := Lib.hid (HFF.out.fy.app HFF.out.fn)
        go_wp2_with fail
        (with_reducible refine (sort_v (HS9.out.at (List.mem_cons_self)) hj HFJ.out).mono ?_); rintro e wv10 ⟨sj, rfl, hv, hb⟩
        have HS10 := Lib.hid (HS9.out.add hv hb)
        clear hv hb HS9
        go_wp2_with fail
        (with_reducible refine (points_v (HS10.out.at (List.mem_cons_self)) (HS10.out.at (List.mem_cons_of_mem _ (List.mem_cons_of_mem _ (List.mem_cons_of_mem _ (List.mem_cons_self)))))).mono ?_); rintro e wv11 ⟨rfl, hb⟩
        have HS11 := Lib.hid (HS10.out.below hb)
        clear hb HS10
        rw [HFF.out.yn, decide_eq_true rfl]
        obtain ⟨Avy, cvy, rvy, rfl, hlvy, hqvy⟩ := (HS11.out.at (List.mem_cons_of_mem _ (List.mem_cons_of_mem _ (List.mem_cons_of_mem _ (List.mem_cons_of_mem _ (List.mem_cons_of_mem _ (List.mem_cons_self)))))))
        have hnvy : Hid (rvy.length = (Ly).length) := Lib.hid (by rw [← ptsOf_len, hlvy])
        clear hlvy hqvy
        generalize rvy.length = nvy at *
        obtain ⟨Avn, cvn, rvn, rfl, hlvn, hqvn⟩ := (HS11.out.at (List.mem_cons_of_mem _ (List.mem_cons_of_mem _ (List.mem_cons_of_mem _ (List.mem_cons_of_mem _ (List.mem_cons_self))))))
        have hnvn : Hid (rvn.length = (Ln).length) := Lib.hid (by rw [← ptsOf_len, hlvn])
        clear hlvn hqvn
        generalize rvn.length = nvn at *
        obtain ⟨Ava, cva, rva, rfl, hlva, hqva⟩ := (HS11.out.at (List.mem_cons_of_mem _ (List.mem_cons_of_mem _ (List.mem_cons_of_mem _ (List.mem_cons_self)))))
        have hnva : Hid (rva.length = (La).length) := Lib.hid (by rw [← ptsOf_len, hlva])
        clear hlva hqva
        generalize rva.length = nva at *
        have hw1 : IntKind.i64.wrap ((nvy : Int) + (nvn : Int)) = (nva : Int) := by rw [IntKind.wrap_i64]; have := hnvy.out; have := hnvn.out; have := hnva.out; omega
        go_wp2_with fail
        (with_reducible refine (HRN.out wv11).mono ?_); rintro e wv12 ⟨rfl, hb⟩
        have HS12 := Lib.hid (HS11.out.below hb)
        clear hb HS11
        go_wp2_with fail
        go_ret
        exact ⟨rfl, HS12.out.bel⟩
    · obtain ⟨Ly, Ln, La, hFF⟩ := filterF_of (qs := qs) HPA.out 11 (by omega) HTP.out HTQ.out
      have HFF : Hid (FilterF ps qs 11 12 Ly Ln La) := Lib.hid hFF
      have n1 := hFF.n1; have n2 := hFF.n2
      clear hFF
      go_upto_region 5 with fail
      go_cut [10, 11] from 33 to 40 (fun x10 x11 wx => x10 = .int .i64 11 ∧ x11 = .int .i64 12 ∧ VS w0 [(x, ps), (y, qs)] wx)
      case first =>
        go_region
        all_goals
          first | (go_wp2_with fail; go_meet) | go_meet
          exact ⟨rfl, rfl, HS2.out.below (by repeat (first | exact Below.refl _ _ | refine Below.setCell ?_ (by simp) _ | refine below_drewN2 ?_ _ | refine Below.drew ?_ | refine Below.alloc ?_ (by simp) _ | refine Below.alloc ?_ (by simp; omega) _))⟩
      case rest =>
        obtain ⟨rfl, rfl, hs⟩ := hcut
        have HS3 := Lib.hid hs
        clear hs HS2
        go_wp2_with fail
        (with_reducible refine (filter_v 11 HFF.out.ry (HS3.out.at (List.mem_cons_self)) (HS3.out.at (List.mem_cons_of_mem _ (List.mem_cons_self))) (by omega) HFA.out HFB.out).mono ?_); rintro e wv3 ⟨vy, rfl, hv, hb⟩
        have HS4 := Lib.hid (HS3.out.add hv hb)
        clear hv hb HS3
        go_wp2_with fail
        (with_reducible refine (filter_v 12 HFF.out.rn (HS4.out.at (List.mem_cons_of_mem _ (List.mem_cons_self))) (HS4.out.at (List.mem_cons_of_mem _ (List.mem_cons_of_mem _ (List.mem_cons_self)))) (by omega) HFA.out HFB.out).mono ?_); rintro e wv4 ⟨vn, rfl, hv, hb⟩
        have HS5 := Lib.hid (HS4.out.add hv hb)
        clear hv hb HS4
        go_wp2_with fail
        (with_reducible refine (logic_v 14 HFF.out.ra (HS5.out.at (List.mem_cons_of_mem _ (List.mem_cons_of_mem _ (List.mem_cons_self)))) (HS5.out.at (List.mem_cons_of_mem _ (List.mem_cons_of_mem _ (List.mem_cons_of_mem _ (List.mem_cons_self))))) (by omega) HFA.out HFB.out).mono ?_); rintro e wv5 ⟨va, rfl, hv, hb⟩
        have HS6 := Lib.hid (HS5.out.add hv hb)
        clear hv hb HS5
        go_wp2_with fail
        (with_reducible refine (filter_v 11 HFF.out.rg (HS6.out.at (List.mem_cons_of_mem _ (List.mem_cons_of_mem _ (List.mem_cons_self)))) (HS6.out.at (List.mem_cons_of_mem _ (List.mem_cons_of_mem _ (List.mem_cons_of_mem _ (List.mem_cons_of_mem _ (List.mem_cons_self)))))) (by omega) HFF.out.fy HFB.out).mono ?_); rintro e wv6 ⟨vg, rfl, hv, hb⟩
        have HS7 := Lib.hid (HS6.out.add hv hb)
        clear hv hb HS6
        go_wp2_with fail
        (with_reducible refine (points_v (HS7.out.at (List.mem_cons_self)) (HS7.out.at (List.mem_cons_of_mem _ (List.mem_cons_of_mem _ (List.mem_cons_of_mem _ (List.mem_cons_self)))))).mono ?_); rintro e wv7 ⟨rfl, hb⟩
        have HS8 := Lib.hid (HS7.out.below hb)
        clear hb HS7
        rw [decide_eq_true rfl]
        have HE := Lib.hid (vo_empty wv7)
        have HBE := Lib.hid ((Below.refl wv7.heap.size wv7).alloc (Nat.le_refl _) (.cells #[] 28))
        go_wp2_with (at_builtin; refine app_vv (by first | rfl | (simp [Region.wanted, yielded]; done)) (.tmp 88) (.tmp 89) rfl rfl HE.out rfl ((HS8.out.at (List.mem_cons_of_mem _ (List.mem_cons_of_mem _ (List.mem_cons_of_mem _ (List.mem_cons_self))))).below HBE.out) (by simp; omega) (by have := HBE.out.size; omega) ?_)
        intro jyn0 wv8 ho hb
        have HVjyn0 := Lib.hid (show VO wv7.heap.size (Ly) jyn0 wv8 from ho); have HBjyn0 := Lib.hid (HBE.out.trans hb)
        clear ho hb HE HBE
        have HBE := HBjyn0; clear HBjyn0
        go_wp2_with (at_builtin; refine app_vv (by first | rfl | (simp [Region.wanted, yielded]; done)) (.tmp 90) (.tmp 91) rfl rfl HVjyn0.out rfl ((HS8.out.at (List.mem_cons_of_mem _ (List.mem_cons_of_mem _ (List.mem_cons_self)))).below HBE.out) (by omega) (by have := HBE.out.size; omega) ?_)
        intro jyn1 wv9 ho hb
        have HVjyn1 := Lib.hid (show VO wv7.heap.size ((Ly ++ Ln)) jyn1 wv9 from ho); have HBjyn1 := Lib.hid (HBE.out.trans hb)
        clear ho hb HBE HVjyn0
        have HBE := HBjyn1; clear HBjyn1
        have HS9 := Lib.hid (HS8.out.add HVjyn1.out.vat (HBE.out))
        clear HS8 HVjyn1 HBE
        have hj : (Ly ++ Ln).length ≤ 19 := by rw [List.length_append]; omega
        have HFJ : Hid (Fine (Ly ++ Ln)) := Lib.hid (HFF.out.fy.app HFF.out.fn)
        go_wp2_with fail
        (with_reducible refine (sort_v (HS9.out.at (List.mem_cons_self)) hj HFJ.out).mono ?_); rintro e wv10 ⟨sj, rfl, hv, hb⟩
        have HS10 := Lib.hid (HS9.out.add hv hb)
        clear hv hb HS9
        go_wp2_with fail
        (with_reducible refine (points_v (HS10.out.at (List.mem_cons_self)) (HS10.out.at (List.mem_cons_of_mem _ (List.mem_cons_of_mem _ (List.mem_cons_of_mem _ (List.mem_cons_self)))))).mono ?_); rintro e wv11 ⟨rfl, hb⟩
        have HS11 := Lib.hid (HS10.out.below hb)
        clear hb HS10
        rw [HFF.out.yn, decide_eq_true rfl]
        obtain ⟨Avy, cvy, rvy, rfl, hlvy, hqvy⟩ := (HS11.out.at (List.mem_cons_of_mem _ (List.mem_cons_of_mem _ (List.mem_cons_of_mem _ (List.mem_cons_of_mem _ (List.mem_cons_of_mem _ (List.mem_cons_self)))))))
        have hnvy : Hid (rvy.length = (Ly).length) := Lib.hid (by rw [← ptsOf_len, hlvy])
        clear hlvy hqvy
        generalize rvy.length = nvy at *
        obtain ⟨Avn, cvn, rvn, rfl, hlvn, hqvn⟩ := (HS11.out.at (List.mem_cons_of_mem _ (List.mem_cons_of_mem _ (List.mem_cons_of_mem _ (List.mem_cons_of_mem _ (List.mem_cons_self))))))
        have hnvn : Hid (rvn.length = (Ln).length) := Lib.hid (by rw [← ptsOf_len, hlvn])
        clear hlvn hqvn
        generalize rvn.length = nvn at *
        obtain ⟨Ava, cva, rva, rfl, hlva, hqva⟩ := (HS11.out.at (List.mem_cons_of_mem _ (List.mem_cons_of_mem _ (List.mem_cons_of_mem _ (List.mem_cons_self)))))
        have hnva : Hid (rva.length = (La).length) := Lib.hid (by rw [← ptsOf_len, hlva])
        clear hlva hqva
        generalize rva.length = nva at *
        have hw1 : IntKind.i64.wrap ((nvy : Int) + (nvn : Int)) = (nva : Int) := by rw [IntKind.wrap_i64]; have := hnvy.out; have := hnvn.out; have := hnva.out; omega
        go_wp2_with fail
        (with_reducible refine (HRN.out wv11).mono ?_); rintro e wv12 ⟨rfl, hb⟩
        have HS12 := Lib.hid (HS11.out.below hb)
        clear hb HS11
        go_wp2_with fail
        go_ret
        exact ⟨rfl, HS12.out.bel⟩
end Go.Proofs.Ytbndmmfpoljeaaa
