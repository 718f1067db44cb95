/- VecMath. -/
import Derived.Test.YtbndmmfpoljeaaaVecMathF
namespace Go.Proofs.Ytbndmmfpoljeaaa
open Go.ChangeShapes Go.WideShapes Go.ChangeAt Go.RowKit
set_option linter.unusedVariables false
set_option linter.unusedSimpArgs false
set_option maxRecDepth 100000
theorem pt_cell {W : World} {base n c i : Nat} {ad : Addr} {rows : List PtR} {p : PtR} (h : PtsAt base (.slice (some ad) n c) rows W) (hp : rows[i]? = some p) :
    W.cell? (ad.add (i * 2)) = some p.sv ∧ W.cell? ⟨(ad.add (i * 2)).block, (ad.add (i * 2)).off + 1, none⟩ = some (.int .i64 p.val) ∧ OwnL W p.sv p.set := by
  obtain ⟨hi, rfl⟩ := List.getElem?_eq_some_iff.1 hp
  obtain ⟨ad2, e, h0, h1, _⟩ := h.get2 hi
  injection e with e; subst e
  exact ⟨h0, h1, h.each _ (List.getElem_mem hi)⟩
theorem compare_h {W : World} {v v2 : Value} {l l2 : List Lbl} (h : HasL W v l) (h2 : HasL W v2 l2) : Calls Try.prog 29 #[v, v2] W fun e w' => e = .returned (.int .i64 (Lib.compareBytes (printL l) (printL l2))) ∧ Below W.heap.size W w' := by
  obtain ⟨A, c, rfl, hs, h3, h4⟩ := h
  obtain ⟨A2, c2, rfl, hs2, h5, h6⟩ := h2
  exact compare_any A A2 _ c _ c2 W.heap.size l l2 W hs hs2 (Nat.le_refl _) (by omega) (by omega)
set_option maxHeartbeats 8000000 in
theorem vec_math (ka : KVec) (n k : Int) (w0 : World) (ha : ka.ok w0.heap.size w0) (wn : I64 n) (wk : I64 k) :
    Calls Try.prog 7 #[ka.val, .int .i64 n, .int .i64 k] w0 fun e w' => e = .returned (.bool true) ∧ Below w0.heap.size w0 w' := by
  have HRN := Lib.hid vec_runs
  have hpA := vecF_ok ka
  have HPA := Lib.hid hpA
  have hla := hpA.len
  have hb1 : Below w0.heap.size w0 (w0.alloc (.cells #[.slice ka.A ka.qs.length ka.c, .slice ka.A2 ka.n2 ka.c2] 37)) := (Below.refl _ _).alloc (Nat.le_refl _) _
  have HX := Lib.hid (Blk.mk (heap_alloc_new w0 (.cells #[.slice ka.A ka.qs.length ka.c, .slice ka.A2 ka.n2 ka.c2] 37)) : Blk _ w0.heap.size 37 [.slice ka.A ka.qs.length ka.c, .slice ka.A2 ka.n2 ka.c2])
  have HOK := Lib.hid (ha.below hb1)
  have HB1 := Lib.hid hb1
  obtain ⟨b3, hb3⟩ : ∃ q, w0.heap.size = q := ⟨_, rfl⟩
  obtain ⟨W0, hW0⟩ : ∃ V, w0.alloc (.cells #[.slice ka.A ka.qs.length ka.c, .slice ka.A2 ka.n2 ka.c2] 37) = V := ⟨_, rfl⟩
  rw [hW0] at HX HOK HB1
  have HX3 := Lib.hid (hb3 ▸ HX.out)
  have HEQ := Lib.hid (And.intro hb3 hW0)
  clear ha hb1 hb3 hW0 hpA HX
  unfold KVec.val
  go_enter Try.func7, Try.ntmps7
  go_upto_region 1 with fail
  rw [HEQ.out.2, HEQ.out.1]
  clear HEQ
  have x0 := HX3.out.cell 0
  have x1 := HX3.out.cell 1
  simp only [List.getElem?_cons_zero, List.getElem?_cons_succ] at x0 x1
  go_wp2_with fail
  (with_reducible refine (vec_v HOK.out HB1.out.size).mono ?_); rintro e w1 ⟨x, rfl, hva, hb⟩
  have HS0 := Lib.hid (show VS w0 [(x, vecF ka)] w1 from ⟨fun y hy => by rw [List.mem_singleton] at hy; subst hy; exact hva, HB1.out.trans (hb.mono HB1.out.size)⟩)
  clear hva hb HOK HB1 x0 x1 HX3
  generalize vecF ka = ps at *
  have HFA := Lib.hid HPA.out.fine
  have HW1 := Lib.hid (fun V => within_any k 3 5 V wk (by omega) (by omega) (by omega))
  have HW2 := Lib.hid (fun V => within_any n (-50) 50 V wn (by omega) (by omega) (by omega))
  obtain ⟨hk1, hk2⟩ := nWithin_in k (lo := 3) (hi := 5) (by omega)
  obtain ⟨hm1, hm2⟩ := nWithin_in n (lo := -50) (hi := 50) (by omega)
  generalize nWithin k 3 5 = kk at *
  generalize nWithin n (-50) 50 = mm at *
  go_wp2_with fail
  (with_reducible refine (HW1.out _).mono ?_); rintro e wz ⟨rfl, rfl⟩
  go_wp2_with fail
  (with_reducible refine (HW2.out _).mono ?_); rintro e wz ⟨rfl, rfl⟩
  clear HW1 HW2
  go_wp2_with fail
  (with_reducible refine (twice_v (HS0.out.at (List.mem_cons_self)) (by omega) HFA.out).mono ?_); rintro e wv1 ⟨rfl, hb⟩
  have HS1 := Lib.hid (HS0.out.below hb)
  clear hb HS0
  obtain ⟨tp, htp⟩ : ∃ t, twiceF (keysP ps) = t := ⟨_, rfl⟩
  have HTP := Lib.hid htp
  rw [htp]
  clear htp
  cases tp with
  | true =>
    have HL1 : Hid (scaleR kk mm false ps = ([], 5)) := Lib.hid (by unfold scaleR; rw [HTP.out]; rfl)
    have HL2 : Hid (mathR kk ps ps = ([], 5)) := Lib.hid (by unfold mathR; rw [HTP.out]; rfl)
    have him : I64 mm := by unfold I64; omega
    go_wp2_with fail
    (with_reducible refine (scale_v kk mm false HL1.out (HS1.out.at (List.mem_cons_self)) (by omega) HFA.out him).mono ?_); rintro e wv2 ⟨e1, rfl, hv, hb⟩
    have HS2 := Lib.hid (HS1.out.add hv hb)
    clear hv hb HS1
    go_wp2_with fail
    (with_reducible refine (math_v kk HL2.out (HS2.out.at (List.mem_cons_of_mem _ (List.mem_cons_self))) (HS2.out.at (List.mem_cons_of_mem _ (List.mem_cons_self))) (by omega) HFA.out HFA.out).mono ?_); rintro e wv3 ⟨e2, rfl, hv, hb⟩
    have HS3 := Lib.hid (HS2.out.add hv hb)
    clear hv hb HS2
    go_wp2_with fail
    (with_reducible refine (HRN.out wv3).mono ?_); rintro e wv4 ⟨rfl, hb⟩
    have HS4 := Lib.hid (HS3.out.below hb)
    clear hb HS3
    go_wp2_with fail
    go_ret
    exact ⟨rfl, HS4.out.bel⟩
  | false =>
  obtain ⟨Ls, Lb, Ly, Lz, L0, er, hMF⟩ := mathF_of HPA.out (k := kk) (m := mm) (by omega) (by omega) HTP.out
  have HMF := Lib.hid hMF
  have n1 := hMF.nb; have n2 := hMF.ns; have n3 := hMF.ny; have n4 := hMF.nz
  clear hMF
  have N1 := Lib.hid n1; have N2 := Lib.hid n2; have N3 := Lib.hid n3; have N4 := Lib.hid n4
  clear n1 n2 n3 n4
  go_wp2_with fail
  (with_reducible refine (math_v 3 HMF.out.rs (HS1.out.at (List.mem_cons_self)) (HS1.out.at (List.mem_cons_self)) (by omega) HFA.out HFA.out).mono ?_); rintro e wv2 ⟨vs_, rfl, hv, hb⟩
  have HS2 := Lib.hid (HS1.out.add hv hb)
  clear hv hb HS1
  go_wp2_with fail
  (with_reducible refine (math_v 4 HMF.out.rd (HS2.out.at (List.mem_cons_self)) (HS2.out.at (List.mem_cons_of_mem _ (List.mem_cons_self))) (by have := N2.out; omega) HMF.out.fs HFA.out).mono ?_); rintro e wv3 ⟨vd, rfl, hv, hb⟩
  have HS3 := Lib.hid (HS2.out.add hv hb)
  clear hv hb HS2
  go_wp2_with fail
  (with_reducible refine (scale_v 5 2 false HMF.out.rt (HS3.out.at (List.mem_cons_of_mem _ (List.mem_cons_of_mem _ (List.mem_cons_self)))) (by omega) HFA.out (by unfold I64; omega)).mono ?_); rintro e wv4 ⟨vt, rfl, hv, hb⟩
  have HS4 := Lib.hid (HS3.out.add hv hb)
  clear hv hb HS3
  go_wp2_with fail
  (with_reducible refine (scale_v 3 0 false HMF.out.rb (HS4.out.at (List.mem_cons_of_mem _ (List.mem_cons_of_mem _ (List.mem_cons_of_mem _ (List.mem_cons_self))))) (by omega) HFA.out (by unfold I64; omega)).mono ?_); rintro e wv5 ⟨vb, rfl, hv, hb⟩
  have HS5 := Lib.hid (HS4.out.add hv hb)
  clear hv hb HS4
  go_wp2_with fail
  (with_reducible refine (points_v (HS5.out.at (List.mem_cons_of_mem _ (List.mem_cons_of_mem _ (List.mem_cons_of_mem _ (List.mem_cons_self))))) (HS5.out.at (List.mem_cons_of_mem _ (List.mem_cons_self)))).mono ?_); rintro e wv6 ⟨rfl, hb⟩
  have HS6 := Lib.hid (HS5.out.below hb)
  clear hb HS5
  rw [decide_eq_true rfl]
  go_wp2_with fail
  (with_reducible refine (points_v (HS6.out.at (List.mem_cons_of_mem _ (List.mem_cons_of_mem _ (List.mem_cons_self)))) (HS6.out.at (List.mem_cons_self))).mono ?_); rintro e wv7 ⟨rfl, hb⟩
  have HS7 := Lib.hid (HS6.out.below hb)
  clear hb HS6
  rw [decide_eq_true rfl]
  obtain ⟨Ab, cb, rb, rfl, hlb, hpb, hqb⟩ := (HS7.out.at (List.mem_cons_self))
  have HPB := Lib.hid hpb; have HLB := Lib.hid hlb; have HQB := Lib.hid hqb
  clear hlb hpb hqb
  obtain ⟨Ax, cx, rx, rfl, hlx, hqx⟩ := (HS7.out.at (List.mem_cons_of_mem _ (List.mem_cons_of_mem _ (List.mem_cons_of_mem _ (List.mem_cons_of_mem _ (List.mem_cons_self))))))
  have hnx : Hid (rx.length = (ps).length) := Lib.hid (by rw [← ptsOf_len, hlx])
  clear hlx hqx
  generalize rx.length = nx at *
  have HNB : Hid (rb.length = nx) := Lib.hid (by have h1 := congrArg List.length HLB.out; rw [ptsOf_len] at h1; rw [h1, N1.out, hnx.out])
  obtain ⟨nb, hnb⟩ : ∃ q, q = rb.length := ⟨_, rfl⟩
  rw [← hnb] at HS7 HPB HNB ⊢
  have HNB2 := Lib.hid hnb.symm
  have hnbx : nb = nx := HNB.out
  clear hnb HNB
  subst hnbx
  have hn8 : nb ≤ 8 := by rw [hnx.out]; omega
  go_wp2_with fail
  (with_reducible refine (twice_v (HS7.out.at (List.mem_cons_self)) (by rw [N1.out]; omega) HMF.out.fb).mono ?_); rintro e wt ⟨rfl, hb⟩
  have HSX := Lib.hid (show VS w0 [(.slice Ax nb cx, ps)] wt from ⟨fun y hy => by rw [List.mem_singleton] at hy; subst hy; exact ((HS7.out.at (List.mem_cons_of_mem _ (List.mem_cons_of_mem _ (List.mem_cons_of_mem _ (List.mem_cons_of_mem _ (List.mem_cons_self))))))).below hb, (HS7.out.below hb).bel⟩)
  have HPT := Lib.hid (HPB.out.below hb)
  clear hb HS7 HPB
  rw [HMF.out.tb]
  have HLP : Hid (∀ i, i < nb → ∃ p, rb[i]? = some p ∧ Lb[i]? = some (p.set, p.val)) := Lib.hid fun i hi => by
    have hl : i < rb.length := by rw [HNB2.out]; exact hi
    refine ⟨rb[i], List.getElem?_eq_getElem hl, ?_⟩
    rw [← HLB.out]; unfold ptsOf; rw [List.getElem?_map, List.getElem?_eq_getElem hl]; rfl
  go_wp2_with fail
  go_loopg [122] nb (fun g x122 wr => ∃ i : Nat, i + g = nb ∧ x122 = .int .i64 i ∧ VS w0 [(.slice Ax nb cx, ps)] wr ∧ PtsAt 0 (.slice Ab nb cb) rb wr)
  case atStart => exact ⟨0, by omega, rfl, HSX.out, HPT.out⟩
  case round =>
    obtain ⟨i, hig, rfl, hs, hpt⟩ := hrel
    have HS := Lib.hid hs; have HP := Lib.hid hpt
    clear hs hpt HSX HPT
    cases gk with
    | succ gq =>
      have hib' : i < nb := by omega
      have HIG := Lib.hid hig
      clear hig
      obtain ⟨p, hp1, hp2⟩ := HLP.out i hib'
      have HRP := Lib.hid hp1
      have HNM := Lib.hid (HMF.out.name _ (List.mem_of_getElem? hp2))
      obtain ⟨ad, hAb, q1, q2, q3⟩ := (HP.out).get2 (k := i) (List.getElem?_eq_some_iff.1 hp1).1
      clear q1 q2 q3
      subst hAb
      have hset : p.set.length ≤ 1000 := HMF.out.fb.sets _ (List.mem_of_getElem? hp2)
      have HCG := Lib.hid (fun V (hV : VS w0 [(.slice Ax nb cx, ps)] V ∧ PtsAt 0 (.slice (some ad) nb cb) rb V) => show Calls Try.prog 28 #[p.sv, .string ⟨#[110, 97, 109, 101]⟩] V fun e w' => e = .returned (.string ⟨#[]⟩) ∧ Below V.heap.size V w' from by
        have h := get_h (pt_cell hV.2 HRP.out).2.2.hasL hset ⟨#[110, 97, 109, 101]⟩
        rw [getF_none (l := p.set) (name := ⟨#[110, 97, 109, 101]⟩) HNM.out] at h; exact h)
      have HRI := Lib.hid (fun j (hj : j + 1 = i) => show ∃ q, rb[j]? = some q ∧ Op.bytesLess (printL q.set) (printL p.set) = true from by
        obtain ⟨q, hq1, hq2⟩ := HLP.out j (by omega)
        exact ⟨q, hq1, HMF.out.rise j _ _ hq2 (by rw [hj]; exact hp2)⟩)
      clear hp1 hp2 hset
      cases i with
      | zero =>
        have hib : ¬ nb ≤ 0 := by omega
        go_upto_region 17 with fail
        refine wp_region_facts (R := fun a b => Below a.heap.size a b) (G := (fun W => VS w0 [(.slice Ax nb cx, ps)] W ∧ PtsAt 0 (.slice (some ad) nb cb) rb W)) (V := fun i' u' W => match i' with | 0 => u' = .slice (some ad) nb cb | 1 => u' = .int .i64 0 | 2 => u' = .pointer (some ad) | 3 => u' = .pointer (some ad) | 4 => u' = p.sv | 5 => u' = .string ⟨#[]⟩ | 6 => u' = .bool false | 7 => u' = .bool false | 8 => u' = .int .i64 0 | 9 => u' = .bool false | 10 => u' = .bool false | 11 => True | 12 => True | 13 => True | 14 => True | 15 => True | 16 => True | 17 => True | 18 => True | 19 => True | 20 => True | 21 => True | 22 => True | 23 => True | 24 => u' = .bool false | 25 => u' = .bool false | _ => True) (by kernel_rfl) (fun w => Below.refl _ _) (fun a b c h1 h2 => h1.trans (h2.mono h1.size)) (by kernel_rfl) (by kernel_rfl) ?hG ⟨?o0, ?o1, ?o2, ?o3, ?o4, ?o5, ?o6, ?o7, ?o8, ?o9, ?o10, ?o11, ?o12, ?o13, ?o14, ?o15, ?o16, ?o17, ?o18, ?o19, ?o20, ?o21, ?o22, ?o23, ?o24, ?o25, trivial⟩ ?hend
        case o0 =>
          intro a w hfr hG hd
          refine ⟨fun hw => ?_, fun hw => absurd hw (by simp [Region.wanted])⟩
          have s20 : a.tmps.getD 20 undef = .slice (some ad) nb cb := hfr.at 20 (by kernel_rfl)
          refine op_yields (.slice (some ad) nb cb) ?_ ?_ ?_
          · simp only [execOp, resolve, List.map_toArray, List.map_cons, List.map_nil, Act.eval, s20]; simp [go_sem, -Array.getD_eq_getD_getElem?, s20]
          · exact Below.refl _ _
          · exact (fun _ _ => rfl)
        case o1 =>
          intro a w hfr hG hd
          refine ⟨fun hw => ?_, fun hw => absurd hw (by simp [Region.wanted])⟩
          have s22 : a.tmps.getD 22 undef = .int .i64 0 := hfr.at 22 (by kernel_rfl)
          refine op_yields (.int .i64 0) ?_ ?_ ?_
          · simp only [execOp, resolve, List.map_toArray, List.map_cons, List.map_nil, Act.eval, s22]; simp [go_sem, -Array.getD_eq_getD_getElem?, s22]
          · exact Below.refl _ _
          · exact (fun _ _ => rfl)
        case o2 =>
          intro a w hfr hG hd
          obtain ⟨d0, d1, _⟩ := hd
          refine ⟨fun hw => ?_, fun hw => absurd hw (by simp [Region.wanted])⟩
          have s125 : a.tmps.getD 125 undef = .slice (some ad) nb cb := (d0 rfl).now
          have s126 : a.tmps.getD 126 undef = .int .i64 0 := (d1 rfl).now
          refine op_yields (.pointer (some ad)) ?_ ?_ ?_
          · simp only [execOp, resolve, List.map_toArray, List.map_cons, List.map_nil, Act.eval, s125, s126]; simp [go_sem, -Array.getD_eq_getD_getElem?, s125, s126, hib]
          · exact Below.refl _ _
          · exact (fun _ _ => rfl)
        case o3 =>
          intro a w hfr hG hd
          obtain ⟨d0, _⟩ := hd
          refine ⟨fun hw => ?_, fun hw => absurd hw (by simp [Region.wanted])⟩
          have s127 : a.tmps.getD 127 undef = .pointer (some ad) := (d0 rfl).now
          refine op_yields (.pointer (some ad)) ?_ ?_ ?_
          · simp only [execOp, resolve, List.map_toArray, List.map_cons, List.map_nil, Act.eval, s127]; simp [go_sem, -Array.getD_eq_getD_getElem?, s127]
          · exact Below.refl _ _
          · exact (fun _ _ => rfl)
        case o4 =>
          intro a w hfr hG hd
          obtain ⟨d0, _⟩ := hd
          refine ⟨fun hw => ?_, fun hw => absurd hw (by simp [Region.wanted])⟩
          have s128 : a.tmps.getD 128 undef = .pointer (some ad) := (d0 rfl).now
          obtain ⟨z0, z1, z2⟩ := pt_cell hG.now.2 HRP.out; rw [Nat.zero_mul, add_zero'] at z0
          refine op_yields (p.sv) ?_ ?_ ?_
          · simp only [execOp, resolve, List.map_toArray, List.map_cons, List.map_nil, Act.eval, s128]; simp [go_sem, -Array.getD_eq_getD_getElem?, s128, z0]
          · exact Below.refl _ _
          · exact (fun _ _ => rfl)
        case o5 =>
          intro a w hfr hG hd
          obtain ⟨d0, _⟩ := hd
          refine ⟨fun hw => ?_, fun hw => absurd hw (by simp [Region.wanted])⟩
          have s129 : a.tmps.getD 129 undef = p.sv := (d0 rfl).now
          refine op_calls2 ((HCG.out w hG.now).mono fun e' w' hh => ⟨_, hh.1, hh.2, (fun _ _ => rfl)⟩) ?_
          simp only [execOp, resolve, List.map_toArray, List.map_cons, List.map_nil, Act.eval, s129]; simp [go_sem, -Array.getD_eq_getD_getElem?, s129]
        case o6 =>
          intro a w hfr hG hd
          obtain ⟨d0, _⟩ := hd
          refine ⟨fun hw => ?_, fun hw => absurd hw (by simp [Region.wanted])⟩
          have s130 : a.tmps.getD 130 undef = .string ⟨#[]⟩ := (d0 rfl).now
          refine op_yields (.bool false) ?_ ?_ ?_
          · simp only [execOp, resolve, List.map_toArray, List.map_cons, List.map_nil, Act.eval, s130]; simp [go_sem, -Array.getD_eq_getD_getElem?, s130]
          · exact Below.refl _ _
          · exact (fun _ _ => rfl)
        case o7 =>
          intro a w hfr hG hd
          obtain ⟨d0, d1, _⟩ := hd
          refine ⟨fun hw => ?_, fun hw => absurd hw (by simp [Region.wanted])⟩
          have s131 : a.tmps.getD 131 undef = .bool false := (d0 rfl).now
          refine op_yields (.bool false) ?_ ?_ ?_
          · simp only [execOp, resolve, List.map_toArray, List.map_cons, List.map_nil, Act.eval, s131]; simp [go_sem, -Array.getD_eq_getD_getElem?, s131]
          · exact Below.refl _ _
          · exact (fun _ _ => rfl)
        case o8 =>
          intro a w hfr hG hd
          obtain ⟨d0, _⟩ := hd
          have sg : a.tmps.getD 132 undef = .bool false := (d0 rfl).now
          refine ⟨fun hw => ?_, fun hw => by rw [wanted_of rfl (yielded_of rfl sg)] at hw; exact absurd hw (by decide)⟩
          have s22 : a.tmps.getD 22 undef = .int .i64 0 := hfr.at 22 (by kernel_rfl)
          refine op_yields (.int .i64 0) ?_ ?_ ?_
          · simp only [execOp, resolve, List.map_toArray, List.map_cons, List.map_nil, Act.eval, s22]; simp [go_sem, -Array.getD_eq_getD_getElem?, s22]
          · exact Below.refl _ _
          · exact (fun _ _ => rfl)
        case o9 =>
          intro a w hfr hG hd
          obtain ⟨d0, d1, _⟩ := hd
          have sg : a.tmps.getD 132 undef = .bool false := (d1 rfl).now
          refine ⟨fun hw => ?_, fun hw => by rw [wanted_of rfl (yielded_of rfl sg)] at hw; exact absurd hw (by decide)⟩
          have s133 : a.tmps.getD 133 undef = .int .i64 0 := (d0 rfl).now
          refine op_yields (.bool false) ?_ ?_ ?_
          · simp only [execOp, resolve, List.map_toArray, List.map_cons, List.map_nil, Act.eval, s133]; simp [go_sem, -Array.getD_eq_getD_getElem?, s133]
          · exact Below.refl _ _
          · exact (fun _ _ => rfl)
        case o10 =>
          intro a w hfr hG hd
          obtain ⟨d0, d1, d2, _⟩ := hd
          have sg : a.tmps.getD 132 undef = .bool false := (d1 rfl).now
          refine ⟨fun hw => ?_, fun hw => by rw [wanted_of rfl (yielded_of rfl sg)] at hw; exact absurd hw (by decide)⟩
          have s134 : a.tmps.getD 134 undef = .bool false := (d0 rfl).now
          refine op_yields (.bool false) ?_ ?_ ?_
          · simp only [execOp, resolve, List.map_toArray, List.map_cons, List.map_nil, Act.eval, s134]; simp [go_sem, -Array.getD_eq_getD_getElem?, s134]
          · exact Below.refl _ _
          · exact (fun _ _ => rfl)
        case o11 =>
          intro a w hfr hG hd
          obtain ⟨d0, _⟩ := hd
          have sg : a.tmps.getD 135 undef = .bool false := (d0 rfl).now
          refine ⟨fun hw => ?_, fun hw => fun _ _ => trivial⟩
          rw [wanted_of rfl (yielded_of rfl sg)] at hw; exact absurd hw (by decide)
        case o12 =>
          intro a w hfr hG hd
          obtain ⟨d0, _⟩ := hd
          have sg : a.tmps.getD 135 undef = .bool false := (d0 rfl).now
          refine ⟨fun hw => ?_, fun hw => fun _ _ => trivial⟩
          rw [wanted_of rfl (yielded_of rfl sg)] at hw; exact absurd hw (by decide)
        case o13 =>
          intro a w hfr hG hd
          obtain ⟨d0, d1, _⟩ := hd
          have sg : a.tmps.getD 135 undef = .bool false := (d1 rfl).now
          refine ⟨fun hw => ?_, fun hw => fun _ _ => trivial⟩
          rw [wanted_of rfl (yielded_of rfl sg)] at hw; exact absurd hw (by decide)
        case o14 =>
          intro a w hfr hG hd
          obtain ⟨d0, d1, d2, _⟩ := hd
          have sg : a.tmps.getD 135 undef = .bool false := (d2 rfl).now
          refine ⟨fun hw => ?_, fun hw => fun _ _ => trivial⟩
          rw [wanted_of rfl (yielded_of rfl sg)] at hw; exact absurd hw (by decide)
        case o15 =>
          intro a w hfr hG hd
          obtain ⟨d0, d1, _⟩ := hd
          have sg : a.tmps.getD 135 undef = .bool false := (d1 rfl).now
          refine ⟨fun hw => ?_, fun hw => fun _ _ => trivial⟩
          rw [wanted_of rfl (yielded_of rfl sg)] at hw; exact absurd hw (by decide)
        case o16 =>
          intro a w hfr hG hd
          obtain ⟨d0, d1, _⟩ := hd
          have sg : a.tmps.getD 135 undef = .bool false := (d1 rfl).now
          refine ⟨fun hw => ?_, fun hw => fun _ _ => trivial⟩
          rw [wanted_of rfl (yielded_of rfl sg)] at hw; exact absurd hw (by decide)
        case o17 =>
          intro a w hfr hG hd
          obtain ⟨d0, _⟩ := hd
          have sg : a.tmps.getD 135 undef = .bool false := (d0 rfl).now
          refine ⟨fun hw => ?_, fun hw => fun _ _ => trivial⟩
          rw [wanted_of rfl (yielded_of rfl sg)] at hw; exact absurd hw (by decide)
        case o18 =>
          intro a w hfr hG hd
          obtain ⟨d0, _⟩ := hd
          have sg : a.tmps.getD 135 undef = .bool false := (d0 rfl).now
          refine ⟨fun hw => ?_, fun hw => fun _ _ => trivial⟩
          rw [wanted_of rfl (yielded_of rfl sg)] at hw; exact absurd hw (by decide)
        case o19 =>
          intro a w hfr hG hd
          obtain ⟨d0, d1, d2, _⟩ := hd
          have sg : a.tmps.getD 135 undef = .bool false := (d2 rfl).now
          refine ⟨fun hw => ?_, fun hw => fun _ _ => trivial⟩
          rw [wanted_of rfl (yielded_of rfl sg)] at hw; exact absurd hw (by decide)
        case o20 =>
          intro a w hfr hG hd
          obtain ⟨d0, d1, _⟩ := hd
          have sg : a.tmps.getD 135 undef = .bool false := (d1 rfl).now
          refine ⟨fun hw => ?_, fun hw => fun _ _ => trivial⟩
          rw [wanted_of rfl (yielded_of rfl sg)] at hw; exact absurd hw (by decide)
        case o21 =>
          intro a w hfr hG hd
          obtain ⟨d0, d1, _⟩ := hd
          have sg : a.tmps.getD 135 undef = .bool false := (d1 rfl).now
          refine ⟨fun hw => ?_, fun hw => fun _ _ => trivial⟩
          rw [wanted_of rfl (yielded_of rfl sg)] at hw; exact absurd hw (by decide)
        case o22 =>
          intro a w hfr hG hd
          obtain ⟨d0, d1, d2, d3, _⟩ := hd
          have sg : a.tmps.getD 135 undef = .bool false := (d2 rfl).now
          refine ⟨fun hw => ?_, fun hw => fun _ _ => trivial⟩
          rw [wanted_of rfl (yielded_of rfl sg)] at hw; exact absurd hw (by decide)
        case o23 =>
          intro a w hfr hG hd
          obtain ⟨d0, d1, _⟩ := hd
          have sg : a.tmps.getD 135 undef = .bool false := (d1 rfl).now
          refine ⟨fun hw => ?_, fun hw => fun _ _ => trivial⟩
          rw [wanted_of rfl (yielded_of rfl sg)] at hw; exact absurd hw (by decide)
        case o24 =>
          intro a w hfr hG hd
          obtain ⟨d0, d1, d2, _⟩ := hd
          have sg : a.tmps.getD 132 undef = .bool false := (d2 rfl).now
          refine ⟨fun hw => ?_, fun hw => by rw [wanted_of rfl (yielded_of rfl sg)] at hw; exact absurd hw (by decide)⟩
          have s135 : a.tmps.getD 135 undef = .bool false := (d0 rfl).now
          refine op_yields (.bool false) ?_ ?_ ?_
          · simp only [execOp, resolve, List.map_toArray, List.map_cons, List.map_nil, Act.eval, s135]; simp [go_sem, -Array.getD_eq_getD_getElem?, s135]
          · exact Below.refl _ _
          · exact (fun _ _ => rfl)
        case o25 =>
          intro a w hfr hG hd
          obtain ⟨d0, d1, _⟩ := hd
          refine ⟨fun hw => ?_, fun hw => absurd hw (by simp [Region.wanted])⟩
          have s132 : a.tmps.getD 132 undef = .bool false := (d0 rfl).now
          have s149 : a.tmps.getD 149 undef = .bool false := (d1 rfl).now
          refine op_yields (.bool false) ?_ ?_ ?_
          · simp only [execOp, resolve, List.map_toArray, List.map_cons, List.map_nil, Act.eval, s132, s149]; simp [go_sem, -Array.getD_eq_getD_getElem?, s132, s149]
          · exact Below.refl _ _
          · exact (fun _ _ => rfl)
        case hG => exact fun w' hb => ⟨HS.out.below ((Below.refl _ _).drew.trans (hb.mono (by simp))), HP.out.below ((Below.refl _ _).drew.trans (hb.mono (by simp)))⟩
        case hend =>
          intro vs2 wq hG hv
          have key : vs2 25 = .bool false := by
            obtain ⟨_, _, _, _, _, _, _, _, _, _, _, _, _, _, _, _, _, _, _, _, _, _, _, _, _, h25, _⟩ := hv
            exact h25.now
          have HN := Lib.hid hG.now
          clear hv hG HCG HRI HRP HNM HS HP
          simp only [putAll, Act.put, key]
          clear key
          go_simp
          go_wp2_with fail
          go_roundg gq
          case measure => omega
          case rel => exact ⟨1, by have := HIG.out; omega, by first | rfl | go_num, HN.out.1, HN.out.2⟩
      | succ j =>
        obtain ⟨q, hq1, hqr⟩ := HRI.out j rfl
        have HRQ := Lib.hid hq1
        have HCC := Lib.hid (fun V (hV : VS w0 [(.slice Ax nb cx, ps)] V ∧ PtsAt 0 (.slice (some ad) nb cb) rb V) => show Calls Try.prog 29 #[q.sv, p.sv] V fun e w' => e = .returned (.int .i64 (-1)) ∧ Below V.heap.size V w' from by
          have h := compare_h (pt_cell hV.2 HRQ.out).2.2.hasL (pt_cell hV.2 HRP.out).2.2.hasL
          rw [cmp_less, hqr, if_pos rfl] at h; exact h)
        clear hq1 hqr HRI
        obtain ⟨i, hi⟩ : ∃ i, j + 1 = i := ⟨_, rfl⟩
        rw [show ((j + 1 : Nat) : Int) = (i : Int) by omega]
        rw [hi] at HRP hib' HIG
        have hib : ¬ nb ≤ i := by omega
        have hjb : ¬ nb ≤ j := by omega
        have hi0 : 0 < i := by omega
        have hwj : IntKind.i64.wrap ((i : Int) - 1) = (j : Int) := by rw [IntKind.wrap_i64]; have h8 : nb ≤ 8 := (by rw [hnx.out]; omega); omega
        go_upto_region 17 with fail
        refine wp_region_facts (R := fun a b => Below a.heap.size a b) (G := (fun W => VS w0 [(.slice Ax nb cx, ps)] W ∧ PtsAt 0 (.slice (some ad) nb cb) rb W)) (V := fun i' u' W => match i' with | 0 => u' = .slice (some ad) nb cb | 1 => u' = .int .i64 i | 2 => u' = .pointer (some (ad.add (i * 2))) | 3 => u' = .pointer (some (ad.add (i * 2))) | 4 => u' = p.sv | 5 => u' = .string ⟨#[]⟩ | 6 => u' = .bool false | 7 => u' = .bool false | 8 => u' = .int .i64 i | 9 => u' = .bool true | 10 => u' = .bool true | 11 => u' = .slice (some ad) nb cb | 12 => u' = .int .i64 i | 13 => u' = .int .i64 j | 14 => u' = .pointer (some (ad.add (j * 2))) | 15 => u' = .pointer (some (ad.add (j * 2))) | 16 => u' = q.sv | 17 => u' = .slice (some ad) nb cb | 18 => u' = .int .i64 i | 19 => u' = .pointer (some (ad.add (i * 2))) | 20 => u' = .pointer (some (ad.add (i * 2))) | 21 => u' = p.sv | 22 => u' = .int .i64 (-1) | 23 => u' = .bool false | 24 => u' = .bool false | 25 => u' = .bool false | _ => True) (by kernel_rfl) (fun w => Below.refl _ _) (fun a b c h1 h2 => h1.trans (h2.mono h1.size)) (by kernel_rfl) (by kernel_rfl) ?hG ⟨?o0, ?o1, ?o2, ?o3, ?o4, ?o5, ?o6, ?o7, ?o8, ?o9, ?o10, ?o11, ?o12, ?o13, ?o14, ?o15, ?o16, ?o17, ?o18, ?o19, ?o20, ?o21, ?o22, ?o23, ?o24, ?o25, trivial⟩ ?hend
        case o0 =>
          intro a w hfr hG hd
          refine ⟨fun hw => ?_, fun hw => absurd hw (by simp [Region.wanted])⟩
          have s20 : a.tmps.getD 20 undef = .slice (some ad) nb cb := hfr.at 20 (by kernel_rfl)
          refine op_yields (.slice (some ad) nb cb) ?_ ?_ ?_
          · simp only [execOp, resolve, List.map_toArray, List.map_cons, List.map_nil, Act.eval, s20]; simp [go_sem, -Array.getD_eq_getD_getElem?, s20]
          · exact Below.refl _ _
          · exact (fun _ _ => rfl)
        case o1 =>
          intro a w hfr hG hd
          refine ⟨fun hw => ?_, fun hw => absurd hw (by simp [Region.wanted])⟩
          have s22 : a.tmps.getD 22 undef = .int .i64 i := hfr.at 22 (by kernel_rfl)
          refine op_yields (.int .i64 i) ?_ ?_ ?_
          · simp only [execOp, resolve, List.map_toArray, List.map_cons, List.map_nil, Act.eval, s22]; simp [go_sem, -Array.getD_eq_getD_getElem?, s22]
          · exact Below.refl _ _
          · exact (fun _ _ => rfl)
        case o2 =>
          intro a w hfr hG hd
          obtain ⟨d0, d1, _⟩ := hd
          refine ⟨fun hw => ?_, fun hw => absurd hw (by simp [Region.wanted])⟩
          have s125 : a.tmps.getD 125 undef = .slice (some ad) nb cb := (d0 rfl).now
          have s126 : a.tmps.getD 126 undef = .int .i64 i := (d1 rfl).now
          refine op_yields (.pointer (some (ad.add (i * 2)))) ?_ ?_ ?_
          · simp only [execOp, resolve, List.map_toArray, List.map_cons, List.map_nil, Act.eval, s125, s126]; simp [go_sem, -Array.getD_eq_getD_getElem?, s125, s126, hib]
          · exact Below.refl _ _
          · exact (fun _ _ => rfl)
        case o3 =>
          intro a w hfr hG hd
          obtain ⟨d0, _⟩ := hd
          refine ⟨fun hw => ?_, fun hw => absurd hw (by simp [Region.wanted])⟩
          have s127 : a.tmps.getD 127 undef = .pointer (some (ad.add (i * 2))) := (d0 rfl).now
          refine op_yields (.pointer (some (ad.add (i * 2)))) ?_ ?_ ?_
          · simp only [execOp, resolve, List.map_toArray, List.map_cons, List.map_nil, Act.eval, s127]; simp [go_sem, -Array.getD_eq_getD_getElem?, s127]
          · exact Below.refl _ _
          · exact (fun _ _ => rfl)
        case o4 =>
          intro a w hfr hG hd
          obtain ⟨d0, _⟩ := hd
          refine ⟨fun hw => ?_, fun hw => absurd hw (by simp [Region.wanted])⟩
          have s128 : a.tmps.getD 128 undef = .pointer (some (ad.add (i * 2))) := (d0 rfl).now
          obtain ⟨z0, z1, z2⟩ := pt_cell hG.now.2 HRP.out
          refine op_yields (p.sv) ?_ ?_ ?_
          · simp only [execOp, resolve, List.map_toArray, List.map_cons, List.map_nil, Act.eval, s128]; simp [go_sem, -Array.getD_eq_getD_getElem?, s128, z0]
          · exact Below.refl _ _
          · exact (fun _ _ => rfl)
        case o5 =>
          intro a w hfr hG hd
          obtain ⟨d0, _⟩ := hd
          refine ⟨fun hw => ?_, fun hw => absurd hw (by simp [Region.wanted])⟩
          have s129 : a.tmps.getD 129 undef = p.sv := (d0 rfl).now
          refine op_calls2 ((HCG.out w hG.now).mono fun e' w' hh => ⟨_, hh.1, hh.2, (fun _ _ => rfl)⟩) ?_
          simp only [execOp, resolve, List.map_toArray, List.map_cons, List.map_nil, Act.eval, s129]; simp [go_sem, -Array.getD_eq_getD_getElem?, s129]
        case o6 =>
          intro a w hfr hG hd
          obtain ⟨d0, _⟩ := hd
          refine ⟨fun hw => ?_, fun hw => absurd hw (by simp [Region.wanted])⟩
          have s130 : a.tmps.getD 130 undef = .string ⟨#[]⟩ := (d0 rfl).now
          refine op_yields (.bool false) ?_ ?_ ?_
          · simp only [execOp, resolve, List.map_toArray, List.map_cons, List.map_nil, Act.eval, s130]; simp [go_sem, -Array.getD_eq_getD_getElem?, s130]
          · exact Below.refl _ _
          · exact (fun _ _ => rfl)
        case o7 =>
          intro a w hfr hG hd
          obtain ⟨d0, d1, _⟩ := hd
          refine ⟨fun hw => ?_, fun hw => absurd hw (by simp [Region.wanted])⟩
          have s131 : a.tmps.getD 131 undef = .bool false := (d0 rfl).now
          refine op_yields (.bool false) ?_ ?_ ?_
          · simp only [execOp, resolve, List.map_toArray, List.map_cons, List.map_nil, Act.eval, s131]; simp [go_sem, -Array.getD_eq_getD_getElem?, s131]
          · exact Below.refl _ _
          · exact (fun _ _ => rfl)
        case o8 =>
          intro a w hfr hG hd
          obtain ⟨d0, _⟩ := hd
          have sg : a.tmps.getD 132 undef = .bool false := (d0 rfl).now
          refine ⟨fun hw => ?_, fun hw => by rw [wanted_of rfl (yielded_of rfl sg)] at hw; exact absurd hw (by decide)⟩
          have s22 : a.tmps.getD 22 undef = .int .i64 i := hfr.at 22 (by kernel_rfl)
          refine op_yields (.int .i64 i) ?_ ?_ ?_
          · simp only [execOp, resolve, List.map_toArray, List.map_cons, List.map_nil, Act.eval, s22]; simp [go_sem, -Array.getD_eq_getD_getElem?, s22]
          · exact Below.refl _ _
          · exact (fun _ _ => rfl)
        case o9 =>
          intro a w hfr hG hd
          obtain ⟨d0, d1, _⟩ := hd
          have sg : a.tmps.getD 132 undef = .bool false := (d1 rfl).now
          refine ⟨fun hw => ?_, fun hw => by rw [wanted_of rfl (yielded_of rfl sg)] at hw; exact absurd hw (by decide)⟩
          have s133 : a.tmps.getD 133 undef = .int .i64 i := (d0 rfl).now
          refine op_yields (.bool true) ?_ ?_ ?_
          · simp only [execOp, resolve, List.map_toArray, List.map_cons, List.map_nil, Act.eval, s133]; simp [go_sem, -Array.getD_eq_getD_getElem?, s133, hi0]
          · exact Below.refl _ _
          · exact (fun _ _ => rfl)
        case o10 =>
          intro a w hfr hG hd
          obtain ⟨d0, d1, d2, _⟩ := hd
          have sg : a.tmps.getD 132 undef = .bool false := (d1 rfl).now
          refine ⟨fun hw => ?_, fun hw => by rw [wanted_of rfl (yielded_of rfl sg)] at hw; exact absurd hw (by decide)⟩
          have s134 : a.tmps.getD 134 undef = .bool true := (d0 rfl).now
          refine op_yields (.bool true) ?_ ?_ ?_
          · simp only [execOp, resolve, List.map_toArray, List.map_cons, List.map_nil, Act.eval, s134]; simp [go_sem, -Array.getD_eq_getD_getElem?, s134]
          · exact Below.refl _ _
          · exact (fun _ _ => rfl)
        case o11 =>
          intro a w hfr hG hd
          obtain ⟨d0, _⟩ := hd
          have sg : a.tmps.getD 135 undef = .bool true := (d0 rfl).now
          refine ⟨fun hw => ?_, fun hw => by rw [wanted_of rfl (yielded_of rfl sg)] at hw; exact absurd hw (by decide)⟩
          have s20 : a.tmps.getD 20 undef = .slice (some ad) nb cb := hfr.at 20 (by kernel_rfl)
          refine op_yields (.slice (some ad) nb cb) ?_ ?_ ?_
          · simp only [execOp, resolve, List.map_toArray, List.map_cons, List.map_nil, Act.eval, s20]; simp [go_sem, -Array.getD_eq_getD_getElem?, s20]
          · exact Below.refl _ _
          · exact (fun _ _ => rfl)
        case o12 =>
          intro a w hfr hG hd
          obtain ⟨d0, _⟩ := hd
          have sg : a.tmps.getD 135 undef = .bool true := (d0 rfl).now
          refine ⟨fun hw => ?_, fun hw => by rw [wanted_of rfl (yielded_of rfl sg)] at hw; exact absurd hw (by decide)⟩
          have s22 : a.tmps.getD 22 undef = .int .i64 i := hfr.at 22 (by kernel_rfl)
          refine op_yields (.int .i64 i) ?_ ?_ ?_
          · simp only [execOp, resolve, List.map_toArray, List.map_cons, List.map_nil, Act.eval, s22]; simp [go_sem, -Array.getD_eq_getD_getElem?, s22]
          · exact Below.refl _ _
          · exact (fun _ _ => rfl)
        case o13 =>
          intro a w hfr hG hd
          obtain ⟨d0, d1, _⟩ := hd
          have sg : a.tmps.getD 135 undef = .bool true := (d1 rfl).now
          refine ⟨fun hw => ?_, fun hw => by rw [wanted_of rfl (yielded_of rfl sg)] at hw; exact absurd hw (by decide)⟩
          have s137 : a.tmps.getD 137 undef = .int .i64 i := (d0 rfl).now
          refine op_yields (.int .i64 j) ?_ ?_ ?_
          · simp only [execOp, resolve, List.map_toArray, List.map_cons, List.map_nil, Act.eval, s137]; simp [go_sem, -Array.getD_eq_getD_getElem?, s137, hwj]
          · exact Below.refl _ _
          · exact (fun _ _ => rfl)
        case o14 =>
          intro a w hfr hG hd
          obtain ⟨d0, d1, d2, _⟩ := hd
          have sg : a.tmps.getD 135 undef = .bool true := (d2 rfl).now
          refine ⟨fun hw => ?_, fun hw => by rw [wanted_of rfl (yielded_of rfl sg)] at hw; exact absurd hw (by decide)⟩
          have s136 : a.tmps.getD 136 undef = .slice (some ad) nb cb := (d0 rfl).now
          have s138 : a.tmps.getD 138 undef = .int .i64 j := (d1 rfl).now
          refine op_yields (.pointer (some (ad.add (j * 2)))) ?_ ?_ ?_
          · simp only [execOp, resolve, List.map_toArray, List.map_cons, List.map_nil, Act.eval, s136, s138]; simp [go_sem, -Array.getD_eq_getD_getElem?, s136, s138, hjb]
          · exact Below.refl _ _
          · exact (fun _ _ => rfl)
        case o15 =>
          intro a w hfr hG hd
          obtain ⟨d0, d1, _⟩ := hd
          have sg : a.tmps.getD 135 undef = .bool true := (d1 rfl).now
          refine ⟨fun hw => ?_, fun hw => by rw [wanted_of rfl (yielded_of rfl sg)] at hw; exact absurd hw (by decide)⟩
          have s139 : a.tmps.getD 139 undef = .pointer (some (ad.add (j * 2))) := (d0 rfl).now
          refine op_yields (.pointer (some (ad.add (j * 2)))) ?_ ?_ ?_
          · simp only [execOp, resolve, List.map_toArray, List.map_cons, List.map_nil, Act.eval, s139]; simp [go_sem, -Array.getD_eq_getD_getElem?, s139]
          · exact Below.refl _ _
          · exact (fun _ _ => rfl)
        case o16 =>
          intro a w hfr hG hd
          obtain ⟨d0, d1, _⟩ := hd
          have sg : a.tmps.getD 135 undef = .bool true := (d1 rfl).now
          refine ⟨fun hw => ?_, fun hw => by rw [wanted_of rfl (yielded_of rfl sg)] at hw; exact absurd hw (by decide)⟩
          have s140 : a.tmps.getD 140 undef = .pointer (some (ad.add (j * 2))) := (d0 rfl).now
          obtain ⟨z0, z1, z2⟩ := pt_cell hG.now.2 HRQ.out
          refine op_yields (q.sv) ?_ ?_ ?_
          · simp only [execOp, resolve, List.map_toArray, List.map_cons, List.map_nil, Act.eval, s140]; simp [go_sem, -Array.getD_eq_getD_getElem?, s140, z0]
          · exact Below.refl _ _
          · exact (fun _ _ => rfl)
        case o17 =>
          intro a w hfr hG hd
          obtain ⟨d0, _⟩ := hd
          have sg : a.tmps.getD 135 undef = .bool true := (d0 rfl).now
          refine ⟨fun hw => ?_, fun hw => by rw [wanted_of rfl (yielded_of rfl sg)] at hw; exact absurd hw (by decide)⟩
          have s20 : a.tmps.getD 20 undef = .slice (some ad) nb cb := hfr.at 20 (by kernel_rfl)
          refine op_yields (.slice (some ad) nb cb) ?_ ?_ ?_
          · simp only [execOp, resolve, List.map_toArray, List.map_cons, List.map_nil, Act.eval, s20]; simp [go_sem, -Array.getD_eq_getD_getElem?, s20]
          · exact Below.refl _ _
          · exact (fun _ _ => rfl)
        case o18 =>
          intro a w hfr hG hd
          obtain ⟨d0, _⟩ := hd
          have sg : a.tmps.getD 135 undef = .bool true := (d0 rfl).now
          refine ⟨fun hw => ?_, fun hw => by rw [wanted_of rfl (yielded_of rfl sg)] at hw; exact absurd hw (by decide)⟩
          have s22 : a.tmps.getD 22 undef = .int .i64 i := hfr.at 22 (by kernel_rfl)
          refine op_yields (.int .i64 i) ?_ ?_ ?_
          · simp only [execOp, resolve, List.map_toArray, List.map_cons, List.map_nil, Act.eval, s22]; simp [go_sem, -Array.getD_eq_getD_getElem?, s22]
          · exact Below.refl _ _
          · exact (fun _ _ => rfl)
        case o19 =>
          intro a w hfr hG hd
          obtain ⟨d0, d1, d2, _⟩ := hd
          have sg : a.tmps.getD 135 undef = .bool true := (d2 rfl).now
          refine ⟨fun hw => ?_, fun hw => by rw [wanted_of rfl (yielded_of rfl sg)] at hw; exact absurd hw (by decide)⟩
          have s142 : a.tmps.getD 142 undef = .slice (some ad) nb cb := (d0 rfl).now
          have s143 : a.tmps.getD 143 undef = .int .i64 i := (d1 rfl).now
          refine op_yields (.pointer (some (ad.add (i * 2)))) ?_ ?_ ?_
          · simp only [execOp, resolve, List.map_toArray, List.map_cons, List.map_nil, Act.eval, s142, s143]; simp [go_sem, -Array.getD_eq_getD_getElem?, s142, s143, hib]
          · exact Below.refl _ _
          · exact (fun _ _ => rfl)
        case o20 =>
          intro a w hfr hG hd
          obtain ⟨d0, d1, _⟩ := hd
          have sg : a.tmps.getD 135 undef = .bool true := (d1 rfl).now
          refine ⟨fun hw => ?_, fun hw => by rw [wanted_of rfl (yielded_of rfl sg)] at hw; exact absurd hw (by decide)⟩
          have s144 : a.tmps.getD 144 undef = .pointer (some (ad.add (i * 2))) := (d0 rfl).now
          refine op_yields (.pointer (some (ad.add (i * 2)))) ?_ ?_ ?_
          · simp only [execOp, resolve, List.map_toArray, List.map_cons, List.map_nil, Act.eval, s144]; simp [go_sem, -Array.getD_eq_getD_getElem?, s144]
          · exact Below.refl _ _
          · exact (fun _ _ => rfl)
        case o21 =>
          intro a w hfr hG hd
          obtain ⟨d0, d1, _⟩ := hd
          have sg : a.tmps.getD 135 undef = .bool true := (d1 rfl).now
          refine ⟨fun hw => ?_, fun hw => by rw [wanted_of rfl (yielded_of rfl sg)] at hw; exact absurd hw (by decide)⟩
          have s145 : a.tmps.getD 145 undef = .pointer (some (ad.add (i * 2))) := (d0 rfl).now
          obtain ⟨z0, z1, z2⟩ := pt_cell hG.now.2 HRP.out
          refine op_yields (p.sv) ?_ ?_ ?_
          · simp only [execOp, resolve, List.map_toArray, List.map_cons, List.map_nil, Act.eval, s145]; simp [go_sem, -Array.getD_eq_getD_getElem?, s145, z0]
          · exact Below.refl _ _
          · exact (fun _ _ => rfl)
        case o22 =>
          intro a w hfr hG hd
          obtain ⟨d0, d1, d2, d3, _⟩ := hd
          have sg : a.tmps.getD 135 undef = .bool true := (d2 rfl).now
          refine ⟨fun hw => ?_, fun hw => by rw [wanted_of rfl (yielded_of rfl sg)] at hw; exact absurd hw (by decide)⟩
          have s141 : a.tmps.getD 141 undef = q.sv := (d0 rfl).now
          have s146 : a.tmps.getD 146 undef = p.sv := (d1 rfl).now
          refine op_calls2 ((HCC.out w hG.now).mono fun e' w' hh => ⟨_, hh.1, hh.2, (fun _ _ => rfl)⟩) ?_
          simp only [execOp, resolve, List.map_toArray, List.map_cons, List.map_nil, Act.eval, s141, s146]; simp [go_sem, -Array.getD_eq_getD_getElem?, s141, s146]
        case o23 =>
          intro a w hfr hG hd
          obtain ⟨d0, d1, _⟩ := hd
          have sg : a.tmps.getD 135 undef = .bool true := (d1 rfl).now
          refine ⟨fun hw => ?_, fun hw => by rw [wanted_of rfl (yielded_of rfl sg)] at hw; exact absurd hw (by decide)⟩
          have s147 : a.tmps.getD 147 undef = .int .i64 (-1) := (d0 rfl).now
          refine op_yields (.bool false) ?_ ?_ ?_
          · simp only [execOp, resolve, List.map_toArray, List.map_cons, List.map_nil, Act.eval, s147]; simp [go_sem, -Array.getD_eq_getD_getElem?, s147]
          · exact Below.refl _ _
          · exact (fun _ _ => rfl)
        case o24 =>
          intro a w hfr hG hd
          obtain ⟨d0, d1, d2, _⟩ := hd
          have sg : a.tmps.getD 132 undef = .bool false := (d2 rfl).now
          refine ⟨fun hw => ?_, fun hw => by rw [wanted_of rfl (yielded_of rfl sg)] at hw; exact absurd hw (by decide)⟩
          have s135 : a.tmps.getD 135 undef = .bool true := (d0 rfl).now
          have s148 : a.tmps.getD 148 undef = .bool false := (d1 rfl).now
          refine op_yields (.bool false) ?_ ?_ ?_
          · simp only [execOp, resolve, List.map_toArray, List.map_cons, List.map_nil, Act.eval, s135, s148]; simp [go_sem, -Array.getD_eq_getD_getElem?, s135, s148]
          · exact Below.refl _ _
          · exact (fun _ _ => rfl)
        case o25 =>
          intro a w hfr hG hd
          obtain ⟨d0, d1, _⟩ := hd
          refine ⟨fun hw => ?_, fun hw => absurd hw (by simp [Region.wanted])⟩
          have s132 : a.tmps.getD 132 undef = .bool false := (d0 rfl).now
          have s149 : a.tmps.getD 149 undef = .bool false := (d1 rfl).now
          refine op_yields (.bool false) ?_ ?_ ?_
          · simp only [execOp, resolve, List.map_toArray, List.map_cons, List.map_nil, Act.eval, s132, s149]; simp [go_sem, -Array.getD_eq_getD_getElem?, s132, s149]
          · exact Below.refl _ _
          · exact (fun _ _ => rfl)
        case hG => exact fun w' hb => ⟨HS.out.below ((Below.refl _ _).drew.trans (hb.mono (by simp))), HP.out.below ((Below.refl _ _).drew.trans (hb.mono (by simp)))⟩
        case hend =>
          intro vs2 wq hG hv
          have key : vs2 25 = .bool false := by
            obtain ⟨_, _, _, _, _, _, _, _, _, _, _, _, _, _, _, _, _, _, _, _, _, _, _, _, _, h25, _⟩ := hv
            exact h25.now
          have HN := Lib.hid hG.now
          clear hv hG HCG HCC HRP HRQ HNM HS HP
          simp only [putAll, Act.put, key]
          clear key
          go_simp
          go_wp2_with fail
          go_roundg gq
          case measure => omega
          case rel => exact ⟨i + 1, by have := HIG.out; omega, by first | rfl | go_num, HN.out.1, HN.out.2⟩
    | zero =>
      obtain rfl : i = nb := by omega
      have HS100 := HS
      clear HS HP HLP
      have him : I64 mm := by unfold I64; omega
      go_wp2_with fail
      have hnx2 := hnx.out
      clear hnx2
      (with_reducible refine (scale_v kk mm true HMF.out.ry (HS100.out.at (List.mem_cons_self)) (by omega) HFA.out him).mono ?_); rintro e wv1 ⟨vy, rfl, hv, hb⟩
      have HS101 := Lib.hid (HS100.out.add hv hb)
      clear hv hb HS100
      go_wp2_with fail
      (with_reducible refine (scale_v kk mm false HMF.out.rz (HS101.out.at (List.mem_cons_of_mem _ (List.mem_cons_self))) (by omega) HFA.out him).mono ?_); rintro e wv2 ⟨vz, rfl, hv, hb⟩
      have HS102 := Lib.hid (HS101.out.add hv hb)
      clear hv hb HS101
      have HX5 := Lib.hid (show VAt ps (.slice Ax i cx) wv2 from (HS102.out.at (List.mem_cons_of_mem _ (List.mem_cons_of_mem _ (List.mem_cons_self)))))
      obtain ⟨Ay, cy, ry, rfl, hly, hpy, hqy⟩ := (HS102.out.at (List.mem_cons_of_mem _ (List.mem_cons_self)))
      obtain ⟨Az, cz, rz, rfl, hlz, hpz, hqz⟩ := (HS102.out.at (List.mem_cons_self))
      have HNY : Hid (ry.length = i) := Lib.hid (by have h1 := congrArg List.length hly; rw [ptsOf_len] at h1; rw [h1, N3.out, hnx.out])
      have HNZ : Hid (rz.length = i) := Lib.hid (by have h1 := congrArg List.length hlz; rw [ptsOf_len] at h1; rw [h1, N4.out, hnx.out])
      have HBL := Lib.hid HS102.out.bel
      have HPY := Lib.hid hpy; have HPZ := Lib.hid hpz
      have HYZ : Hid (∀ q, q < i → ∃ p r, ry[q]? = some p ∧ rz[q]? = some r ∧ (kk ≠ 4 → p.val = r.val) ∧ (kk = 4 → p.val = -r.val) ∧ -5000 ≤ r.val ∧ r.val ≤ 5000) := Lib.hid fun q hq => by
        have h1 : q < ry.length := by rw [HNY.out]; exact hq
        have h2 : q < rz.length := by rw [HNZ.out]; exact hq
        refine ⟨ry[q], rz[q], List.getElem?_eq_getElem h1, List.getElem?_eq_getElem h2, ?_⟩
        exact HMF.out.yz q (ry[q].set, ry[q].val) (rz[q].set, rz[q].val) (by rw [← hly]; unfold ptsOf; rw [List.getElem?_map, List.getElem?_eq_getElem h1]; rfl) (by rw [← hlz]; unfold ptsOf; rw [List.getElem?_map, List.getElem?_eq_getElem h2]; rfl)
      clear hly hpy hqy hlz hpz hqz HS102
      rw [HNY.out] at HPY ⊢
      rw [HNZ.out] at HPZ ⊢
      go_wp2_with fail
      go_loopg [181] i (fun g x181 wq => ∃ q : Nat, q + g = i ∧ x181 = .int .i64 q ∧ VAt ps (.slice Ax i cx) wq ∧ PtsAt 0 (.slice Ay i cy) ry wq ∧ PtsAt 0 (.slice Az i cz) rz wq ∧ Below w0.heap.size w0 wq)
      case atStart => exact ⟨0, by omega, rfl, HX5.out, HPY.out, HPZ.out, HBL.out⟩
      case round =>
        obtain ⟨q, hqg, rfl, hx, hy, hz, hbl⟩ := hrel
        have HX6 := Lib.hid hx; have HY6 := Lib.hid hy; have HZ6 := Lib.hid hz; have HB6 := Lib.hid hbl
        clear hx hy hz hbl HX5 HPY HPZ HBL
        cases gk with
        | succ gq =>
          obtain ⟨p, r, hp, hr, hne, heq, hr1, hr2⟩ := HYZ.out q (by omega)
          obtain ⟨ay, hAy, g1, g2, g3⟩ := HY6.out.get2 (k := q) (List.getElem?_eq_some_iff.1 hp).1
          clear g1 g2 g3
          obtain ⟨az, hAz, g1, g2, g3⟩ := HZ6.out.get2 (k := q) (List.getElem?_eq_some_iff.1 hr).1
          clear g1 g2 g3
          subst hAy; subst hAz
          obtain ⟨_, y1, _⟩ := pt_cell HY6.out hp
          obtain ⟨_, z1, _⟩ := pt_cell HZ6.out hr
          generalize p.val = yv at *
          generalize r.val = zv at *
          have hqb : (q : Int) < i := by omega
          have hqb2 : q < i := by omega
          have hqb3 : (0 : Int) ≤ q := by omega
          have HQG := Lib.hid hqg
          clear hqg
          by_cases k4 : kk = 4
          · have hyv := heq k4
            have t1 : (kk != 4) = false := by simp [k4]
            have t2 : (kk == 4) = true := by simp [k4]
            have hw : IntKind.i64.wrap (-zv) = -zv := by rw [IntKind.wrap_i64]; omega
            clear hne heq k4
            subst hyv
            have t3 : (-zv != -zv) = false := by simp
            have t4 : (-zv == -zv) = true := by simp
            go_upto_region 27 with fail
            go_quiet (fail)
            go_wp2_with fail
            go_roundg gq
            case measure => omega
            case rel => exact ⟨q + 1, by have := HQG.out; omega, by first | rfl | go_num, HX6.out.below (below_drewN2 (Below.refl _ _) _), HY6.out.below (below_drewN2 (Below.refl _ _) _), HZ6.out.below (below_drewN2 (Below.refl _ _) _), below_drewN2 HB6.out _⟩
          · have hyv := hne k4
            have t1 : (kk != 4) = true := by simp [k4]
            have t2 : (kk == 4) = false := by simp [k4]
            clear hne heq k4
            subst hyv
            have t3 : (yv != yv) = false := by simp
            have t4 : (yv == yv) = true := by simp
            go_upto_region 27 with fail
            go_quiet (fail)
            go_wp2_with fail
            go_roundg gq
            case measure => omega
            case rel => exact ⟨q + 1, by have := HQG.out; omega, by first | rfl | go_num, HX6.out.below (below_drewN2 (Below.refl _ _) _), HY6.out.below (below_drewN2 (Below.refl _ _) _), HZ6.out.below (below_drewN2 (Below.refl _ _) _), below_drewN2 HB6.out _⟩
        | zero =>
          obtain rfl : q = i := by omega
          have HS200 := Lib.hid (show VS w0 [(.slice Ax q cx, ps)] wr from ⟨fun y hy => by rw [List.mem_singleton] at hy; subst hy; exact HX6.out, HB6.out⟩)
          clear HX6 HY6 HZ6 HB6 HYZ
          go_wp2_with fail
          (with_reducible refine (scale_v 6 0 false HMF.out.r0 (HS200.out.at (List.mem_cons_self)) (by omega) HFA.out (by unfold I64; omega)).mono ?_); rintro e wv1 ⟨v0, rfl, hv, hb⟩
          have HS201 := Lib.hid (HS200.out.add hv hb)
          clear hv hb HS200
          have HE0 := Lib.hid HMF.out.e0
          obtain ⟨be, hbe⟩ : ∃ b, (er == 4) = b := ⟨_, rfl⟩
          have hqe : decide (0 < q) = be := by rw [hnx.out, ← HE0.out, hbe]
          clear HE0
          cases be with
          | true =>
            have hq0 : (0 : Int) < q := by have := of_decide_eq_true hqe; omega
            have hq1 : 0 < q := by omega
            go_wp2_with fail
            (with_reducible refine (HRN.out wv1).mono ?_); rintro e wv2 ⟨rfl, hb⟩
            have HS202 := Lib.hid (HS201.out.below hb)
            clear hb HS201
            go_wp2_with fail
            go_ret
            exact ⟨rfl, HS202.out.bel⟩
          | false =>
            have hq0 : ¬ (0 : Int) < q := by have := of_decide_eq_false hqe; omega
            have hq1 : ¬ 0 < q := by omega
            go_wp2_with fail
            (with_reducible refine (HRN.out wv1).mono ?_); rintro e wv2 ⟨rfl, hb⟩
            have HS202 := Lib.hid (HS201.out.below hb)
            clear hb HS201
            go_wp2_with fail
            go_ret
            exact ⟨rfl, HS202.out.bel⟩
end Go.Proofs.Ytbndmmfpoljeaaa
