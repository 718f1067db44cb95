/- VecTells. -/
import Derived.Test.YtbndmmfpoljeaaaTwoCon
import Derived.Test.YtbndmmfpoljeaaaRef7l
import Derived.Test.YtbndmmfpoljeaaaVecStart
namespace Go.Proofs.Ytbndmmfpoljeaaa
open Go.ChangeShapes Go.WideShapes Go.ChangeAt Go.RowKit
set_option linter.unusedVariables false
set_option linter.unusedSimpArgs false
set_option maxRecDepth 100000
/-- A value of vectors stays while a result's box is written. -/
theorem VAt.store {ps : List Pt} {v : Value} {W : World} {b i : Nat} {cs : List Value} (h : VAt ps v W) (hb : Blk W b 41 cs) (u : Value) : VAt ps v (W.setCell ⟨b, i, none⟩ u) := by
  obtain ⟨A, c, rows, h1, h2, h3, h4⟩ := h
  exact ⟨A, c, rows, h1, h2, ptsAt_store h3 hb u, h4⟩
/-- Vectors at hand, and the box of a result. -/
structure TS (w0 : World) (L : List (Value × List Pt)) (b : Nat) (u0 u1 u2 : Value) (W : World) : Prop where
  vs : VS w0 L W
  box : Blk W b 41 [u0, u1, u2]
  le : w0.heap.size ≤ b
theorem TS.below {w0 W W' : World} {L : List (Value × List Pt)} {b : Nat} {u0 u1 u2 : Value} (h : TS w0 L b u0 u1 u2 W) (hb : Below W.heap.size W W') : TS w0 L b u0 u1 u2 W' := ⟨h.vs.below hb, h.box.below hb h.box.lt, h.le⟩
theorem TS.add {w0 W W' : World} {L : List (Value × List Pt)} {b : Nat} {u0 u1 u2 v : Value} {ps : List Pt} (h : TS w0 L b u0 u1 u2 W) (hv : VAt ps v W') (hb : Below W.heap.size W W') : TS w0 ((v, ps) :: L) b u0 u1 u2 W' := ⟨h.vs.add hv hb, h.box.below hb h.box.lt, h.le⟩
theorem TS.store {w0 W : World} {L : List (Value × List Pt)} {b : Nat} {u0 u1 u2 : Value} (h : TS w0 L b u0 u1 u2 W) (x0 x1 x2 : Value) : TS w0 L b x0 x1 x2 (((W.setCell ⟨b, 0, none⟩ x0).setCell ⟨b, 1, none⟩ x1).setCell ⟨b, 2, none⟩ x2) := by
  have h1 := h.box.set 0 x0
  have h2 := h1.set 1 x1
  have h3 := h2.set 2 x2
  refine ⟨⟨fun y hy => ?_, ((h.vs.bel.setCell h.le _).setCell h.le _).setCell h.le _⟩, h3, h.le⟩
  exact (((h.vs.all y hy).store h.box _).store h1 _).store h2 _
theorem TS.start {w0 W : World} {L : List (Value × List Pt)} (h : VS w0 L W) (x0 x1 x2 : Value) : TS w0 L W.heap.size x0 x1 x2 (W.alloc (.cells #[x0, x1, x2] 41)) :=
  ⟨h.below ((Below.refl _ _).alloc (Nat.le_refl _) _), Blk.mk (heap_alloc_new W _), h.bel.size⟩
theorem TS.at {w0 W : World} {L : List (Value × List Pt)} {b : Nat} {u0 u1 u2 v : Value} {ps : List Pt} (h : TS w0 L b u0 u1 u2 W) (hm : (v, ps) ∈ L) : VAt ps v W := h.vs.all _ hm
theorem group_rv {x : Value} {ps L : List Pt} {er : Int} {W : World} (k : Int) (AN : Option Addr) (nn cn : Nat) (ns : List ByteArray) (hr : groupR k ns ps = (L, er)) (hns : Sees W W.heap.size 1 AN nn (strs ns)) (hnn : nn ≤ 9223372036854775807) (hx : VAt ps x W) (hl : ps.length ≤ 19) (hf : SOk ps) (h1 : 17 ≤ k) (h2 : k ≤ 20) : Calls Try.prog 22 #[.int .i64 k, .slice AN nn cn, x] W (VAnsE L er W) := by
  obtain ⟨A, c, rows, rfl, rfl, h3, _⟩ := hx
  rw [ptsOf_len] at hl
  exact (group_r 0 A AN c nn cn rows ns k W h3 hns hnn (by omega) (sok_rows hf).1 (sok_rows hf).2 h1 h2).mono fun e w' h => vat_ofE hr h
theorem result_v {A : Option Addr} {n c : Nat} {W : World} : Calls Try.prog 17 #[.slice A n c] W fun e w' => e = .returned (.agg #[.int .i64 2, .int .i64 0, .slice A n c]) ∧ Below W.heap.size W w' := result_any A n c W
set_option maxHeartbeats 8000000 in
theorem vec_tells (ka kb : KVec) (kd n : Int) (AN : Option Addr) (nn cn : Nat) (zs : List ByteArray) (first : Bool) (w0 : World) (ha : ka.ok w0.heap.size w0) (hb : kb.ok w0.heap.size w0) (wk : I64 kd) (wn : I64 n) (hns : Sees w0 w0.heap.size 1 AN nn (strs zs)) (hnn : nn ≤ cn) (hcn : cn ≤ 9223372036854775807) :
    Calls Try.prog 4 #[ka.val, kb.val, .int .i64 kd, .int .i64 n, .slice AN nn cn, .bool first] w0 fun e w' => e = .returned (.bool true) ∧ Below w0.heap.size w0 w' := by
  have HRN := Lib.hid vec_runs
  obtain ⟨mn, hmn⟩ : ∃ q, min nn 4 = q := ⟨_, rfl⟩
  have hmz : (min (nn : Int) 4).toNat = mn := by omega
  have hm4 : mn ≤ 9223372036854775807 := by omega
  have HNS := Lib.hid (fun (V : World) (hV : Below w0.heap.size w0 V) => (((hns.take (k := mn) (by omega)).below hV).more hV.size))
  rw [show mn * 1 = mn by omega] at HNS
  have e9 : (strs zs).take mn = strs (zs.take mn) := by unfold strs; rw [List.map_take]
  rw [e9] at HNS
  have HM4 := Lib.hid hm4
  clear e9 hns hmn hm4
  generalize zs.take mn = ns at *
  have HW1 := Lib.hid (fun V => within_any kd 3 7 V wk (by omega) (by omega) (by omega))
  have HW2 := Lib.hid (fun V => within_any kd 8 13 V wk (by omega) (by omega) (by omega))
  have HW3 := Lib.hid (fun V => within_any kd 14 16 V wk (by omega) (by omega) (by omega))
  have HW4 := Lib.hid (fun V => within_any kd 17 20 V wk (by omega) (by omega) (by omega))
  obtain ⟨m1, m2⟩ := nWithin_in kd (lo := 3) (hi := 7) (by omega)
  obtain ⟨c1, c2⟩ := nWithin_in kd (lo := 8) (hi := 13) (by omega)
  obtain ⟨l1, l2⟩ := nWithin_in kd (lo := 14) (hi := 16) (by omega)
  obtain ⟨g1, g2⟩ := nWithin_in kd (lo := 17) (hi := 20) (by omega)
  generalize nWithin kd 3 7 = km at *
  generalize nWithin kd 8 13 = kc at *
  generalize nWithin kd 14 16 = kl at *
  generalize nWithin kd 17 20 = ko at *
  have HKM := Lib.hid (And.intro m1 m2); have HKC := Lib.hid (And.intro c1 c2); have HKL := Lib.hid (And.intro l1 l2); have HKO := Lib.hid (And.intro g1 g2)
  clear m1 m2 c1 c2 l1 l2 g1 g2
  have HWN := Lib.hid wn
  have HT0 := Lib.hid (TwoV.start ha hb)
  have hpA := vecF_ok ka
  have hpB := vecF_ok kb
  have HPA := Lib.hid hpA; have HPB := Lib.hid hpB
  have hla := hpA.len
  have hlb := hpB.len
  obtain ⟨b3, hb3⟩ : ∃ q, w0.heap.size = q := ⟨_, rfl⟩
  obtain ⟨b4, hb4⟩ : ∃ q, w0.heap.size + 1 = q := ⟨_, rfl⟩
  obtain ⟨W0, hW0⟩ : ∃ V, (w0.alloc (.cells #[.slice ka.A ka.qs.length ka.c, .slice ka.A2 ka.n2 ka.c2] 37)).alloc (.cells #[.slice kb.A kb.qs.length kb.c, .slice kb.A2 kb.n2 kb.c2] 37) = V := ⟨_, rfl⟩
  have HT := Lib.hid (show TwoV w0 ka kb b3 b4 W0 by have h := HT0.out; rw [hW0, hb4, hb3] at h; exact h)
  have HEQ := Lib.hid (And.intro hb3 (And.intro hb4 hW0))
  clear ha hb HT0 hb3 hb4 hW0 hpA hpB
  unfold KVec.val
  go_enter Try.func4, Try.ntmps4
  go_upto_region 1 with fail
  rw [HEQ.out.2.2, HEQ.out.2.1, HEQ.out.1]
  clear HEQ
  refine wp_region_facts (R := fun a b => Below a.heap.size a b) (G := (fun W => TwoV w0 ka kb b3 b4 W)) (V := fun i' u' W => match i' with | 0 => u' = .agg #[.slice ka.A ka.qs.length ka.c, .slice ka.A2 ka.n2 ka.c2] | 1 => VAt (vecF ka) u' W | 2 => u' = .agg #[.slice kb.A kb.qs.length kb.c, .slice kb.A2 kb.n2 kb.c2] | 3 => VAt (vecF kb) u' W | 4 => VAt (vecF ka) u' W | 5 => VAt (vecF kb) u' W | _ => True) (by kernel_rfl) (fun w => Below.refl _ _) (fun a b c h1 h2 => h1.trans (h2.mono h1.size)) (by kernel_rfl) (by kernel_rfl) ?hG ⟨?o0, ?o1, ?o2, ?o3, ?o4, ?o5, trivial⟩ ?hend
  case o0 =>
    intro a w hfr hG hd
    refine ⟨fun hw => ?_, fun hw => absurd hw (by simp [Region.wanted])⟩
    have s6 : a.tmps.getD 6 undef = .pointer (some ⟨b3, 0, none⟩) := hfr.at 6 (by kernel_rfl)
    have z0 := hG.now.x3.cell 0; have z1 := hG.now.x3.cell 1; simp only [List.getElem?_cons_zero, List.getElem?_cons_succ] at z0 z1
    refine op_yields (.agg #[.slice ka.A ka.qs.length ka.c, .slice ka.A2 ka.n2 ka.c2]) ?_ ?_ ?_
    · simp only [execOp, resolve, List.map_toArray, List.map_cons, List.map_nil, Act.eval, s6]; simp [go_sem, -Array.getD_eq_getD_getElem?, s6, z0, z1]
    · exact Below.refl _ _
    · exact (fun _ _ => rfl)
  case o1 =>
    intro a w hfr hG hd
    obtain ⟨d0, _⟩ := hd
    refine ⟨fun hw => ?_, fun hw => absurd hw (by simp [Region.wanted])⟩
    have s26 : a.tmps.getD 26 undef = .agg #[.slice ka.A ka.qs.length ka.c, .slice ka.A2 ka.n2 ka.c2] := (d0 rfl).now
    refine op_calls2 ((vec_v hG.now.oka hG.now.bel.size).mono fun e' w' hh => ?_) (by simp only [execOp, resolve, List.map_toArray, List.map_cons, List.map_nil, Act.eval, s26]; simp [go_sem, -Array.getD_eq_getD_getElem?, s26]); obtain ⟨v, h1, h2, h3⟩ := hh; exact ⟨v, h1, h3, fun W' hW' => h2.below hW'⟩
  case o2 =>
    intro a w hfr hG hd
    refine ⟨fun hw => ?_, fun hw => absurd hw (by simp [Region.wanted])⟩
    have s7 : a.tmps.getD 7 undef = .pointer (some ⟨b4, 0, none⟩) := hfr.at 7 (by kernel_rfl)
    have z0 := hG.now.x4.cell 0; have z1 := hG.now.x4.cell 1; simp only [List.getElem?_cons_zero, List.getElem?_cons_succ] at z0 z1
    refine op_yields (.agg #[.slice kb.A kb.qs.length kb.c, .slice kb.A2 kb.n2 kb.c2]) ?_ ?_ ?_
    · simp only [execOp, resolve, List.map_toArray, List.map_cons, List.map_nil, Act.eval, s7]; simp [go_sem, -Array.getD_eq_getD_getElem?, s7, z0, z1]
    · exact Below.refl _ _
    · exact (fun _ _ => rfl)
  case o3 =>
    intro a w hfr hG hd
    obtain ⟨d0, d1, _⟩ := hd
    refine ⟨fun hw => ?_, fun hw => absurd hw (by simp [Region.wanted])⟩
    have s28 : a.tmps.getD 28 undef = .agg #[.slice kb.A kb.qs.length kb.c, .slice kb.A2 kb.n2 kb.c2] := (d0 rfl).now
    refine op_calls2 ((vec_v hG.now.okb hG.now.bel.size).mono fun e' w' hh => ?_) (by simp only [execOp, resolve, List.map_toArray, List.map_cons, List.map_nil, Act.eval, s28]; simp [go_sem, -Array.getD_eq_getD_getElem?, s28]); obtain ⟨v, h1, h2, h3⟩ := hh; exact ⟨v, h1, h3, fun W' hW' => h2.below hW'⟩
  case o4 =>
    intro a w hfr hG hd
    obtain ⟨d0, d1, d2, d3, d4, d5, _⟩ := hd
    refine ⟨fun hw => ?_, fun hw => absurd hw (by simp [Region.wanted])⟩
    have p27 : Hold (fun a b => Below a.heap.size a b) (fun W => VAt (vecF ka) (a.tmps.getD 27 undef) W) w := d0 rfl
    refine op_yields (a.tmps.getD 27 undef) ?_ ?_ ?_
    · simp only [execOp, Act.eval]; rfl
    · exact Below.refl _ _
    · exact p27
  case o5 =>
    intro a w hfr hG hd
    obtain ⟨d0, d1, d2, d3, d4, d5, d6, _⟩ := hd
    refine ⟨fun hw => ?_, fun hw => absurd hw (by simp [Region.wanted])⟩
    have p29 : Hold (fun a b => Below a.heap.size a b) (fun W => VAt (vecF kb) (a.tmps.getD 29 undef) W) w := d0 rfl
    refine op_yields (a.tmps.getD 29 undef) ?_ ?_ ?_
    · simp only [execOp, Act.eval]; rfl
    · exact Below.refl _ _
    · exact p29
  case hG => exact fun w' hb => HT.out.below ((Below.refl _ _).drew.trans (hb.mono (by simp)))
  case hend =>
    intro vs w1 hG hv
    have key : VAt (vecF ka) (vs 4) w1 ∧ VAt (vecF kb) (vs 5) w1 := by
      obtain ⟨_, _, _, _, h4, h5, _⟩ := hv
      exact ⟨h4.now, h5.now⟩
    obtain ⟨hva, hvb⟩ := key
    have hbz := hG.now.bel
    simp only [putAll, Act.put]
    clear hG hv HT
    generalize vs 4 = x at *
    generalize vs 5 = y at *
    have HFA := Lib.hid HPA.out.fine; have HFB := Lib.hid HPB.out.fine
    have HOA := Lib.hid HPA.out.sok; have HOB := Lib.hid HPB.out.sok
    have HS0 := Lib.hid (show VS w0 [(x, vecF ka), (y, vecF kb)] w1 from ⟨fun z hz => by
      simp only [List.mem_cons, List.not_mem_nil, or_false] at hz
      rcases hz with rfl | rfl
      · exact hva
      · exact hvb, hbz⟩)
    obtain ⟨Ax, cx, rx, rfl, hlx, hqx⟩ := hva
    obtain ⟨Ay, cy, ry, rfl, hly, hqy⟩ := hvb
    clear hlx hqx hly hqy hbz
    generalize rx.length = nx at *
    generalize ry.length = ny at *
    generalize vecF ka = ps at *
    generalize vecF kb = qs at *
    obtain ⟨⟨Lm, em⟩, hm⟩ : ∃ r, mathR km ps qs = r := ⟨_, rfl⟩
    have Hm := Lib.hid hm
    clear hm
    have tm : (em != em) = false := by simp
    have um : (em == em) = true := by simp
    obtain ⟨⟨Ls, es⟩, hs⟩ : ∃ r, scaleR km n first ps = r := ⟨_, rfl⟩
    have Hs := Lib.hid hs
    clear hs
    have ts : (es != es) = false := by simp
    have us : (es == es) = true := by simp
    obtain ⟨⟨Ls2, es2⟩, hs2⟩ : ∃ r, scaleR km n false ps = r := ⟨_, rfl⟩
    have Hs2 := Lib.hid hs2
    clear hs2
    have ts2 : (es2 != es2) = false := by simp
    have us2 : (es2 == es2) = true := by simp
    obtain ⟨⟨Lf, ef⟩, hf⟩ : ∃ r, filterR kc ps qs = r := ⟨_, rfl⟩
    have Hf := Lib.hid hf
    clear hf
    have tf : (ef != ef) = false := by simp
    have uf : (ef == ef) = true := by simp
    obtain ⟨⟨Ll, el⟩, hl⟩ : ∃ r, logicR kl ps qs = r := ⟨_, rfl⟩
    have Hl := Lib.hid hl
    clear hl
    have tl : (el != el) = false := by simp
    have ul : (el == el) = true := by simp
    obtain ⟨⟨Lg, eg⟩, hg⟩ : ∃ r, groupR ko ns ps = r := ⟨_, rfl⟩
    have Hg := Lib.hid hg
    clear hg
    have tg : (eg != eg) = false := by simp
    have ug : (eg == eg) = true := by simp
    go_simp
    go_wp2_with fail
    (with_reducible refine (HW1.out _).mono ?_); rintro e wz ⟨rfl, rfl⟩
    go_wp2_with fail
    (with_reducible refine (HW2.out _).mono ?_); rintro e wz ⟨rfl, rfl⟩
    go_wp2_with fail
    (with_reducible refine (HW3.out _).mono ?_); rintro e wz ⟨rfl, rfl⟩
    go_wp2_with fail
    (with_reducible refine (HW4.out _).mono ?_); rintro e wz ⟨rfl, rfl⟩
    clear HW1 HW2 HW3 HW4
    go_wp2_with fail
    (with_reducible refine (math_v km Hm.out (HS0.out.at (List.mem_cons_self)) (HS0.out.at (List.mem_cons_of_mem _ (List.mem_cons_self))) (by omega) HFA.out HFB.out).mono ?_); rintro e wv1 ⟨pm, rfl, hv, hb⟩
    have HS1 := Lib.hid (HS0.out.add hv hb)
    clear hv hb HS0
    go_wp2_with fail
    (with_reducible refine result_v.mono ?_); rintro e wv2 ⟨rfl, hb⟩
    have HS2 := Lib.hid (HS1.out.below hb)
    clear hb HS1
    go_wp2_with fail
    (with_reducible refine result_v.mono ?_); rintro e wv3 ⟨rfl, hb⟩
    have HS3 := Lib.hid (HS2.out.below hb)
    clear hb HS2
    go_wp2_with fail
    (with_reducible refine (two_mm_v km Hm.out (HS3.out.at (List.mem_cons_of_mem _ (List.mem_cons_self))) (HS3.out.at (List.mem_cons_of_mem _ (List.mem_cons_of_mem _ (List.mem_cons_self)))) (by omega) (by omega) HOA.out HOB.out HKM.out.1 HKM.out.2).mono ?_); rintro e wv4 ⟨ty4, v4, rfl, hv, hb⟩
    have HS4 := Lib.hid (HS3.out.add hv hb)
    obtain ⟨Awm, cwm, rwm, rfl, hlwm, hqwm⟩ := hv
    clear hb HS3 hlwm hqwm
    generalize rwm.length = nwm at *
    have HS5 := Lib.hid (TS.start HS4.out (.int .i64 ty4) (.int .i64 0) (.slice Awm nwm cwm))
    go_upto_region 6 with fail
    obtain ⟨bx, hbx⟩ : ∃ b, wv4.heap.size = b := ⟨_, rfl⟩
    rw [hbx] at HS5
    rw [hbx]
    clear hbx HS4
    generalize wv4.alloc (.cells #[.int .i64 ty4, .int .i64 0, .slice Awm nwm cwm] 41) = wz4 at *
    have q2 := HS5.out.box.cell 2
    simp only [List.getElem?_cons_zero, List.getElem?_cons_succ] at q2
    go_wp2_with fail
    clear q2
    (with_reducible refine (points_v (HS5.out.at (List.mem_cons_of_mem _ (List.mem_cons_self))) (HS5.out.at (List.mem_cons_self))).mono ?_); rintro e wv5 ⟨rfl, hb⟩
    have HS6 := Lib.hid (HS5.out.below hb)
    clear hb HS5
    rw [decide_eq_true rfl]
    go_wp2_with fail
    (with_reducible refine (scale_v km n first Hs.out (HS6.out.at (List.mem_cons_of_mem _ (List.mem_cons_of_mem _ (List.mem_cons_self)))) (by omega) HFA.out HWN.out).mono ?_); rintro e wv6 ⟨psc, rfl, hv, hb⟩
    have HS7 := Lib.hid (HS6.out.add hv hb)
    clear hv hb HS6
    go_wp2_with fail
    (with_reducible refine result_v.mono ?_); rintro e wv7 ⟨rfl, hb⟩
    have HS8 := Lib.hid (HS7.out.below hb)
    clear hb HS7
    go_wp2_with fail
    (with_reducible refine (two_vn_v km n Hs2.out (HS8.out.at (List.mem_cons_of_mem _ (List.mem_cons_of_mem _ (List.mem_cons_of_mem _ (List.mem_cons_self))))) (by omega) HOA.out HWN.out HKM.out.1 HKM.out.2).mono ?_); rintro e wv8 ⟨ty8, v8, rfl, hv, hb⟩
    have HS9 := Lib.hid (HS8.out.add hv hb)
    obtain ⟨Aws, cws, rws, rfl, hlws, hqws⟩ := hv
    clear hb HS8 hlws hqws
    generalize rws.length = nws at *
    have HS10 := Lib.hid (HS9.out.store (.int .i64 ty8) (.int .i64 0) (.slice Aws nws cws))
    obtain ⟨⟨b0, b1, b2⟩, y0, y1, y2⟩ := two_cells HS9.out.box (.int .i64 ty8) (.int .i64 0)
    go_upto_region 10 with fail
    clear b0 b1 b2 y0 y1 y2 HS9
    generalize ((wv8.setCell ⟨bx, 0, none⟩ (.int .i64 ty8)).setCell ⟨bx, 1, none⟩ (.int .i64 0)).setCell ⟨bx, 2, none⟩ (.slice Aws nws cws) = wz8 at *
    cases first with
    | true =>
      go_wp2_with fail
      (with_reducible refine result_v.mono ?_); rintro e wv9 ⟨rfl, hb⟩
      have HS11 := Lib.hid (HS10.out.below hb)
      clear hb HS10
      go_wp2_with fail
      (with_reducible refine (two_nv_v km n Hs.out (HS11.out.at (List.mem_cons_of_mem _ (List.mem_cons_of_mem _ (List.mem_cons_of_mem _ (List.mem_cons_of_mem _ (List.mem_cons_self)))))) (by omega) HOA.out HWN.out HKM.out.1 HKM.out.2).mono ?_); rintro e wv10 ⟨ty10, v10, rfl, hv, hb⟩
      have HS12 := Lib.hid (HS11.out.add hv hb)
      obtain ⟨Awn, cwn, rwn, rfl, hlwn, hqwn⟩ := hv
      clear hb HS11 hlwn hqwn
      generalize rwn.length = nwn at *
      have HS13 := Lib.hid (HS12.out.store (.int .i64 ty10) (.int .i64 0) (.slice Awn nwn cwn))
      obtain ⟨⟨b0, b1, b2⟩, y0, y1, y2⟩ := two_cells HS12.out.box (.int .i64 ty10) (.int .i64 0)
      go_upto_region 12 with fail
      clear b0 b1 b2 y0 y1 y2 HS12
      generalize ((wv10.setCell ⟨bx, 0, none⟩ (.int .i64 ty10)).setCell ⟨bx, 1, none⟩ (.int .i64 0)).setCell ⟨bx, 2, none⟩ (.slice Awn nwn cwn) = wz10 at *
      have q2 := HS13.out.box.cell 2
      simp only [List.getElem?_cons_zero, List.getElem?_cons_succ] at q2
      go_wp2_with fail
      clear q2
      (with_reducible refine (points_v (HS13.out.at (List.mem_cons_of_mem _ (List.mem_cons_of_mem _ (List.mem_cons_self)))) (HS13.out.at (List.mem_cons_self))).mono ?_); rintro e wv11 ⟨rfl, hb⟩
      have HS14 := Lib.hid (HS13.out.below hb)
      clear hb HS13
      rw [decide_eq_true rfl]
      go_wp2_with fail
      (with_reducible refine (filter_v kc Hf.out (HS14.out.at (List.mem_cons_of_mem _ (List.mem_cons_of_mem _ (List.mem_cons_of_mem _ (List.mem_cons_of_mem _ (List.mem_cons_of_mem _ (List.mem_cons_self))))))) (HS14.out.at (List.mem_cons_of_mem _ (List.mem_cons_of_mem _ (List.mem_cons_of_mem _ (List.mem_cons_of_mem _ (List.mem_cons_of_mem _ (List.mem_cons_of_mem _ (List.mem_cons_self)))))))) (by omega) HFA.out HFB.out).mono ?_); rintro e wv12 ⟨pf, rfl, hv, hb⟩
      have HS15 := Lib.hid (HS14.out.add hv hb)
      clear hv hb HS14
      go_wp2_with fail
      (with_reducible refine result_v.mono ?_); rintro e wv13 ⟨rfl, hb⟩
      have HS16 := Lib.hid (HS15.out.below hb)
      clear hb HS15
      go_wp2_with fail
      (with_reducible refine result_v.mono ?_); rintro e wv14 ⟨rfl, hb⟩
      have HS17 := Lib.hid (HS16.out.below hb)
      clear hb HS16
      go_wp2_with fail
      (with_reducible refine (two_cc_v kc Hf.out (HS17.out.at (List.mem_cons_of_mem _ (List.mem_cons_of_mem _ (List.mem_cons_of_mem _ (List.mem_cons_of_mem _ (List.mem_cons_of_mem _ (List.mem_cons_of_mem _ (List.mem_cons_self)))))))) (HS17.out.at (List.mem_cons_of_mem _ (List.mem_cons_of_mem _ (List.mem_cons_of_mem _ (List.mem_cons_of_mem _ (List.mem_cons_of_mem _ (List.mem_cons_of_mem _ (List.mem_cons_of_mem _ (List.mem_cons_self))))))))) (by omega) (by omega) HOA.out HOB.out HKC.out.1 HKC.out.2).mono ?_); rintro e wv15 ⟨ty15, v15, rfl, hv, hb⟩
      have HS18 := Lib.hid (HS17.out.add hv hb)
      obtain ⟨Awf, cwf, rwf, rfl, hlwf, hqwf⟩ := hv
      clear hb HS17 hlwf hqwf
      generalize rwf.length = nwf at *
      have HS19 := Lib.hid (HS18.out.store (.int .i64 ty15) (.int .i64 0) (.slice Awf nwf cwf))
      obtain ⟨⟨b0, b1, b2⟩, y0, y1, y2⟩ := two_cells HS18.out.box (.int .i64 ty15) (.int .i64 0)
      go_upto_region 16 with fail
      clear b0 b1 b2 y0 y1 y2 HS18
      generalize ((wv15.setCell ⟨bx, 0, none⟩ (.int .i64 ty15)).setCell ⟨bx, 1, none⟩ (.int .i64 0)).setCell ⟨bx, 2, none⟩ (.slice Awf nwf cwf) = wz15 at *
      have q2 := HS19.out.box.cell 2
      simp only [List.getElem?_cons_zero, List.getElem?_cons_succ] at q2
      go_wp2_with fail
      clear q2
      (with_reducible refine (points_v (HS19.out.at (List.mem_cons_of_mem _ (List.mem_cons_self))) (HS19.out.at (List.mem_cons_self))).mono ?_); rintro e wv16 ⟨rfl, hb⟩
      have HS20 := Lib.hid (HS19.out.below hb)
      clear hb HS19
      rw [decide_eq_true rfl]
      go_wp2_with fail
      (with_reducible refine result_v.mono ?_); rintro e wv17 ⟨rfl, hb⟩
      have HS21 := Lib.hid (HS20.out.below hb)
      clear hb HS20
      go_wp2_with fail
      (with_reducible refine (two_cn_v kc n (HS21.out.at (List.mem_cons_of_mem _ (List.mem_cons_of_mem _ (List.mem_cons_of_mem _ (List.mem_cons_of_mem _ (List.mem_cons_of_mem _ (List.mem_cons_of_mem _ (List.mem_cons_of_mem _ (List.mem_cons_self))))))))) (by omega) HOA.out HWN.out HKC.out.1 HKC.out.2).mono ?_); rintro e wv18 ⟨ty18, v18, rfl, hv, hb⟩
      have HS22 := Lib.hid (HS21.out.add hv hb)
      obtain ⟨Awc, cwc, rwc, rfl, hlwc, hqwc⟩ := hv
      clear hb HS21 hlwc hqwc
      generalize rwc.length = nwc at *
      have HS23 := Lib.hid (HS22.out.store (.int .i64 ty18) (.int .i64 0) (.slice Awc nwc cwc))
      obtain ⟨⟨b0, b1, b2⟩, y0, y1, y2⟩ := two_cells HS22.out.box (.int .i64 ty18) (.int .i64 0)
      go_upto_region 19 with fail
      clear b0 b1 b2 y0 y1 y2 HS22
      generalize ((wv18.setCell ⟨bx, 0, none⟩ (.int .i64 ty18)).setCell ⟨bx, 1, none⟩ (.int .i64 0)).setCell ⟨bx, 2, none⟩ (.slice Awc nwc cwc) = wz18 at *
      refine wp_region_facts (R := fun a b => Below a.heap.size a b) (G := (fun W => TS w0 [(.slice Awc nwc cwc, (sortP (aboveF kc n ps))), (.slice Awf nwf cwf, Lf), (pf, Lf), (.slice Awn nwn cwn, Ls), (.slice Aws nws cws, Ls2), (psc, Ls), (.slice Awm nwm cwm, Lm), (pm, Lm), (.slice Ax nx cx, ps), (.slice Ay ny cy, qs)] bx (.int .i64 ty18) (.int .i64 0) (.slice Awc nwc cwc) W)) (V := fun i' u' W => match i' with | 0 => u' = .int .i64 kc | 1 => u' = .slice Ax nx cx | 2 => u' = .int .i64 n | 3 => VAt (sortP (aboveF kc n ps)) u' W | 4 => u' = .pointer (some ⟨bx, 2, none⟩) | 5 => u' = .slice Awc nwc cwc | 6 => u' = .bool true | 7 => u' = .bool false | _ => True) (by kernel_rfl) (fun w => Below.refl _ _) (fun a b c h1 h2 => h1.trans (h2.mono h1.size)) (by kernel_rfl) (by kernel_rfl) ?hG ⟨?o0, ?o1, ?o2, ?o3, ?o4, ?o5, ?o6, ?o7, trivial⟩ ?hend
      case o0 =>
        intro a w hfr hG hd
        refine ⟨fun hw => ?_, fun hw => absurd hw (by simp [Region.wanted])⟩
        have s17 : a.tmps.getD 17 undef = .int .i64 kc := hfr.at 17 (by kernel_rfl)
        refine op_yields (.int .i64 kc) ?_ ?_ ?_
        · simp only [execOp, resolve, List.map_toArray, List.map_cons, List.map_nil, Act.eval, s17]; simp [go_sem, -Array.getD_eq_getD_getElem?, s17]
        · exact Below.refl _ _
        · exact (fun _ _ => rfl)
      case o1 =>
        intro a w hfr hG hd
        refine ⟨fun hw => ?_, fun hw => absurd hw (by simp [Region.wanted])⟩
        have s13 : a.tmps.getD 13 undef = .slice Ax nx cx := hfr.at 13 (by kernel_rfl)
        refine op_yields (.slice Ax nx cx) ?_ ?_ ?_
        · simp only [execOp, resolve, List.map_toArray, List.map_cons, List.map_nil, Act.eval, s13]; simp [go_sem, -Array.getD_eq_getD_getElem?, s13]
        · exact Below.refl _ _
        · exact (fun _ _ => rfl)
      case o2 =>
        intro a w hfr hG hd
        refine ⟨fun hw => ?_, fun hw => absurd hw (by simp [Region.wanted])⟩
        have s3 : a.tmps.getD 3 undef = .int .i64 n := hfr.at 3 (by kernel_rfl)
        refine op_yields (.int .i64 n) ?_ ?_ ?_
        · simp only [execOp, resolve, List.map_toArray, List.map_cons, List.map_nil, Act.eval, s3]; simp [go_sem, -Array.getD_eq_getD_getElem?, s3]
        · exact Below.refl _ _
        · exact (fun _ _ => rfl)
      case o3 =>
        intro a w hfr hG hd
        obtain ⟨d0, d1, d2, _⟩ := hd
        refine ⟨fun hw => ?_, fun hw => absurd hw (by simp [Region.wanted])⟩
        have s141 : a.tmps.getD 141 undef = .int .i64 kc := (d0 rfl).now
        have s142 : a.tmps.getD 142 undef = .slice Ax nx cx := (d1 rfl).now
        have s143 : a.tmps.getD 143 undef = .int .i64 n := (d2 rfl).now
        refine op_calls2 ((above_v kc n (hG.now.at (List.mem_cons_of_mem _ (List.mem_cons_of_mem _ (List.mem_cons_of_mem _ (List.mem_cons_of_mem _ (List.mem_cons_of_mem _ (List.mem_cons_of_mem _ (List.mem_cons_of_mem _ (List.mem_cons_of_mem _ (List.mem_cons_self)))))))))) (by omega) HFA.out).mono fun e' w' hh => ?_) (by simp only [execOp, resolve, List.map_toArray, List.map_cons, List.map_nil, Act.eval, s141, s142, s143]; simp [go_sem, -Array.getD_eq_getD_getElem?, s141, s142, s143]); obtain ⟨v, h1, h2, h3⟩ := hh; exact ⟨v, h1, h3, fun W' hW' => h2.below hW'⟩
      case o4 =>
        intro a w hfr hG hd
        refine ⟨fun hw => ?_, fun hw => absurd hw (by simp [Region.wanted])⟩
        have s22 : a.tmps.getD 22 undef = .pointer (some ⟨bx, 0, none⟩) := hfr.at 22 (by kernel_rfl)
        refine op_yields (.pointer (some ⟨bx, 2, none⟩)) ?_ ?_ ?_
        · simp only [execOp, resolve, List.map_toArray, List.map_cons, List.map_nil, Act.eval, s22]; simp [go_sem, -Array.getD_eq_getD_getElem?, s22]
        · exact Below.refl _ _
        · exact (fun _ _ => rfl)
      case o5 =>
        intro a w hfr hG hd
        obtain ⟨d0, _⟩ := hd
        refine ⟨fun hw => ?_, fun hw => absurd hw (by simp [Region.wanted])⟩
        have s145 : a.tmps.getD 145 undef = .pointer (some ⟨bx, 2, none⟩) := (d0 rfl).now
        have q2 := hG.now.box.cell 2; simp only [List.getElem?_cons_zero, List.getElem?_cons_succ] at q2
        refine op_yields (.slice Awc nwc cwc) ?_ ?_ ?_
        · simp only [execOp, resolve, List.map_toArray, List.map_cons, List.map_nil, Act.eval, s145]; simp [go_sem, -Array.getD_eq_getD_getElem?, s145, q2]
        · exact Below.refl _ _
        · exact (fun _ _ => rfl)
      case o6 =>
        intro a w hfr hG hd
        obtain ⟨d0, d1, d2, _⟩ := hd
        refine ⟨fun hw => ?_, fun hw => absurd hw (by simp [Region.wanted])⟩
        have p144 : Hold (fun a b => Below a.heap.size a b) (fun W => VAt (sortP (aboveF kc n ps)) (a.tmps.getD 144 undef) W) w := d0 rfl
        have s146 : a.tmps.getD 146 undef = .slice Awc nwc cwc := (d1 rfl).now
        refine op_calls2 ((show Calls _ _ _ w (fun e w' => e = .returned (.bool true) ∧ Below w.heap.size w w') from by have h := points_v p144.now (hG.now.at (List.mem_cons_self)); rwa [decide_eq_true rfl] at h).mono fun e' w' hh => ⟨_, hh.1, hh.2, (fun _ _ => rfl)⟩) ?_
        simp only [execOp, resolve, List.map_toArray, List.map_cons, List.map_nil, Act.eval, s146]; simp [go_sem, -Array.getD_eq_getD_getElem?, s146]
      case o7 =>
        intro a w hfr hG hd
        obtain ⟨d0, _⟩ := hd
        refine ⟨fun hw => ?_, fun hw => absurd hw (by simp [Region.wanted])⟩
        have s147 : a.tmps.getD 147 undef = .bool true := (d0 rfl).now
        refine op_yields (.bool false) ?_ ?_ ?_
        · simp only [execOp, resolve, List.map_toArray, List.map_cons, List.map_nil, Act.eval, s147]; simp [go_sem, -Array.getD_eq_getD_getElem?, s147]
        · exact Below.refl _ _
        · exact (fun _ _ => rfl)
      case hG => exact fun w' hb => HS23.out.below ((Below.refl _ _).drew.trans (hb.mono (by simp)))
      case hend =>
        intro vs9 wq hG hv
        have key : vs9 7 = .bool false := by
          obtain ⟨_, _, _, _, _, _, _, h7, _⟩ := hv
          exact h7.now
        have HS24 := Lib.hid hG.now
        clear hv hG HS23
        simp only [putAll, Act.put, key]
        clear key
        go_simp
        go_wp2_with fail
        (with_reducible refine (logic_v kl Hl.out (HS24.out.at (List.mem_cons_of_mem _ (List.mem_cons_of_mem _ (List.mem_cons_of_mem _ (List.mem_cons_of_mem _ (List.mem_cons_of_mem _ (List.mem_cons_of_mem _ (List.mem_cons_of_mem _ (List.mem_cons_of_mem _ (List.mem_cons_self)))))))))) (HS24.out.at (List.mem_cons_of_mem _ (List.mem_cons_of_mem _ (List.mem_cons_of_mem _ (List.mem_cons_of_mem _ (List.mem_cons_of_mem _ (List.mem_cons_of_mem _ (List.mem_cons_of_mem _ (List.mem_cons_of_mem _ (List.mem_cons_of_mem _ (List.mem_cons_self))))))))))) (by omega) HFA.out HFB.out).mono ?_); rintro e wv19 ⟨pl, rfl, hv, hb⟩
        have HS25 := Lib.hid (HS24.out.add hv hb)
        clear hv hb HS24
        go_wp2_with fail
        (with_reducible refine result_v.mono ?_); rintro e wv20 ⟨rfl, hb⟩
        have HS26 := Lib.hid (HS25.out.below hb)
        clear hb HS25
        go_wp2_with fail
        (with_reducible refine result_v.mono ?_); rintro e wv21 ⟨rfl, hb⟩
        have HS27 := Lib.hid (HS26.out.below hb)
        clear hb HS26
        go_wp2_with fail
        (with_reducible refine (two_ll_v kl Hl.out (HS27.out.at (List.mem_cons_of_mem _ (List.mem_cons_of_mem _ (List.mem_cons_of_mem _ (List.mem_cons_of_mem _ (List.mem_cons_of_mem _ (List.mem_cons_of_mem _ (List.mem_cons_of_mem _ (List.mem_cons_of_mem _ (List.mem_cons_of_mem _ (List.mem_cons_self))))))))))) (HS27.out.at (List.mem_cons_of_mem _ (List.mem_cons_of_mem _ (List.mem_cons_of_mem _ (List.mem_cons_of_mem _ (List.mem_cons_of_mem _ (List.mem_cons_of_mem _ (List.mem_cons_of_mem _ (List.mem_cons_of_mem _ (List.mem_cons_of_mem _ (List.mem_cons_of_mem _ (List.mem_cons_self)))))))))))) (by omega) (by omega) HOA.out HOB.out HKL.out.1 HKL.out.2).mono ?_); rintro e wv22 ⟨ty22, v22, rfl, hv, hb⟩
        have HS28 := Lib.hid (HS27.out.add hv hb)
        obtain ⟨Awl, cwl, rwl, rfl, hlwl, hqwl⟩ := hv
        clear hb HS27 hlwl hqwl
        generalize rwl.length = nwl at *
        have HS29 := Lib.hid (HS28.out.store (.int .i64 ty22) (.int .i64 0) (.slice Awl nwl cwl))
        obtain ⟨⟨b0, b1, b2⟩, y0, y1, y2⟩ := two_cells HS28.out.box (.int .i64 ty22) (.int .i64 0)
        go_upto_region 23 with fail
        clear b0 b1 b2 y0 y1 y2 HS28
        generalize ((wv22.setCell ⟨bx, 0, none⟩ (.int .i64 ty22)).setCell ⟨bx, 1, none⟩ (.int .i64 0)).setCell ⟨bx, 2, none⟩ (.slice Awl nwl cwl) = wz22 at *
        have q2 := HS29.out.box.cell 2
        simp only [List.getElem?_cons_zero, List.getElem?_cons_succ] at q2
        go_wp2_with fail
        clear q2
        (with_reducible refine (points_v (HS29.out.at (List.mem_cons_of_mem _ (List.mem_cons_self))) (HS29.out.at (List.mem_cons_self))).mono ?_); rintro e wv23 ⟨rfl, hb⟩
        have HS30 := Lib.hid (HS29.out.below hb)
        clear hb HS29
        rw [decide_eq_true rfl]
        go_wp2_with fail
        (with_reducible refine (group_v ko AN mn cn ns Hg.out (HNS.out _ HS30.out.vs.bel) HM4.out (HS30.out.at (List.mem_cons_of_mem _ (List.mem_cons_of_mem _ (List.mem_cons_of_mem _ (List.mem_cons_of_mem _ (List.mem_cons_of_mem _ (List.mem_cons_of_mem _ (List.mem_cons_of_mem _ (List.mem_cons_of_mem _ (List.mem_cons_of_mem _ (List.mem_cons_of_mem _ (List.mem_cons_self)))))))))))) (by omega) HFA.out).mono ?_); rintro e wv24 ⟨pg, rfl, hv, hb⟩
        have HS31 := Lib.hid (HS30.out.add hv hb)
        clear hv hb HS30
        go_wp2_with fail
        (with_reducible refine (group_rv ko AN mn cn ns Hg.out (HNS.out _ HS31.out.vs.bel) HM4.out (HS31.out.at (List.mem_cons_of_mem _ (List.mem_cons_of_mem _ (List.mem_cons_of_mem _ (List.mem_cons_of_mem _ (List.mem_cons_of_mem _ (List.mem_cons_of_mem _ (List.mem_cons_of_mem _ (List.mem_cons_of_mem _ (List.mem_cons_of_mem _ (List.mem_cons_of_mem _ (List.mem_cons_of_mem _ (List.mem_cons_self))))))))))))) (by omega) HOA.out HKO.out.1 HKO.out.2).mono ?_); rintro e wv25 ⟨pr, rfl, hv, hb⟩
        have HS32 := Lib.hid (HS31.out.add hv hb)
        clear hv hb HS31
        go_wp2_with fail
        (with_reducible refine (points_v (HS32.out.at (List.mem_cons_of_mem _ (List.mem_cons_self))) (HS32.out.at (List.mem_cons_self))).mono ?_); rintro e wv26 ⟨rfl, hb⟩
        have HS33 := Lib.hid (HS32.out.below hb)
        clear hb HS32
        rw [decide_eq_true rfl]
        go_wp2_with fail
        (with_reducible refine (sort_v (HS33.out.at (List.mem_cons_of_mem _ (List.mem_cons_of_mem _ (List.mem_cons_of_mem _ (List.mem_cons_of_mem _ (List.mem_cons_of_mem _ (List.mem_cons_of_mem _ (List.mem_cons_of_mem _ (List.mem_cons_of_mem _ (List.mem_cons_of_mem _ (List.mem_cons_of_mem _ (List.mem_cons_of_mem _ (List.mem_cons_of_mem _ (List.mem_cons_self)))))))))))))) (by omega) HFA.out).mono ?_); rintro e wv27 ⟨sx, rfl, hv, hb⟩
        have HS34 := Lib.hid (HS33.out.add hv hb)
        clear hv hb HS33
        go_wp2_with fail
        (with_reducible refine (sorted_v (HS34.out.at (List.mem_cons_of_mem _ (List.mem_cons_of_mem _ (List.mem_cons_of_mem _ (List.mem_cons_of_mem _ (List.mem_cons_of_mem _ (List.mem_cons_of_mem _ (List.mem_cons_of_mem _ (List.mem_cons_of_mem _ (List.mem_cons_of_mem _ (List.mem_cons_of_mem _ (List.mem_cons_of_mem _ (List.mem_cons_of_mem _ (List.mem_cons_of_mem _ (List.mem_cons_self))))))))))))))) (by omega) HOA.out).mono ?_); rintro e wv28 ⟨sr, rfl, hv, hb⟩
        have HS35 := Lib.hid (HS34.out.add hv hb)
        clear hv hb HS34
        go_wp2_with fail
        (with_reducible refine (points_v (HS35.out.at (List.mem_cons_of_mem _ (List.mem_cons_self))) (HS35.out.at (List.mem_cons_self))).mono ?_); rintro e wv29 ⟨rfl, hb⟩
        have HS36 := Lib.hid (HS35.out.below hb)
        clear hb HS35
        rw [decide_eq_true rfl]
        go_wp2_with fail
        obtain ⟨bq, hbq⟩ : ∃ b, decide (ps = qs) = b := ⟨_, rfl⟩
        have HBQ := Lib.hid hbq
        have tbq : (bq == bq) = true := by cases bq <;> rfl
        clear hbq
        (with_reducible refine (same_v (HS36.out.at (List.mem_cons_of_mem _ (List.mem_cons_of_mem _ (List.mem_cons_of_mem _ (List.mem_cons_of_mem _ (List.mem_cons_of_mem _ (List.mem_cons_of_mem _ (List.mem_cons_of_mem _ (List.mem_cons_of_mem _ (List.mem_cons_of_mem _ (List.mem_cons_of_mem _ (List.mem_cons_of_mem _ (List.mem_cons_of_mem _ (List.mem_cons_of_mem _ (List.mem_cons_of_mem _ (List.mem_cons_self)))))))))))))))) (HS36.out.at (List.mem_cons_of_mem _ (List.mem_cons_of_mem _ (List.mem_cons_of_mem _ (List.mem_cons_of_mem _ (List.mem_cons_of_mem _ (List.mem_cons_of_mem _ (List.mem_cons_of_mem _ (List.mem_cons_of_mem _ (List.mem_cons_of_mem _ (List.mem_cons_of_mem _ (List.mem_cons_of_mem _ (List.mem_cons_of_mem _ (List.mem_cons_of_mem _ (List.mem_cons_of_mem _ (List.mem_cons_of_mem _ (List.mem_cons_self)))))))))))))))))).mono ?_); rintro e wv30 ⟨rfl, hb⟩
        have HS37 := Lib.hid (HS36.out.below hb)
        clear hb HS36
        rw [HBQ.out]
        go_wp2_with fail
        (with_reducible refine (points_v (HS37.out.at (List.mem_cons_of_mem _ (List.mem_cons_of_mem _ (List.mem_cons_of_mem _ (List.mem_cons_of_mem _ (List.mem_cons_of_mem _ (List.mem_cons_of_mem _ (List.mem_cons_of_mem _ (List.mem_cons_of_mem _ (List.mem_cons_of_mem _ (List.mem_cons_of_mem _ (List.mem_cons_of_mem _ (List.mem_cons_of_mem _ (List.mem_cons_of_mem _ (List.mem_cons_of_mem _ (List.mem_cons_self)))))))))))))))) (HS37.out.at (List.mem_cons_of_mem _ (List.mem_cons_of_mem _ (List.mem_cons_of_mem _ (List.mem_cons_of_mem _ (List.mem_cons_of_mem _ (List.mem_cons_of_mem _ (List.mem_cons_of_mem _ (List.mem_cons_of_mem _ (List.mem_cons_of_mem _ (List.mem_cons_of_mem _ (List.mem_cons_of_mem _ (List.mem_cons_of_mem _ (List.mem_cons_of_mem _ (List.mem_cons_of_mem _ (List.mem_cons_of_mem _ (List.mem_cons_self)))))))))))))))))).mono ?_); rintro e wv31 ⟨rfl, hb⟩
        have HS38 := Lib.hid (HS37.out.below hb)
        clear hb HS37
        rw [HBQ.out]
        go_wp2_with fail
        (with_reducible refine (HRN.out wv31).mono ?_); rintro e wv32 ⟨rfl, hb⟩
        have HS39 := Lib.hid (HS38.out.below hb)
        clear hb HS38
        go_wp2_with fail
        go_ret
        exact ⟨rfl, HS39.out.vs.bel⟩
    | false =>
      have hss : Ls2 = Ls ∧ es2 = es := by
        have h := Hs.out.symm.trans Hs2.out
        injection h with h1 h2
        exact ⟨h1.symm, h2.symm⟩
      obtain ⟨rfl, rfl⟩ := hss
      go_upto_region 12 with fail
      have q2 := HS10.out.box.cell 2
      simp only [List.getElem?_cons_zero, List.getElem?_cons_succ] at q2
      go_wp2_with fail
      clear q2
      (with_reducible refine (points_v (HS10.out.at (List.mem_cons_of_mem _ (List.mem_cons_self))) (HS10.out.at (List.mem_cons_self))).mono ?_); rintro e wv9 ⟨rfl, hb⟩
      have HS11 := Lib.hid (HS10.out.below hb)
      clear hb HS10
      rw [decide_eq_true rfl]
      go_wp2_with fail
      (with_reducible refine (filter_v kc Hf.out (HS11.out.at (List.mem_cons_of_mem _ (List.mem_cons_of_mem _ (List.mem_cons_of_mem _ (List.mem_cons_of_mem _ (List.mem_cons_self)))))) (HS11.out.at (List.mem_cons_of_mem _ (List.mem_cons_of_mem _ (List.mem_cons_of_mem _ (List.mem_cons_of_mem _ (List.mem_cons_of_mem _ (List.mem_cons_self))))))) (by omega) HFA.out HFB.out).mono ?_); rintro e wv10 ⟨pf, rfl, hv, hb⟩
      have HS12 := Lib.hid (HS11.out.add hv hb)
      clear hv hb HS11
      go_wp2_with fail
      (with_reducible refine result_v.mono ?_); rintro e wv11 ⟨rfl, hb⟩
      have HS13 := Lib.hid (HS12.out.below hb)
      clear hb HS12
      go_wp2_with fail
      (with_reducible refine result_v.mono ?_); rintro e wv12 ⟨rfl, hb⟩
      have HS14 := Lib.hid (HS13.out.below hb)
      clear hb HS13
      go_wp2_with fail
      (with_reducible refine (two_cc_v kc Hf.out (HS14.out.at (List.mem_cons_of_mem _ (List.mem_cons_of_mem _ (List.mem_cons_of_mem _ (List.mem_cons_of_mem _ (List.mem_cons_of_mem _ (List.mem_cons_self))))))) (HS14.out.at (List.mem_cons_of_mem _ (List.mem_cons_of_mem _ (List.mem_cons_of_mem _ (List.mem_cons_of_mem _ (List.mem_cons_of_mem _ (List.mem_cons_of_mem _ (List.mem_cons_self)))))))) (by omega) (by omega) HOA.out HOB.out HKC.out.1 HKC.out.2).mono ?_); rintro e wv13 ⟨ty13, v13, rfl, hv, hb⟩
      have HS15 := Lib.hid (HS14.out.add hv hb)
      obtain ⟨Awf, cwf, rwf, rfl, hlwf, hqwf⟩ := hv
      clear hb HS14 hlwf hqwf
      generalize rwf.length = nwf at *
      have HS16 := Lib.hid (HS15.out.store (.int .i64 ty13) (.int .i64 0) (.slice Awf nwf cwf))
      obtain ⟨⟨b0, b1, b2⟩, y0, y1, y2⟩ := two_cells HS15.out.box (.int .i64 ty13) (.int .i64 0)
      go_upto_region 16 with fail
      clear b0 b1 b2 y0 y1 y2 HS15
      generalize ((wv13.setCell ⟨bx, 0, none⟩ (.int .i64 ty13)).setCell ⟨bx, 1, none⟩ (.int .i64 0)).setCell ⟨bx, 2, none⟩ (.slice Awf nwf cwf) = wz13 at *
      have q2 := HS16.out.box.cell 2
      simp only [List.getElem?_cons_zero, List.getElem?_cons_succ] at q2
      go_wp2_with fail
      clear q2
      (with_reducible refine (points_v (HS16.out.at (List.mem_cons_of_mem _ (List.mem_cons_self))) (HS16.out.at (List.mem_cons_self))).mono ?_); rintro e wv14 ⟨rfl, hb⟩
      have HS17 := Lib.hid (HS16.out.below hb)
      clear hb HS16
      rw [decide_eq_true rfl]
      go_wp2_with fail
      (with_reducible refine result_v.mono ?_); rintro e wv15 ⟨rfl, hb⟩
      have HS18 := Lib.hid (HS17.out.below hb)
      clear hb HS17
      go_wp2_with fail
      (with_reducible refine (two_cn_v kc n (HS18.out.at (List.mem_cons_of_mem _ (List.mem_cons_of_mem _ (List.mem_cons_of_mem _ (List.mem_cons_of_mem _ (List.mem_cons_of_mem _ (List.mem_cons_of_mem _ (List.mem_cons_self)))))))) (by omega) HOA.out HWN.out HKC.out.1 HKC.out.2).mono ?_); rintro e wv16 ⟨ty16, v16, rfl, hv, hb⟩
      have HS19 := Lib.hid (HS18.out.add hv hb)
      obtain ⟨Awc, cwc, rwc, rfl, hlwc, hqwc⟩ := hv
      clear hb HS18 hlwc hqwc
      generalize rwc.length = nwc at *
      have HS20 := Lib.hid (HS19.out.store (.int .i64 ty16) (.int .i64 0) (.slice Awc nwc cwc))
      obtain ⟨⟨b0, b1, b2⟩, y0, y1, y2⟩ := two_cells HS19.out.box (.int .i64 ty16) (.int .i64 0)
      go_upto_region 19 with fail
      clear b0 b1 b2 y0 y1 y2 HS19
      generalize ((wv16.setCell ⟨bx, 0, none⟩ (.int .i64 ty16)).setCell ⟨bx, 1, none⟩ (.int .i64 0)).setCell ⟨bx, 2, none⟩ (.slice Awc nwc cwc) = wz16 at *
      refine wp_region_facts (R := fun a b => Below a.heap.size a b) (G := (fun W => TS w0 [(.slice Awc nwc cwc, (sortP (aboveF kc n ps))), (.slice Awf nwf cwf, Lf), (pf, Lf), (.slice Aws nws cws, Ls2), (psc, Ls2), (.slice Awm nwm cwm, Lm), (pm, Lm), (.slice Ax nx cx, ps), (.slice Ay ny cy, qs)] bx (.int .i64 ty16) (.int .i64 0) (.slice Awc nwc cwc) W)) (V := fun i' u' W => match i' with | 0 => u' = .int .i64 kc | 1 => u' = .slice Ax nx cx | 2 => u' = .int .i64 n | 3 => VAt (sortP (aboveF kc n ps)) u' W | 4 => u' = .pointer (some ⟨bx, 2, none⟩) | 5 => u' = .slice Awc nwc cwc | 6 => u' = .bool true | 7 => u' = .bool false | _ => True) (by kernel_rfl) (fun w => Below.refl _ _) (fun a b c h1 h2 => h1.trans (h2.mono h1.size)) (by kernel_rfl) (by kernel_rfl) ?hG ⟨?o0, ?o1, ?o2, ?o3, ?o4, ?o5, ?o6, ?o7, trivial⟩ ?hend
      case o0 =>
        intro a w hfr hG hd
        refine ⟨fun hw => ?_, fun hw => absurd hw (by simp [Region.wanted])⟩
        have s17 : a.tmps.getD 17 undef = .int .i64 kc := hfr.at 17 (by kernel_rfl)
        refine op_yields (.int .i64 kc) ?_ ?_ ?_
        · simp only [execOp, resolve, List.map_toArray, List.map_cons, List.map_nil, Act.eval, s17]; simp [go_sem, -Array.getD_eq_getD_getElem?, s17]
        · exact Below.refl _ _
        · exact (fun _ _ => rfl)
      case o1 =>
        intro a w hfr hG hd
        refine ⟨fun hw => ?_, fun hw => absurd hw (by simp [Region.wanted])⟩
        have s13 : a.tmps.getD 13 undef = .slice Ax nx cx := hfr.at 13 (by kernel_rfl)
        refine op_yields (.slice Ax nx cx) ?_ ?_ ?_
        · simp only [execOp, resolve, List.map_toArray, List.map_cons, List.map_nil, Act.eval, s13]; simp [go_sem, -Array.getD_eq_getD_getElem?, s13]
        · exact Below.refl _ _
        · exact (fun _ _ => rfl)
      case o2 =>
        intro a w hfr hG hd
        refine ⟨fun hw => ?_, fun hw => absurd hw (by simp [Region.wanted])⟩
        have s3 : a.tmps.getD 3 undef = .int .i64 n := hfr.at 3 (by kernel_rfl)
        refine op_yields (.int .i64 n) ?_ ?_ ?_
        · simp only [execOp, resolve, List.map_toArray, List.map_cons, List.map_nil, Act.eval, s3]; simp [go_sem, -Array.getD_eq_getD_getElem?, s3]
        · exact Below.refl _ _
        · exact (fun _ _ => rfl)
      case o3 =>
        intro a w hfr hG hd
        obtain ⟨d0, d1, d2, _⟩ := hd
        refine ⟨fun hw => ?_, fun hw => absurd hw (by simp [Region.wanted])⟩
        have s141 : a.tmps.getD 141 undef = .int .i64 kc := (d0 rfl).now
        have s142 : a.tmps.getD 142 undef = .slice Ax nx cx := (d1 rfl).now
        have s143 : a.tmps.getD 143 undef = .int .i64 n := (d2 rfl).now
        refine op_calls2 ((above_v kc n (hG.now.at (List.mem_cons_of_mem _ (List.mem_cons_of_mem _ (List.mem_cons_of_mem _ (List.mem_cons_of_mem _ (List.mem_cons_of_mem _ (List.mem_cons_of_mem _ (List.mem_cons_of_mem _ (List.mem_cons_self))))))))) (by omega) HFA.out).mono fun e' w' hh => ?_) (by simp only [execOp, resolve, List.map_toArray, List.map_cons, List.map_nil, Act.eval, s141, s142, s143]; simp [go_sem, -Array.getD_eq_getD_getElem?, s141, s142, s143]); obtain ⟨v, h1, h2, h3⟩ := hh; exact ⟨v, h1, h3, fun W' hW' => h2.below hW'⟩
      case o4 =>
        intro a w hfr hG hd
        refine ⟨fun hw => ?_, fun hw => absurd hw (by simp [Region.wanted])⟩
        have s22 : a.tmps.getD 22 undef = .pointer (some ⟨bx, 0, none⟩) := hfr.at 22 (by kernel_rfl)
        refine op_yields (.pointer (some ⟨bx, 2, none⟩)) ?_ ?_ ?_
        · simp only [execOp, resolve, List.map_toArray, List.map_cons, List.map_nil, Act.eval, s22]; simp [go_sem, -Array.getD_eq_getD_getElem?, s22]
        · exact Below.refl _ _
        · exact (fun _ _ => rfl)
      case o5 =>
        intro a w hfr hG hd
        obtain ⟨d0, _⟩ := hd
        refine ⟨fun hw => ?_, fun hw => absurd hw (by simp [Region.wanted])⟩
        have s145 : a.tmps.getD 145 undef = .pointer (some ⟨bx, 2, none⟩) := (d0 rfl).now
        have q2 := hG.now.box.cell 2; simp only [List.getElem?_cons_zero, List.getElem?_cons_succ] at q2
        refine op_yields (.slice Awc nwc cwc) ?_ ?_ ?_
        · simp only [execOp, resolve, List.map_toArray, List.map_cons, List.map_nil, Act.eval, s145]; simp [go_sem, -Array.getD_eq_getD_getElem?, s145, q2]
        · exact Below.refl _ _
        · exact (fun _ _ => rfl)
      case o6 =>
        intro a w hfr hG hd
        obtain ⟨d0, d1, d2, _⟩ := hd
        refine ⟨fun hw => ?_, fun hw => absurd hw (by simp [Region.wanted])⟩
        have p144 : Hold (fun a b => Below a.heap.size a b) (fun W => VAt (sortP (aboveF kc n ps)) (a.tmps.getD 144 undef) W) w := d0 rfl
        have s146 : a.tmps.getD 146 undef = .slice Awc nwc cwc := (d1 rfl).now
        refine op_calls2 ((show Calls _ _ _ w (fun e w' => e = .returned (.bool true) ∧ Below w.heap.size w w') from by have h := points_v p144.now (hG.now.at (List.mem_cons_self)); rwa [decide_eq_true rfl] at h).mono fun e' w' hh => ⟨_, hh.1, hh.2, (fun _ _ => rfl)⟩) ?_
        simp only [execOp, resolve, List.map_toArray, List.map_cons, List.map_nil, Act.eval, s146]; simp [go_sem, -Array.getD_eq_getD_getElem?, s146]
      case o7 =>
        intro a w hfr hG hd
        obtain ⟨d0, _⟩ := hd
        refine ⟨fun hw => ?_, fun hw => absurd hw (by simp [Region.wanted])⟩
        have s147 : a.tmps.getD 147 undef = .bool true := (d0 rfl).now
        refine op_yields (.bool false) ?_ ?_ ?_
        · simp only [execOp, resolve, List.map_toArray, List.map_cons, List.map_nil, Act.eval, s147]; simp [go_sem, -Array.getD_eq_getD_getElem?, s147]
        · exact Below.refl _ _
        · exact (fun _ _ => rfl)
      case hG => exact fun w' hb => HS20.out.below ((Below.refl _ _).drew.trans (hb.mono (by simp)))
      case hend =>
        intro vs9 wq hG hv
        have key : vs9 7 = .bool false := by
          obtain ⟨_, _, _, _, _, _, _, h7, _⟩ := hv
          exact h7.now
        have HS21 := Lib.hid hG.now
        clear hv hG HS20
        simp only [putAll, Act.put, key]
        clear key
        go_simp
        go_wp2_with fail
        (with_reducible refine (logic_v kl Hl.out (HS21.out.at (List.mem_cons_of_mem _ (List.mem_cons_of_mem _ (List.mem_cons_of_mem _ (List.mem_cons_of_mem _ (List.mem_cons_of_mem _ (List.mem_cons_of_mem _ (List.mem_cons_of_mem _ (List.mem_cons_self))))))))) (HS21.out.at (List.mem_cons_of_mem _ (List.mem_cons_of_mem _ (List.mem_cons_of_mem _ (List.mem_cons_of_mem _ (List.mem_cons_of_mem _ (List.mem_cons_of_mem _ (List.mem_cons_of_mem _ (List.mem_cons_of_mem _ (List.mem_cons_self)))))))))) (by omega) HFA.out HFB.out).mono ?_); rintro e wv17 ⟨pl, rfl, hv, hb⟩
        have HS22 := Lib.hid (HS21.out.add hv hb)
        clear hv hb HS21
        go_wp2_with fail
        (with_reducible refine result_v.mono ?_); rintro e wv18 ⟨rfl, hb⟩
        have HS23 := Lib.hid (HS22.out.below hb)
        clear hb HS22
        go_wp2_with fail
        (with_reducible refine result_v.mono ?_); rintro e wv19 ⟨rfl, hb⟩
        have HS24 := Lib.hid (HS23.out.below hb)
        clear hb HS23
        go_wp2_with fail
        (with_reducible refine (two_ll_v kl Hl.out (HS24.out.at (List.mem_cons_of_mem _ (List.mem_cons_of_mem _ (List.mem_cons_of_mem _ (List.mem_cons_of_mem _ (List.mem_cons_of_mem _ (List.mem_cons_of_mem _ (List.mem_cons_of_mem _ (List.mem_cons_of_mem _ (List.mem_cons_self)))))))))) (HS24.out.at (List.mem_cons_of_mem _ (List.mem_cons_of_mem _ (List.mem_cons_of_mem _ (List.mem_cons_of_mem _ (List.mem_cons_of_mem _ (List.mem_cons_of_mem _ (List.mem_cons_of_mem _ (List.mem_cons_of_mem _ (List.mem_cons_of_mem _ (List.mem_cons_self))))))))))) (by omega) (by omega) HOA.out HOB.out HKL.out.1 HKL.out.2).mono ?_); rintro e wv20 ⟨ty20, v20, rfl, hv, hb⟩
        have HS25 := Lib.hid (HS24.out.add hv hb)
        obtain ⟨Awl, cwl, rwl, rfl, hlwl, hqwl⟩ := hv
        clear hb HS24 hlwl hqwl
        generalize rwl.length = nwl at *
        have HS26 := Lib.hid (HS25.out.store (.int .i64 ty20) (.int .i64 0) (.slice Awl nwl cwl))
        obtain ⟨⟨b0, b1, b2⟩, y0, y1, y2⟩ := two_cells HS25.out.box (.int .i64 ty20) (.int .i64 0)
        go_upto_region 23 with fail
        clear b0 b1 b2 y0 y1 y2 HS25
        generalize ((wv20.setCell ⟨bx, 0, none⟩ (.int .i64 ty20)).setCell ⟨bx, 1, none⟩ (.int .i64 0)).setCell ⟨bx, 2, none⟩ (.slice Awl nwl cwl) = wz20 at *
        have q2 := HS26.out.box.cell 2
        simp only [List.getElem?_cons_zero, List.getElem?_cons_succ] at q2
        go_wp2_with fail
        clear q2
        (with_reducible refine (points_v (HS26.out.at (List.mem_cons_of_mem _ (List.mem_cons_self))) (HS26.out.at (List.mem_cons_self))).mono ?_); rintro e wv21 ⟨rfl, hb⟩
        have HS27 := Lib.hid (HS26.out.below hb)
        clear hb HS26
        rw [decide_eq_true rfl]
        go_wp2_with fail
        (with_reducible refine (group_v ko AN mn cn ns Hg.out (HNS.out _ HS27.out.vs.bel) HM4.out (HS27.out.at (List.mem_cons_of_mem _ (List.mem_cons_of_mem _ (List.mem_cons_of_mem _ (List.mem_cons_of_mem _ (List.mem_cons_of_mem _ (List.mem_cons_of_mem _ (List.mem_cons_of_mem _ (List.mem_cons_of_mem _ (List.mem_cons_of_mem _ (List.mem_cons_self))))))))))) (by omega) HFA.out).mono ?_); rintro e wv22 ⟨pg, rfl, hv, hb⟩
        have HS28 := Lib.hid (HS27.out.add hv hb)
        clear hv hb HS27
        go_wp2_with fail
        (with_reducible refine (group_rv ko AN mn cn ns Hg.out (HNS.out _ HS28.out.vs.bel) HM4.out (HS28.out.at (List.mem_cons_of_mem _ (List.mem_cons_of_mem _ (List.mem_cons_of_mem _ (List.mem_cons_of_mem _ (List.mem_cons_of_mem _ (List.mem_cons_of_mem _ (List.mem_cons_of_mem _ (List.mem_cons_of_mem _ (List.mem_cons_of_mem _ (List.mem_cons_of_mem _ (List.mem_cons_self)))))))))))) (by omega) HOA.out HKO.out.1 HKO.out.2).mono ?_); rintro e wv23 ⟨pr, rfl, hv, hb⟩
        have HS29 := Lib.hid (HS28.out.add hv hb)
        clear hv hb HS28
        go_wp2_with fail
        (with_reducible refine (points_v (HS29.out.at (List.mem_cons_of_mem _ (List.mem_cons_self))) (HS29.out.at (List.mem_cons_self))).mono ?_); rintro e wv24 ⟨rfl, hb⟩
        have HS30 := Lib.hid (HS29.out.below hb)
        clear hb HS29
        rw [decide_eq_true rfl]
        go_wp2_with fail
        (with_reducible refine (sort_v (HS30.out.at (List.mem_cons_of_mem _ (List.mem_cons_of_mem _ (List.mem_cons_of_mem _ (List.mem_cons_of_mem _ (List.mem_cons_of_mem _ (List.mem_cons_of_mem _ (List.mem_cons_of_mem _ (List.mem_cons_of_mem _ (List.mem_cons_of_mem _ (List.mem_cons_of_mem _ (List.mem_cons_of_mem _ (List.mem_cons_self))))))))))))) (by omega) HFA.out).mono ?_); rintro e wv25 ⟨sx, rfl, hv, hb⟩
        have HS31 := Lib.hid (HS30.out.add hv hb)
        clear hv hb HS30
        go_wp2_with fail
        (with_reducible refine (sorted_v (HS31.out.at (List.mem_cons_of_mem _ (List.mem_cons_of_mem _ (List.mem_cons_of_mem _ (List.mem_cons_of_mem _ (List.mem_cons_of_mem _ (List.mem_cons_of_mem _ (List.mem_cons_of_mem _ (List.mem_cons_of_mem _ (List.mem_cons_of_mem _ (List.mem_cons_of_mem _ (List.mem_cons_of_mem _ (List.mem_cons_of_mem _ (List.mem_cons_self)))))))))))))) (by omega) HOA.out).mono ?_); rintro e wv26 ⟨sr, rfl, hv, hb⟩
        have HS32 := Lib.hid (HS31.out.add hv hb)
        clear hv hb HS31
        go_wp2_with fail
        (with_reducible refine (points_v (HS32.out.at (List.mem_cons_of_mem _ (List.mem_cons_self))) (HS32.out.at (List.mem_cons_self))).mono ?_); rintro e wv27 ⟨rfl, hb⟩
        have HS33 := Lib.hid (HS32.out.below hb)
        clear hb HS32
        rw [decide_eq_true rfl]
        go_wp2_with fail
        obtain ⟨bq, hbq⟩ : ∃ b, decide (ps = qs) = b := ⟨_, rfl⟩
        have HBQ := Lib.hid hbq
        have tbq : (bq == bq) = true := by cases bq <;> rfl
        clear hbq
        (with_reducible refine (same_v (HS33.out.at (List.mem_cons_of_mem _ (List.mem_cons_of_mem _ (List.mem_cons_of_mem _ (List.mem_cons_of_mem _ (List.mem_cons_of_mem _ (List.mem_cons_of_mem _ (List.mem_cons_of_mem _ (List.mem_cons_of_mem _ (List.mem_cons_of_mem _ (List.mem_cons_of_mem _ (List.mem_cons_of_mem _ (List.mem_cons_of_mem _ (List.mem_cons_of_mem _ (List.mem_cons_self))))))))))))))) (HS33.out.at (List.mem_cons_of_mem _ (List.mem_cons_of_mem _ (List.mem_cons_of_mem _ (List.mem_cons_of_mem _ (List.mem_cons_of_mem _ (List.mem_cons_of_mem _ (List.mem_cons_of_mem _ (List.mem_cons_of_mem _ (List.mem_cons_of_mem _ (List.mem_cons_of_mem _ (List.mem_cons_of_mem _ (List.mem_cons_of_mem _ (List.mem_cons_of_mem _ (List.mem_cons_of_mem _ (List.mem_cons_self))))))))))))))))).mono ?_); rintro e wv28 ⟨rfl, hb⟩
        have HS34 := Lib.hid (HS33.out.below hb)
        clear hb HS33
        rw [HBQ.out]
        go_wp2_with fail
        (with_reducible refine (points_v (HS34.out.at (List.mem_cons_of_mem _ (List.mem_cons_of_mem _ (List.mem_cons_of_mem _ (List.mem_cons_of_mem _ (List.mem_cons_of_mem _ (List.mem_cons_of_mem _ (List.mem_cons_of_mem _ (List.mem_cons_of_mem _ (List.mem_cons_of_mem _ (List.mem_cons_of_mem _ (List.mem_cons_of_mem _ (List.mem_cons_of_mem _ (List.mem_cons_of_mem _ (List.mem_cons_self))))))))))))))) (HS34.out.at (List.mem_cons_of_mem _ (List.mem_cons_of_mem _ (List.mem_cons_of_mem _ (List.mem_cons_of_mem _ (List.mem_cons_of_mem _ (List.mem_cons_of_mem _ (List.mem_cons_of_mem _ (List.mem_cons_of_mem _ (List.mem_cons_of_mem _ (List.mem_cons_of_mem _ (List.mem_cons_of_mem _ (List.mem_cons_of_mem _ (List.mem_cons_of_mem _ (List.mem_cons_of_mem _ (List.mem_cons_self))))))))))))))))).mono ?_); rintro e wv29 ⟨rfl, hb⟩
        have HS35 := Lib.hid (HS34.out.below hb)
        clear hb HS34
        rw [HBQ.out]
        go_wp2_with fail
        (with_reducible refine (HRN.out wv29).mono ?_); rintro e wv30 ⟨rfl, hb⟩
        have HS36 := Lib.hid (HS35.out.below hb)
        clear hb HS35
        go_wp2_with fail
        go_ret
        exact ⟨rfl, HS36.out.vs.bel⟩
end Go.Proofs.Ytbndmmfpoljeaaa
