/- Texts, merged in one. -/
import Derived.Test.YtlmakdclebbbkaaGreatBase12
import Derived.Test.YtlmakdclebbbkaaGreatBase11
import Derived.Test.YtlmakdclebbbkaaGreatBase10
import Derived.Test.YtlmakdclebbbkaaGreatRows
import Derived.Test.YtlmakdclebbbkaaGreatBase2
import Derived.Test.YtlmakdclebbbkaaGreatBase13
namespace Go.Proofs.YtlmakdclebbbkaaGreat
open Go.ChangeShapes Go.WideShapes Go.ChangeAt Go.RowKit
set_option linter.unusedVariables false
set_option linter.unusedSimpArgs false
set_option maxRecDepth 100000
theorem PtsAt.get2 {base n c : Nat} {A : Option Addr} {rows : List PtR} {w : World} (h : PtsAt base (.slice A n c) rows w) {k : Nat} (hk : k < rows.length) :
    ∃ ad, A = some ad ∧ w.cell? (ad.add (k * 2)) = some rows[k].sv ∧ w.cell? ⟨(ad.add (k * 2)).block, (ad.add (k * 2)).off + 1, none⟩ = some (.int .i64 rows[k].val) ∧ HasL w rows[k].sv rows[k].set := by
  have hr := h.own
  obtain ⟨_, _, e, _⟩ := own_slice hr
  injection e with _ e _; subst e
  obtain ⟨h0, h1⟩ := pts_get rows k hk
  obtain ⟨ad, e, _, hc⟩ := (Sees.of_own hr).at_ (by omega)
  subst e
  exact ⟨ad, rfl, hc _ _ h0, by rw [add_spelt _ _ _ (by omega)]; exact hc _ _ h1, (h.each _ (List.getElem_mem _)).hasL⟩
structure PtC (w0 : World) (ad ad2 : Addr) (k : Nat) (p q : PtR) (W : World) : Prop where
  a0 : W.cell? (ad.add (k * 2)) = some p.sv
  a1 : W.cell? ⟨(ad.add (k * 2)).block, (ad.add (k * 2)).off + 1, none⟩ = some (.int .i64 p.val)
  b0 : W.cell? (ad2.add (k * 2)) = some q.sv
  b1 : W.cell? ⟨(ad2.add (k * 2)).block, (ad2.add (k * 2)).off + 1, none⟩ = some (.int .i64 q.val)
  la : HasL W p.sv p.set
  lb : HasL W q.sv q.set
  bel : Below w0.heap.size w0 W
theorem PtC.below {w0 W W' : World} {ad ad2 : Addr} {k : Nat} {p q : PtR} (h : PtC w0 ad ad2 k p q W) (hb : Below W.heap.size W W') : PtC w0 ad ad2 k p q W' :=
  ⟨(hb.cell (World.block_lt_of_cell? W _ h.a0)).trans h.a0, (hb.cell (World.block_lt_of_cell? W _ h.a1)).trans h.a1, (hb.cell (World.block_lt_of_cell? W _ h.b0)).trans h.b0, (hb.cell (World.block_lt_of_cell? W _ h.b1)).trans h.b1, h.la.below hb, h.lb.below hb, h.bel.trans (hb.mono h.bel.size)⟩
theorem ptsOf_get {rows : List PtR} {k : Nat} (h : k < rows.length) : (ptsOf rows)[k]'(by simp [ptsOf]; exact h) = (rows[k].set, rows[k].val) := by simp [ptsOf]
theorem ptsOf_len (rows : List PtR) : (ptsOf rows).length = rows.length := by simp [ptsOf]
set_option maxHeartbeats 4000000 in
theorem points_any (b1 b2 : Nat) (A A2 : Option Addr) (c c2 : Nat) (r1 r2 : List PtR) (w : World) (h1 : PtsAt b1 (.slice A r1.length c) r1 w) (h2 : PtsAt b2 (.slice A2 r2.length c2) r2 w) :
    Calls Tryz.prog 11 #[.slice A r1.length c, .slice A2 r2.length c2] w fun e w' => e = .returned (.bool (decide (ptsOf r1 = ptsOf r2))) ∧ Below w.heap.size w w' := by
  have H1 : Hid (∀ V, Below w.heap.size w V → PtsAt b1 (.slice A r1.length c) r1 V) := Lib.hid fun V hV => h1.below hV
  have H2 : Hid (∀ V, Below w.heap.size w V → PtsAt b2 (.slice A2 r2.length c2) r2 V) := Lib.hid fun V hV => h2.below hV
  obtain ⟨Ax, cx, e1, hc1, hm1⟩ := own_slice h1.own
  injection e1 with eA _ ec
  obtain ⟨Ay, cy, e1, hc2, hm2⟩ := own_slice h2.own
  injection e1 with eB _ ed
  rw [← ec] at hc1 hm1
  rw [← ed] at hc2 hm2
  clear eA ec eB ed
  clear h1 h2
  obtain ⟨ans, hans⟩ : ∃ a, decide (ptsOf r1 = ptsOf r2) = a := ⟨_, rfl⟩
  rw [hans]
  have HANS := Lib.hid hans
  clear hans
  obtain ⟨n, hn⟩ : ∃ n, r1.length = n := ⟨_, rfl⟩
  obtain ⟨n2, hn2⟩ : ∃ n, r2.length = n := ⟨_, rfl⟩
  have HN := Lib.hid hn; have HN2 := Lib.hid hn2
  rw [hn] at H1 hc1 ⊢
  rw [hn2] at H2 hc2 ⊢
  clear hn hn2
  go_enter Tryz.func11, Tryz.ntmps11
  by_cases hnn : n = n2
  · subst hnn
    go_wp2_with fail
    go_loopg [13] n (fun gg x13 wr => ∃ k : Nat, k + gg = n ∧ x13 = .int .i64 k ∧ (ptsOf r1).take k = (ptsOf r2).take k ∧ Below w.heap.size w wr)
    case atStart => exact ⟨0, by omega, rfl, by simp, Below.refl _ _⟩
    case round =>
      obtain ⟨k, hkg, rfl, htk, hbel⟩ := hrel
      have HT := Lib.hid htk; have HB := Lib.hid hbel
      clear htk hbel
      cases gk with
      | zero =>
        obtain rfl : k = n := by omega
        have HR : Hid (ans = true) := Lib.hid (by
          rw [← HANS.out]
          refine decide_eq_true ?_
          have h := HT.out
          rwa [List.take_of_length_le (by rw [ptsOf_len, HN.out]; exact Nat.le_refl _), List.take_of_length_le (by rw [ptsOf_len, HN2.out]; exact Nat.le_refl _)] at h)
        go_wp2_with fail
        go_ret
        exact ⟨by rw [HR.out]; try rfl, HB.out⟩
      | succ gg =>
        have hlt : k < n := by omega
        have hk1 : k < r1.length := by rw [HN.out]; exact hlt
        have hk2 : k < r2.length := by rw [HN2.out]; exact hlt
        obtain ⟨ad, hA, a0, a1, la⟩ := (H1.out _ HB.out).get2 hk1
        obtain ⟨ad2, hA2, b0, b1, lb⟩ := (H2.out _ HB.out).get2 hk2
        subst hA; subst hA2
        have HC : Hid (PtC w ad ad2 k r1[k] r2[k] wr) := Lib.hid ⟨a0, a1, b0, b1, la, lb, HB.out⟩
        have HTK := Lib.hid (show (ptsOf r1).take (k + 1) = (ptsOf r1).take k ++ [(r1[k].set, r1[k].val)] by rw [List.take_succ_eq_append_getElem (by rw [ptsOf_len]; exact hk1), ptsOf_get hk1])
        have HTK2 := Lib.hid (show (ptsOf r2).take (k + 1) = (ptsOf r2).take k ++ [(r2[k].set, r2[k].val)] by rw [List.take_succ_eq_append_getElem (by rw [ptsOf_len]; exact hk2), ptsOf_get hk2])
        have HNE : Hid ((r1[k].set, r1[k].val) ≠ (r2[k].set, r2[k].val) → ans = false) := Lib.hid fun hne => by
          rw [← HANS.out]
          refine decide_eq_false fun e => hne ?_
          have h1 := ptsOf_get hk1; have h2 := ptsOf_get hk2
          rw [← h1, ← h2]; congr 1
        clear a0 a1 b0 b1 la lb
        generalize r1[k] = p at *
        generalize r2[k] = q at *
        obtain ⟨B1, d1, hq1⟩ := HC.out.la.form
        obtain ⟨B2, d2, hq2⟩ := HC.out.lb.form
        have HSAME : Hid (∀ V, PtC w ad ad2 k p q V → Calls Tryz.prog 35 #[p.sv, q.sv] V fun e w' => e = .returned (.bool (decide (p.set = q.set))) ∧ Below V.heap.size V w') := Lib.hid fun V hV => by
          have ha := hV.la; have hb := hV.lb
          rw [hq1] at ha ⊢; rw [hq2] at hb ⊢
          refine (same_lbl B1 B2 _ d1 _ d2 _ _ p.set q.set V ha.slice.1 hb.slice.1 (by have := ha.slice.2.2; omega) (by have := hb.slice.2.2; omega)).mono ?_
          rintro e w' ⟨rfl, m, rfl⟩
          exact ⟨rfl, below_drewN3 (Below.refl _ _) m⟩
        clear hq1 hq2
        have hi0 : (0 : Int) ≤ k := by omega
        have hi1 : (k : Int) < n := by omega
        cases hr : decide (p.set = q.set) with
        | true =>
          rw [hr] at HSAME
          have HEQ := Lib.hid (of_decide_eq_true hr)
          clear hr
          go_upto_region 6 with fail
          go_cut [40] (fun x40 wx => x40 = .bool (p.val != q.val) ∧ Below w.heap.size w wx)
          case first =>
            refine wp_region_facts (R := fun a b => Below a.heap.size a b) (G := (fun W => PtC w ad ad2 k p q W)) (V := fun i' u' W => match i' with | 0 => u' = .slice (some ad) n c | 1 => u' = .int .i64 k | 2 => u' = .pointer (some (ad.add (k * 2))) | 3 => u' = .pointer (some (ad.add (k * 2))) | 4 => u' = p.sv | 5 => u' = .slice (some ad2) n c2 | 6 => u' = .int .i64 k | 7 => u' = .pointer (some (ad2.add (k * 2))) | 8 => u' = .pointer (some (ad2.add (k * 2))) | 9 => u' = q.sv | 10 => u' = .bool true | 11 => u' = .bool false | 12 => u' = .bool false | 13 => u' = .slice (some ad) n c | 14 => u' = .int .i64 k | 15 => u' = .pointer (some (ad.add (k * 2))) | 16 => u' = .pointer (some ⟨(ad.add (k * 2)).block, (ad.add (k * 2)).off + 1, none⟩) | 17 => u' = .int .i64 p.val | 18 => u' = .slice (some ad2) n c2 | 19 => u' = .int .i64 k | 20 => u' = .pointer (some (ad2.add (k * 2))) | 21 => u' = .pointer (some ⟨(ad2.add (k * 2)).block, (ad2.add (k * 2)).off + 1, none⟩) | 22 => u' = .int .i64 q.val | 23 => u' = .bool (p.val != q.val) | 24 => u' = .bool (p.val != q.val) | _ => True) (by kernel_rfl) (fun w => Below.refl _ _) (fun a b c h1 h2 => h1.trans (h2.mono h1.size)) (by kernel_rfl) (by kernel_rfl) ?hG ⟨?o0, ?o1, ?o2, ?o3, ?o4, ?o5, ?o6, ?o7, ?o8, ?o9, ?o10, ?o11, ?o12, ?o13, ?o14, ?o15, ?o16, ?o17, ?o18, ?o19, ?o20, ?o21, ?o22, ?o23, ?o24, trivial⟩ ?hend
            case o0 =>
              intro a w hfr hG hd
              refine ⟨fun hw => ?_, fun hw => absurd hw (by simp [Region.wanted])⟩
              have s0 : a.tmps.getD 0 undef = .slice (some ad) n c := hfr.at 0 (by kernel_rfl)
              refine op_yields (.slice (some ad) n c) ?_ ?_ ?_
              · simp only [execOp, resolve, List.map_toArray, List.map_cons, List.map_nil, Act.eval, s0]; simp [go_sem, -Array.getD_eq_getD_getElem?, s0]
              · exact Below.refl _ _
              · exact (fun _ _ => rfl)
            case o1 =>
              intro a w hfr hG hd
              refine ⟨fun hw => ?_, fun hw => absurd hw (by simp [Region.wanted])⟩
              have s5 : a.tmps.getD 5 undef = .int .i64 k := hfr.at 5 (by kernel_rfl)
              refine op_yields (.int .i64 k) ?_ ?_ ?_
              · simp only [execOp, resolve, List.map_toArray, List.map_cons, List.map_nil, Act.eval, s5]; simp [go_sem, -Array.getD_eq_getD_getElem?, s5]
              · exact Below.refl _ _
              · exact (fun _ _ => rfl)
            case o2 =>
              intro a w hfr hG hd
              obtain ⟨d0, d1, _⟩ := hd
              refine ⟨fun hw => ?_, fun hw => absurd hw (by simp [Region.wanted])⟩
              have s16 : a.tmps.getD 16 undef = .slice (some ad) n c := (d0 rfl).now
              have s17 : a.tmps.getD 17 undef = .int .i64 k := (d1 rfl).now
              refine op_yields (.pointer (some (ad.add (k * 2)))) ?_ ?_ ?_
              · simp only [execOp, resolve, List.map_toArray, List.map_cons, List.map_nil, Act.eval, s16, s17]; simp [go_sem, -Array.getD_eq_getD_getElem?, s16, s17, hlt, hi0, hi1]
              · exact Below.refl _ _
              · exact (fun _ _ => rfl)
            case o3 =>
              intro a w hfr hG hd
              obtain ⟨d0, _⟩ := hd
              refine ⟨fun hw => ?_, fun hw => absurd hw (by simp [Region.wanted])⟩
              have s18 : a.tmps.getD 18 undef = .pointer (some (ad.add (k * 2))) := (d0 rfl).now
              refine op_yields (.pointer (some (ad.add (k * 2)))) ?_ ?_ ?_
              · simp only [execOp, resolve, List.map_toArray, List.map_cons, List.map_nil, Act.eval, s18]; simp [go_sem, -Array.getD_eq_getD_getElem?, s18]
              · exact Below.refl _ _
              · exact (fun _ _ => rfl)
            case o4 =>
              intro a w hfr hG hd
              obtain ⟨d0, _⟩ := hd
              refine ⟨fun hw => ?_, fun hw => absurd hw (by simp [Region.wanted])⟩
              have s19 : a.tmps.getD 19 undef = .pointer (some (ad.add (k * 2))) := (d0 rfl).now
              have z0 := hG.now.a0
              refine op_yields (p.sv) ?_ ?_ ?_
              · simp only [execOp, resolve, List.map_toArray, List.map_cons, List.map_nil, Act.eval, s19]; simp [go_sem, -Array.getD_eq_getD_getElem?, s19, z0]
              · exact Below.refl _ _
              · exact (fun _ _ => rfl)
            case o5 =>
              intro a w hfr hG hd
              refine ⟨fun hw => ?_, fun hw => absurd hw (by simp [Region.wanted])⟩
              have s1 : a.tmps.getD 1 undef = .slice (some ad2) n c2 := hfr.at 1 (by kernel_rfl)
              refine op_yields (.slice (some ad2) n c2) ?_ ?_ ?_
              · simp only [execOp, resolve, List.map_toArray, List.map_cons, List.map_nil, Act.eval, s1]; simp [go_sem, -Array.getD_eq_getD_getElem?, s1]
              · exact Below.refl _ _
              · exact (fun _ _ => rfl)
            case o6 =>
              intro a w hfr hG hd
              refine ⟨fun hw => ?_, fun hw => absurd hw (by simp [Region.wanted])⟩
              have s5 : a.tmps.getD 5 undef = .int .i64 k := hfr.at 5 (by kernel_rfl)
              refine op_yields (.int .i64 k) ?_ ?_ ?_
              · simp only [execOp, resolve, List.map_toArray, List.map_cons, List.map_nil, Act.eval, s5]; simp [go_sem, -Array.getD_eq_getD_getElem?, s5]
              · exact Below.refl _ _
              · exact (fun _ _ => rfl)
            case o7 =>
              intro a w hfr hG hd
              obtain ⟨d0, d1, _⟩ := hd
              refine ⟨fun hw => ?_, fun hw => absurd hw (by simp [Region.wanted])⟩
              have s21 : a.tmps.getD 21 undef = .slice (some ad2) n c2 := (d0 rfl).now
              have s22 : a.tmps.getD 22 undef = .int .i64 k := (d1 rfl).now
              refine op_yields (.pointer (some (ad2.add (k * 2)))) ?_ ?_ ?_
              · simp only [execOp, resolve, List.map_toArray, List.map_cons, List.map_nil, Act.eval, s21, s22]; simp [go_sem, -Array.getD_eq_getD_getElem?, s21, s22, hlt, hi0, hi1]
              · exact Below.refl _ _
              · exact (fun _ _ => rfl)
            case o8 =>
              intro a w hfr hG hd
              obtain ⟨d0, _⟩ := hd
              refine ⟨fun hw => ?_, fun hw => absurd hw (by simp [Region.wanted])⟩
              have s23 : a.tmps.getD 23 undef = .pointer (some (ad2.add (k * 2))) := (d0 rfl).now
              refine op_yields (.pointer (some (ad2.add (k * 2)))) ?_ ?_ ?_
              · simp only [execOp, resolve, List.map_toArray, List.map_cons, List.map_nil, Act.eval, s23]; simp [go_sem, -Array.getD_eq_getD_getElem?, s23]
              · exact Below.refl _ _
              · exact (fun _ _ => rfl)
            case o9 =>
              intro a w hfr hG hd
              obtain ⟨d0, _⟩ := hd
              refine ⟨fun hw => ?_, fun hw => absurd hw (by simp [Region.wanted])⟩
              have s24 : a.tmps.getD 24 undef = .pointer (some (ad2.add (k * 2))) := (d0 rfl).now
              have z0 := hG.now.b0
              refine op_yields (q.sv) ?_ ?_ ?_
              · simp only [execOp, resolve, List.map_toArray, List.map_cons, List.map_nil, Act.eval, s24]; simp [go_sem, -Array.getD_eq_getD_getElem?, s24, z0]
              · exact Below.refl _ _
              · exact (fun _ _ => rfl)
            case o10 =>
              intro a w hfr hG hd
              obtain ⟨d0, d1, _⟩ := hd
              refine ⟨fun hw => ?_, fun hw => absurd hw (by simp [Region.wanted])⟩
              have s20 : a.tmps.getD 20 undef = p.sv := (d0 rfl).now
              have s25 : a.tmps.getD 25 undef = q.sv := (d1 rfl).now
              refine op_calls2 ((HSAME.out w hG.now).mono fun e' w' hh => ⟨_, hh.1, hh.2, (fun _ _ => rfl)⟩) ?_
              simp only [execOp, resolve, List.map_toArray, List.map_cons, List.map_nil, Act.eval, s20, s25]; simp [go_sem, -Array.getD_eq_getD_getElem?, s20, s25]
            case o11 =>
              intro a w hfr hG hd
              obtain ⟨d0, _⟩ := hd
              refine ⟨fun hw => ?_, fun hw => absurd hw (by simp [Region.wanted])⟩
              have s26 : a.tmps.getD 26 undef = .bool true := (d0 rfl).now
              refine op_yields (.bool false) ?_ ?_ ?_
              · simp only [execOp, resolve, List.map_toArray, List.map_cons, List.map_nil, Act.eval, s26]; simp [go_sem, -Array.getD_eq_getD_getElem?, s26]
              · exact Below.refl _ _
              · exact (fun _ _ => rfl)
            case o12 =>
              intro a w hfr hG hd
              obtain ⟨d0, d1, _⟩ := hd
              refine ⟨fun hw => ?_, fun hw => absurd hw (by simp [Region.wanted])⟩
              have s27 : a.tmps.getD 27 undef = .bool false := (d0 rfl).now
              refine op_yields (.bool false) ?_ ?_ ?_
              · simp only [execOp, resolve, List.map_toArray, List.map_cons, List.map_nil, Act.eval, s27]; simp [go_sem, -Array.getD_eq_getD_getElem?, s27]
              · exact Below.refl _ _
              · exact (fun _ _ => rfl)
            case o13 =>
              intro a w hfr hG hd
              obtain ⟨d0, _⟩ := hd
              have sg : a.tmps.getD 28 undef = .bool false := (d0 rfl).now
              refine ⟨fun hw => ?_, fun hw => by rw [wanted_of rfl (yielded_of rfl sg)] at hw; exact absurd hw (by decide)⟩
              have s0 : a.tmps.getD 0 undef = .slice (some ad) n c := hfr.at 0 (by kernel_rfl)
              refine op_yields (.slice (some ad) n c) ?_ ?_ ?_
              · simp only [execOp, resolve, List.map_toArray, List.map_cons, List.map_nil, Act.eval, s0]; simp [go_sem, -Array.getD_eq_getD_getElem?, s0]
              · exact Below.refl _ _
              · exact (fun _ _ => rfl)
            case o14 =>
              intro a w hfr hG hd
              obtain ⟨d0, _⟩ := hd
              have sg : a.tmps.getD 28 undef = .bool false := (d0 rfl).now
              refine ⟨fun hw => ?_, fun hw => by rw [wanted_of rfl (yielded_of rfl sg)] at hw; exact absurd hw (by decide)⟩
              have s5 : a.tmps.getD 5 undef = .int .i64 k := hfr.at 5 (by kernel_rfl)
              refine op_yields (.int .i64 k) ?_ ?_ ?_
              · simp only [execOp, resolve, List.map_toArray, List.map_cons, List.map_nil, Act.eval, s5]; simp [go_sem, -Array.getD_eq_getD_getElem?, s5]
              · exact Below.refl _ _
              · exact (fun _ _ => rfl)
            case o15 =>
              intro a w hfr hG hd
              obtain ⟨d0, d1, d2, _⟩ := hd
              have sg : a.tmps.getD 28 undef = .bool false := (d2 rfl).now
              refine ⟨fun hw => ?_, fun hw => by rw [wanted_of rfl (yielded_of rfl sg)] at hw; exact absurd hw (by decide)⟩
              have s29 : a.tmps.getD 29 undef = .slice (some ad) n c := (d0 rfl).now
              have s30 : a.tmps.getD 30 undef = .int .i64 k := (d1 rfl).now
              refine op_yields (.pointer (some (ad.add (k * 2)))) ?_ ?_ ?_
              · simp only [execOp, resolve, List.map_toArray, List.map_cons, List.map_nil, Act.eval, s29, s30]; simp [go_sem, -Array.getD_eq_getD_getElem?, s29, s30, hlt, hi0, hi1]
              · exact Below.refl _ _
              · exact (fun _ _ => rfl)
            case o16 =>
              intro a w hfr hG hd
              obtain ⟨d0, d1, _⟩ := hd
              have sg : a.tmps.getD 28 undef = .bool false := (d1 rfl).now
              refine ⟨fun hw => ?_, fun hw => by rw [wanted_of rfl (yielded_of rfl sg)] at hw; exact absurd hw (by decide)⟩
              have s31 : a.tmps.getD 31 undef = .pointer (some (ad.add (k * 2))) := (d0 rfl).now
              refine op_yields (.pointer (some ⟨(ad.add (k * 2)).block, (ad.add (k * 2)).off + 1, none⟩)) ?_ ?_ ?_
              · simp only [execOp, resolve, List.map_toArray, List.map_cons, List.map_nil, Act.eval, s31]; simp [go_sem, -Array.getD_eq_getD_getElem?, s31]
              · exact Below.refl _ _
              · exact (fun _ _ => rfl)
            case o17 =>
              intro a w hfr hG hd
              obtain ⟨d0, d1, _⟩ := hd
              have sg : a.tmps.getD 28 undef = .bool false := (d1 rfl).now
              refine ⟨fun hw => ?_, fun hw => by rw [wanted_of rfl (yielded_of rfl sg)] at hw; exact absurd hw (by decide)⟩
              have s32 : a.tmps.getD 32 undef = .pointer (some ⟨(ad.add (k * 2)).block, (ad.add (k * 2)).off + 1, none⟩) := (d0 rfl).now
              have z0 := hG.now.a1
              refine op_yields (.int .i64 p.val) ?_ ?_ ?_
              · simp only [execOp, resolve, List.map_toArray, List.map_cons, List.map_nil, Act.eval, s32]; simp [go_sem, -Array.getD_eq_getD_getElem?, s32, z0]
              · exact Below.refl _ _
              · exact (fun _ _ => rfl)
            case o18 =>
              intro a w hfr hG hd
              obtain ⟨d0, _⟩ := hd
              have sg : a.tmps.getD 28 undef = .bool false := (d0 rfl).now
              refine ⟨fun hw => ?_, fun hw => by rw [wanted_of rfl (yielded_of rfl sg)] at hw; exact absurd hw (by decide)⟩
              have s1 : a.tmps.getD 1 undef = .slice (some ad2) n c2 := hfr.at 1 (by kernel_rfl)
              refine op_yields (.slice (some ad2) n c2) ?_ ?_ ?_
              · simp only [execOp, resolve, List.map_toArray, List.map_cons, List.map_nil, Act.eval, s1]; simp [go_sem, -Array.getD_eq_getD_getElem?, s1]
              · exact Below.refl _ _
              · exact (fun _ _ => rfl)
            case o19 =>
              intro a w hfr hG hd
              obtain ⟨d0, _⟩ := hd
              have sg : a.tmps.getD 28 undef = .bool false := (d0 rfl).now
              refine ⟨fun hw => ?_, fun hw => by rw [wanted_of rfl (yielded_of rfl sg)] at hw; exact absurd hw (by decide)⟩
              have s5 : a.tmps.getD 5 undef = .int .i64 k := hfr.at 5 (by kernel_rfl)
              refine op_yields (.int .i64 k) ?_ ?_ ?_
              · simp only [execOp, resolve, List.map_toArray, List.map_cons, List.map_nil, Act.eval, s5]; simp [go_sem, -Array.getD_eq_getD_getElem?, s5]
              · exact Below.refl _ _
              · exact (fun _ _ => rfl)
            case o20 =>
              intro a w hfr hG hd
              obtain ⟨d0, d1, d2, _⟩ := hd
              have sg : a.tmps.getD 28 undef = .bool false := (d2 rfl).now
              refine ⟨fun hw => ?_, fun hw => by rw [wanted_of rfl (yielded_of rfl sg)] at hw; exact absurd hw (by decide)⟩
              have s34 : a.tmps.getD 34 undef = .slice (some ad2) n c2 := (d0 rfl).now
              have s35 : a.tmps.getD 35 undef = .int .i64 k := (d1 rfl).now
              refine op_yields (.pointer (some (ad2.add (k * 2)))) ?_ ?_ ?_
              · simp only [execOp, resolve, List.map_toArray, List.map_cons, List.map_nil, Act.eval, s34, s35]; simp [go_sem, -Array.getD_eq_getD_getElem?, s34, s35, hlt, hi0, hi1]
              · exact Below.refl _ _
              · exact (fun _ _ => rfl)
            case o21 =>
              intro a w hfr hG hd
              obtain ⟨d0, d1, _⟩ := hd
              have sg : a.tmps.getD 28 undef = .bool false := (d1 rfl).now
              refine ⟨fun hw => ?_, fun hw => by rw [wanted_of rfl (yielded_of rfl sg)] at hw; exact absurd hw (by decide)⟩
              have s36 : a.tmps.getD 36 undef = .pointer (some (ad2.add (k * 2))) := (d0 rfl).now
              refine op_yields (.pointer (some ⟨(ad2.add (k * 2)).block, (ad2.add (k * 2)).off + 1, none⟩)) ?_ ?_ ?_
              · simp only [execOp, resolve, List.map_toArray, List.map_cons, List.map_nil, Act.eval, s36]; simp [go_sem, -Array.getD_eq_getD_getElem?, s36]
              · exact Below.refl _ _
              · exact (fun _ _ => rfl)
            case o22 =>
              intro a w hfr hG hd
              obtain ⟨d0, d1, _⟩ := hd
              have sg : a.tmps.getD 28 undef = .bool false := (d1 rfl).now
              refine ⟨fun hw => ?_, fun hw => by rw [wanted_of rfl (yielded_of rfl sg)] at hw; exact absurd hw (by decide)⟩
              have s37 : a.tmps.getD 37 undef = .pointer (some ⟨(ad2.add (k * 2)).block, (ad2.add (k * 2)).off + 1, none⟩) := (d0 rfl).now
              have z0 := hG.now.b1
              refine op_yields (.int .i64 q.val) ?_ ?_ ?_
              · simp only [execOp, resolve, List.map_toArray, List.map_cons, List.map_nil, Act.eval, s37]; simp [go_sem, -Array.getD_eq_getD_getElem?, s37, z0]
              · exact Below.refl _ _
              · exact (fun _ _ => rfl)
            case o23 =>
              intro a w hfr hG hd
              obtain ⟨d0, d1, d2, _⟩ := hd
              have sg : a.tmps.getD 28 undef = .bool false := (d2 rfl).now
              refine ⟨fun hw => ?_, fun hw => by rw [wanted_of rfl (yielded_of rfl sg)] at hw; exact absurd hw (by decide)⟩
              have s33 : a.tmps.getD 33 undef = .int .i64 p.val := (d0 rfl).now
              have s38 : a.tmps.getD 38 undef = .int .i64 q.val := (d1 rfl).now
              refine op_yields (.bool (p.val != q.val)) ?_ ?_ ?_
              · simp only [execOp, resolve, List.map_toArray, List.map_cons, List.map_nil, Act.eval, s33, s38]; simp [go_sem, -Array.getD_eq_getD_getElem?, s33, s38]
              · exact Below.refl _ _
              · exact (fun _ _ => rfl)
            case o24 =>
              intro a w hfr hG hd
              obtain ⟨d0, d1, _⟩ := hd
              refine ⟨fun hw => ?_, fun hw => absurd hw (by simp [Region.wanted])⟩
              have s28 : a.tmps.getD 28 undef = .bool false := (d0 rfl).now
              have s39 : a.tmps.getD 39 undef = .bool (p.val != q.val) := (d1 rfl).now
              refine op_yields (.bool (p.val != q.val)) ?_ ?_ ?_
              · simp only [execOp, resolve, List.map_toArray, List.map_cons, List.map_nil, Act.eval, s28, s39]; simp [go_sem, -Array.getD_eq_getD_getElem?, s28, s39]
              · exact Below.refl _ _
              · exact (fun _ _ => rfl)
            case hG => exact fun w' hb => HC.out.below ((Below.refl _ _).drew.trans (hb.mono (by simp)))
            case hend =>
              intro vs w' hG hv
              have key : vs 24 = .bool (p.val != q.val) := by
                obtain ⟨_, _, _, _, _, _, _, _, _, _, _, _, _, _, _, _, _, _, _, _, _, _, _, _, h24, _⟩ := hv
                exact h24.now
              have HG := Lib.hid hG.now
              clear hv hG
              simp only [putAll, Act.put, key]
              clear key
              go_simp
              go_wp2_with fail
              go_meet
              exact ⟨rfl, HG.out.bel⟩
          case rest =>
            obtain ⟨rfl, hb⟩ := hcut
            have HB2 := Lib.hid hb
            clear hb HC HSAME
            by_cases hv : p.val = q.val
            · have hvb : (p.val != q.val) = false := by simp [hv]
              have HN3 := Lib.hid (show (ptsOf r1).take (k + 1) = (ptsOf r2).take (k + 1) by rw [HTK.out, HTK2.out, HT.out, HEQ.out, hv])
              rw [hvb]
              clear hvb hv HNE
              go_wp2_with fail
              go_roundg gg
              case measure => omega
              case rel => exact ⟨k + 1, by omega, by go_num, HN3.out, HB2.out⟩
            · have hvb : (p.val != q.val) = true := by simp [hv]
              have HR : Hid (ans = false) := Lib.hid (HNE.out fun e => hv (by injection e))
              rw [hvb]
              clear hvb HNE
              go_wp2_with fail
              go_ret
              exact ⟨by rw [HR.out]; try rfl, HB2.out⟩
        | false =>
          rw [hr] at HSAME
          have HR : Hid (ans = false) := Lib.hid (HNE.out fun e => of_decide_eq_false hr (by injection e))
          clear hr HNE
          go_upto_region 6 with fail
          go_cut [40] (fun x40 wx => x40 = .bool (true) ∧ Below w.heap.size w wx)
          case first =>
            refine wp_region_facts (R := fun a b => Below a.heap.size a b) (G := (fun W => PtC w ad ad2 k p q W)) (V := fun i' u' W => match i' with | 0 => u' = .slice (some ad) n c | 1 => u' = .int .i64 k | 2 => u' = .pointer (some (ad.add (k * 2))) | 3 => u' = .pointer (some (ad.add (k * 2))) | 4 => u' = p.sv | 5 => u' = .slice (some ad2) n c2 | 6 => u' = .int .i64 k | 7 => u' = .pointer (some (ad2.add (k * 2))) | 8 => u' = .pointer (some (ad2.add (k * 2))) | 9 => u' = q.sv | 10 => u' = .bool false | 11 => u' = .bool true | 12 => u' = .bool true | 13 => True | 14 => True | 15 => True | 16 => True | 17 => True | 18 => True | 19 => True | 20 => True | 21 => True | 22 => True | 23 => True | 24 => u' = .bool true | _ => True) (by kernel_rfl) (fun w => Below.refl _ _) (fun a b c h1 h2 => h1.trans (h2.mono h1.size)) (by kernel_rfl) (by kernel_rfl) ?hG ⟨?o0, ?o1, ?o2, ?o3, ?o4, ?o5, ?o6, ?o7, ?o8, ?o9, ?o10, ?o11, ?o12, ?o13, ?o14, ?o15, ?o16, ?o17, ?o18, ?o19, ?o20, ?o21, ?o22, ?o23, ?o24, trivial⟩ ?hend
            case o0 =>
              intro a w hfr hG hd
              refine ⟨fun hw => ?_, fun hw => absurd hw (by simp [Region.wanted])⟩
              have s0 : a.tmps.getD 0 undef = .slice (some ad) n c := hfr.at 0 (by kernel_rfl)
              refine op_yields (.slice (some ad) n c) ?_ ?_ ?_
              · simp only [execOp, resolve, List.map_toArray, List.map_cons, List.map_nil, Act.eval, s0]; simp [go_sem, -Array.getD_eq_getD_getElem?, s0]
              · exact Below.refl _ _
              · exact (fun _ _ => rfl)
            case o1 =>
              intro a w hfr hG hd
              refine ⟨fun hw => ?_, fun hw => absurd hw (by simp [Region.wanted])⟩
              have s5 : a.tmps.getD 5 undef = .int .i64 k := hfr.at 5 (by kernel_rfl)
              refine op_yields (.int .i64 k) ?_ ?_ ?_
              · simp only [execOp, resolve, List.map_toArray, List.map_cons, List.map_nil, Act.eval, s5]; simp [go_sem, -Array.getD_eq_getD_getElem?, s5]
              · exact Below.refl _ _
              · exact (fun _ _ => rfl)
            case o2 =>
              intro a w hfr hG hd
              obtain ⟨d0, d1, _⟩ := hd
              refine ⟨fun hw => ?_, fun hw => absurd hw (by simp [Region.wanted])⟩
              have s16 : a.tmps.getD 16 undef = .slice (some ad) n c := (d0 rfl).now
              have s17 : a.tmps.getD 17 undef = .int .i64 k := (d1 rfl).now
              refine op_yields (.pointer (some (ad.add (k * 2)))) ?_ ?_ ?_
              · simp only [execOp, resolve, List.map_toArray, List.map_cons, List.map_nil, Act.eval, s16, s17]; simp [go_sem, -Array.getD_eq_getD_getElem?, s16, s17, hlt, hi0, hi1]
              · exact Below.refl _ _
              · exact (fun _ _ => rfl)
            case o3 =>
              intro a w hfr hG hd
              obtain ⟨d0, _⟩ := hd
              refine ⟨fun hw => ?_, fun hw => absurd hw (by simp [Region.wanted])⟩
              have s18 : a.tmps.getD 18 undef = .pointer (some (ad.add (k * 2))) := (d0 rfl).now
              refine op_yields (.pointer (some (ad.add (k * 2)))) ?_ ?_ ?_
              · simp only [execOp, resolve, List.map_toArray, List.map_cons, List.map_nil, Act.eval, s18]; simp [go_sem, -Array.getD_eq_getD_getElem?, s18]
              · exact Below.refl _ _
              · exact (fun _ _ => rfl)
            case o4 =>
              intro a w hfr hG hd
              obtain ⟨d0, _⟩ := hd
              refine ⟨fun hw => ?_, fun hw => absurd hw (by simp [Region.wanted])⟩
              have s19 : a.tmps.getD 19 undef = .pointer (some (ad.add (k * 2))) := (d0 rfl).now
              have z0 := hG.now.a0
              refine op_yields (p.sv) ?_ ?_ ?_
              · simp only [execOp, resolve, List.map_toArray, List.map_cons, List.map_nil, Act.eval, s19]; simp [go_sem, -Array.getD_eq_getD_getElem?, s19, z0]
              · exact Below.refl _ _
              · exact (fun _ _ => rfl)
            case o5 =>
              intro a w hfr hG hd
              refine ⟨fun hw => ?_, fun hw => absurd hw (by simp [Region.wanted])⟩
              have s1 : a.tmps.getD 1 undef = .slice (some ad2) n c2 := hfr.at 1 (by kernel_rfl)
              refine op_yields (.slice (some ad2) n c2) ?_ ?_ ?_
              · simp only [execOp, resolve, List.map_toArray, List.map_cons, List.map_nil, Act.eval, s1]; simp [go_sem, -Array.getD_eq_getD_getElem?, s1]
              · exact Below.refl _ _
              · exact (fun _ _ => rfl)
            case o6 =>
              intro a w hfr hG hd
              refine ⟨fun hw => ?_, fun hw => absurd hw (by simp [Region.wanted])⟩
              have s5 : a.tmps.getD 5 undef = .int .i64 k := hfr.at 5 (by kernel_rfl)
              refine op_yields (.int .i64 k) ?_ ?_ ?_
              · simp only [execOp, resolve, List.map_toArray, List.map_cons, List.map_nil, Act.eval, s5]; simp [go_sem, -Array.getD_eq_getD_getElem?, s5]
              · exact Below.refl _ _
              · exact (fun _ _ => rfl)
            case o7 =>
              intro a w hfr hG hd
              obtain ⟨d0, d1, _⟩ := hd
              refine ⟨fun hw => ?_, fun hw => absurd hw (by simp [Region.wanted])⟩
              have s21 : a.tmps.getD 21 undef = .slice (some ad2) n c2 := (d0 rfl).now
              have s22 : a.tmps.getD 22 undef = .int .i64 k := (d1 rfl).now
              refine op_yields (.pointer (some (ad2.add (k * 2)))) ?_ ?_ ?_
              · simp only [execOp, resolve, List.map_toArray, List.map_cons, List.map_nil, Act.eval, s21, s22]; simp [go_sem, -Array.getD_eq_getD_getElem?, s21, s22, hlt, hi0, hi1]
              · exact Below.refl _ _
              · exact (fun _ _ => rfl)
            case o8 =>
              intro a w hfr hG hd
              obtain ⟨d0, _⟩ := hd
              refine ⟨fun hw => ?_, fun hw => absurd hw (by simp [Region.wanted])⟩
              have s23 : a.tmps.getD 23 undef = .pointer (some (ad2.add (k * 2))) := (d0 rfl).now
              refine op_yields (.pointer (some (ad2.add (k * 2)))) ?_ ?_ ?_
              · simp only [execOp, resolve, List.map_toArray, List.map_cons, List.map_nil, Act.eval, s23]; simp [go_sem, -Array.getD_eq_getD_getElem?, s23]
              · exact Below.refl _ _
              · exact (fun _ _ => rfl)
            case o9 =>
              intro a w hfr hG hd
              obtain ⟨d0, _⟩ := hd
              refine ⟨fun hw => ?_, fun hw => absurd hw (by simp [Region.wanted])⟩
              have s24 : a.tmps.getD 24 undef = .pointer (some (ad2.add (k * 2))) := (d0 rfl).now
              have z0 := hG.now.b0
              refine op_yields (q.sv) ?_ ?_ ?_
              · simp only [execOp, resolve, List.map_toArray, List.map_cons, List.map_nil, Act.eval, s24]; simp [go_sem, -Array.getD_eq_getD_getElem?, s24, z0]
              · exact Below.refl _ _
              · exact (fun _ _ => rfl)
            case o10 =>
              intro a w hfr hG hd
              obtain ⟨d0, d1, _⟩ := hd
              refine ⟨fun hw => ?_, fun hw => absurd hw (by simp [Region.wanted])⟩
              have s20 : a.tmps.getD 20 undef = p.sv := (d0 rfl).now
              have s25 : a.tmps.getD 25 undef = q.sv := (d1 rfl).now
              refine op_calls2 ((HSAME.out w hG.now).mono fun e' w' hh => ⟨_, hh.1, hh.2, (fun _ _ => rfl)⟩) ?_
              simp only [execOp, resolve, List.map_toArray, List.map_cons, List.map_nil, Act.eval, s20, s25]; simp [go_sem, -Array.getD_eq_getD_getElem?, s20, s25]
            case o11 =>
              intro a w hfr hG hd
              obtain ⟨d0, _⟩ := hd
              refine ⟨fun hw => ?_, fun hw => absurd hw (by simp [Region.wanted])⟩
              have s26 : a.tmps.getD 26 undef = .bool false := (d0 rfl).now
              refine op_yields (.bool true) ?_ ?_ ?_
              · simp only [execOp, resolve, List.map_toArray, List.map_cons, List.map_nil, Act.eval, s26]; simp [go_sem, -Array.getD_eq_getD_getElem?, s26]
              · exact Below.refl _ _
              · exact (fun _ _ => rfl)
            case o12 =>
              intro a w hfr hG hd
              obtain ⟨d0, d1, _⟩ := hd
              refine ⟨fun hw => ?_, fun hw => absurd hw (by simp [Region.wanted])⟩
              have s27 : a.tmps.getD 27 undef = .bool true := (d0 rfl).now
              refine op_yields (.bool true) ?_ ?_ ?_
              · simp only [execOp, resolve, List.map_toArray, List.map_cons, List.map_nil, Act.eval, s27]; simp [go_sem, -Array.getD_eq_getD_getElem?, s27]
              · exact Below.refl _ _
              · exact (fun _ _ => rfl)
            case o13 =>
              intro a w hfr hG hd
              obtain ⟨d0, _⟩ := hd
              have sg : a.tmps.getD 28 undef = .bool true := (d0 rfl).now
              refine ⟨fun hw => ?_, fun hw => fun _ _ => trivial⟩
              rw [wanted_of rfl (yielded_of rfl sg)] at hw; exact absurd hw (by decide)
            case o14 =>
              intro a w hfr hG hd
              obtain ⟨d0, _⟩ := hd
              have sg : a.tmps.getD 28 undef = .bool true := (d0 rfl).now
              refine ⟨fun hw => ?_, fun hw => fun _ _ => trivial⟩
              rw [wanted_of rfl (yielded_of rfl sg)] at hw; exact absurd hw (by decide)
            case o15 =>
              intro a w hfr hG hd
              obtain ⟨d0, d1, d2, _⟩ := hd
              have sg : a.tmps.getD 28 undef = .bool true := (d2 rfl).now
              refine ⟨fun hw => ?_, fun hw => fun _ _ => trivial⟩
              rw [wanted_of rfl (yielded_of rfl sg)] at hw; exact absurd hw (by decide)
            case o16 =>
              intro a w hfr hG hd
              obtain ⟨d0, d1, _⟩ := hd
              have sg : a.tmps.getD 28 undef = .bool true := (d1 rfl).now
              refine ⟨fun hw => ?_, fun hw => fun _ _ => trivial⟩
              rw [wanted_of rfl (yielded_of rfl sg)] at hw; exact absurd hw (by decide)
            case o17 =>
              intro a w hfr hG hd
              obtain ⟨d0, d1, _⟩ := hd
              have sg : a.tmps.getD 28 undef = .bool true := (d1 rfl).now
              refine ⟨fun hw => ?_, fun hw => fun _ _ => trivial⟩
              rw [wanted_of rfl (yielded_of rfl sg)] at hw; exact absurd hw (by decide)
            case o18 =>
              intro a w hfr hG hd
              obtain ⟨d0, _⟩ := hd
              have sg : a.tmps.getD 28 undef = .bool true := (d0 rfl).now
              refine ⟨fun hw => ?_, fun hw => fun _ _ => trivial⟩
              rw [wanted_of rfl (yielded_of rfl sg)] at hw; exact absurd hw (by decide)
            case o19 =>
              intro a w hfr hG hd
              obtain ⟨d0, _⟩ := hd
              have sg : a.tmps.getD 28 undef = .bool true := (d0 rfl).now
              refine ⟨fun hw => ?_, fun hw => fun _ _ => trivial⟩
              rw [wanted_of rfl (yielded_of rfl sg)] at hw; exact absurd hw (by decide)
            case o20 =>
              intro a w hfr hG hd
              obtain ⟨d0, d1, d2, _⟩ := hd
              have sg : a.tmps.getD 28 undef = .bool true := (d2 rfl).now
              refine ⟨fun hw => ?_, fun hw => fun _ _ => trivial⟩
              rw [wanted_of rfl (yielded_of rfl sg)] at hw; exact absurd hw (by decide)
            case o21 =>
              intro a w hfr hG hd
              obtain ⟨d0, d1, _⟩ := hd
              have sg : a.tmps.getD 28 undef = .bool true := (d1 rfl).now
              refine ⟨fun hw => ?_, fun hw => fun _ _ => trivial⟩
              rw [wanted_of rfl (yielded_of rfl sg)] at hw; exact absurd hw (by decide)
            case o22 =>
              intro a w hfr hG hd
              obtain ⟨d0, d1, _⟩ := hd
              have sg : a.tmps.getD 28 undef = .bool true := (d1 rfl).now
              refine ⟨fun hw => ?_, fun hw => fun _ _ => trivial⟩
              rw [wanted_of rfl (yielded_of rfl sg)] at hw; exact absurd hw (by decide)
            case o23 =>
              intro a w hfr hG hd
              obtain ⟨d0, d1, d2, _⟩ := hd
              have sg : a.tmps.getD 28 undef = .bool true := (d2 rfl).now
              refine ⟨fun hw => ?_, fun hw => fun _ _ => trivial⟩
              rw [wanted_of rfl (yielded_of rfl sg)] at hw; exact absurd hw (by decide)
            case o24 =>
              intro a w hfr hG hd
              obtain ⟨d0, d1, _⟩ := hd
              refine ⟨fun hw => ?_, fun hw => absurd hw (by simp [Region.wanted])⟩
              have s28 : a.tmps.getD 28 undef = .bool true := (d0 rfl).now
              refine op_yields (.bool true) ?_ ?_ ?_
              · simp only [execOp, resolve, List.map_toArray, List.map_cons, List.map_nil, Act.eval, s28]; simp [go_sem, -Array.getD_eq_getD_getElem?, s28]
              · exact Below.refl _ _
              · exact (fun _ _ => rfl)
            case hG => exact fun w' hb => HC.out.below ((Below.refl _ _).drew.trans (hb.mono (by simp)))
            case hend =>
              intro vs w' hG hv
              have key : vs 24 = .bool (true) := by
                obtain ⟨_, _, _, _, _, _, _, _, _, _, _, _, _, _, _, _, _, _, _, _, _, _, _, _, h24, _⟩ := hv
                exact h24.now
              have HG := Lib.hid hG.now
              clear hv hG
              simp only [putAll, Act.put, key]
              clear key
              go_simp
              go_wp2_with fail
              go_meet
              exact ⟨rfl, HG.out.bel⟩
          case rest =>
            obtain ⟨rfl, hb⟩ := hcut
            have HB2 := Lib.hid hb
            clear hb HC HSAME
            go_wp2_with fail
            go_ret
            exact ⟨by rw [HR.out]; try rfl, HB2.out⟩
  · have HR : Hid (ans = false) := Lib.hid (by
      rw [← HANS.out]
      refine decide_eq_false fun e => hnn ?_
      have := congrArg List.length e
      rwa [ptsOf_len, ptsOf_len, HN.out, HN2.out] at this)
    have hb : ((n : Int) == (n2 : Int)) = false := beq_eq_false_iff_ne.2 (by omega)
    have hb2 : ((n : Int) != (n2 : Int)) = true := by simp; omega
    go_wp2_with fail
    go_ret
    exact ⟨by rw [HR.out]; try rfl, Below.refl _ _⟩
end Go.Proofs.YtlmakdclebbbkaaGreat
