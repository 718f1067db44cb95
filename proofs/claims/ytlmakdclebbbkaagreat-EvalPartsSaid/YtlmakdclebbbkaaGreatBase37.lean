/- Texts, merged in one. -/
import Derived.Test.YtlmakdclebbbkaaGreatBase36
namespace Go.Proofs.YtlmakdclebbbkaaGreat
open Go.ChangeShapes Go.WideShapes Go.ChangeAt Go.RowKit
set_option linter.unusedVariables false
set_option linter.unusedSimpArgs false
set_option maxRecDepth 100000
set_option maxHeartbeats 4000000 in
theorem typeTwo_x (d : Nat) (IH : TypeSaid d) (kk nn : Int) (A1 : Option Addr) (c1 : Nat) (ms : List Mtc) (A2 : Option Addr) (c2 : Nat) (ad : Addr) (c3 : Nat) (xa xb : XE) (w : World) (hsa : xa.pe.small) (hsb : xb.pe.small)
    (h : okX (d + 1) (.mk kk nn (.slice A1 ms.length c1) ms (.slice A2 0 c2) [] (.slice (some ad) 2 c3) [xa, xb]) w) :
    Calls Tryz.prog 96 #[.agg #[.int .i64 kk, .int .i64 nn, .slice A1 ms.length c1, .slice A2 0 c2, .slice (some ad) 2 c3]] w fun e w' => e = .returned (.int .i64 (twoT kk [] [xa.pe.ty, xb.pe.ty])) ∧ Below w.heap.size w w' := by
  obtain ⟨_, h2, h3, h4⟩ := h
  obtain ⟨s3, m3, m3'⟩ := Slc.slice h3
  replace s3 : Sees w w.heap.size 5 (some ad) 2 (kcells [xa, xb]) := s3
  have hb : Below w.heap.size w (w.alloc (.cells #[.int .i64 kk, .int .i64 nn, .slice A1 ms.length c1, .slice A2 0 c2, .slice (some ad) 2 c3] 37)) := (Below.refl _ _).alloc (Nat.le_refl _) _
  obtain ⟨v2, hv2⟩ : ∃ v, Value.slice A1 ms.length c1 = v := ⟨_, rfl⟩
  obtain ⟨v3, hv3⟩ : ∃ v, Value.slice A2 0 c2 = v := ⟨_, rfl⟩
  have HA : Hid (T2At w w.heap.size d kk nn (.slice A1 ms.length c1) (.slice A2 0 c2) ad c3 xa xb (w.alloc (.cells #[.int .i64 kk, .int .i64 nn, .slice A1 ms.length c1, .slice A2 0 c2, .slice (some ad) 2 c3] 37))) := Lib.hid ⟨hb, Blk.mk (heap_alloc_new w _), (s3.below hb).more hb.size, okX_below hb d xa (h4 xa (by simp [XE.kids])), okX_below hb d xb (h4 xb (by simp [XE.kids]))⟩
  obtain ⟨ta, hta⟩ : ∃ t, xa.pe.ty = t := ⟨_, rfl⟩
  obtain ⟨tb, htb⟩ : ∃ t, xb.pe.ty = t := ⟨_, rfl⟩
  have HTA := Lib.hid (show ∀ V, T2At w w.heap.size d kk nn (.slice A1 ms.length c1) (.slice A2 0 c2) ad c3 xa xb V → Calls Tryz.prog 50 #[.agg #[.int .i64 xa.kd, .int .i64 xa.n, xa.mv, xa.nv, xa.kv]] V fun e w' => e = .returned (.int .i64 ta) ∧ Below V.heap.size V w' from fun V hV => by rw [← hta]; exact IH xa V hsa hV.oka)
  have HTB := Lib.hid (show ∀ V, T2At w w.heap.size d kk nn (.slice A1 ms.length c1) (.slice A2 0 c2) ad c3 xa xb V → Calls Tryz.prog 50 #[.agg #[.int .i64 xb.kd, .int .i64 xb.n, xb.mv, xb.nv, xb.kv]] V fun e w' => e = .returned (.int .i64 tb) ∧ Below V.heap.size V w' from fun V hV => by rw [← htb]; exact IH xb V hsb hV.okb)
  rw [hta, htb]
  obtain ⟨q, hq⟩ : ∃ q, twoT kk [] [ta, tb] = q := ⟨_, rfl⟩
  rw [hq]
  have HQ := Lib.hid hq
  clear h2 h3 h4 s3 hb IH hq hta htb hv2 hv3 m3 m3' hsa hsb
  have HG := Lib.hid (show ∃ g, w.heap.size = g from ⟨_, rfl⟩)
  go_enter Tryz.func96, Tryz.ntmps96
  go_upto_region 1 with fail
  obtain ⟨bx, hbx⟩ := HG.out
  rw [hbx]
  rw [hbx] at HA HTA HTB
  clear HG hbx
  generalize w.alloc (.cells #[.int .i64 kk, .int .i64 nn, .slice A1 ms.length c1, .slice A2 0 c2, .slice (some ad) 2 c3] 37) = W1 at *
  obtain ⟨x0, x1, x2, x3, x4⟩ := blk_cells5 HA.out.box
  go_upto_region 3 with fail
  clear x0 x1 x2 x3 x4
  generalize Value.slice A1 ms.length c1 = v2 at HA HTA HTB
  generalize Value.slice A2 0 c2 = v3 at HA HTA HTB
  go_cut [3, 4] from 15 to 24 (fun y3 y4 wx => y3 = .int .i64 ta ∧ y4 = .int .i64 tb ∧ T2At w bx d kk nn v2 v3 ad c3 xa xb wx)
  case first =>
    refine wp_region_facts (R := fun a b => Below a.heap.size a b) (G := (fun W => T2At w bx d kk nn v2 v3 ad c3 xa xb W)) (V := fun i' u' W => match i' with | 0 => u' = .pointer (some ⟨bx, 4, none⟩) | 1 => u' = .slice (some ad) 2 c3 | 2 => u' = .pointer (some ad) | 3 => u' = .agg #[.int .i64 xa.kd, .int .i64 xa.n, xa.mv, xa.nv, xa.kv] | 4 => u' = .int .i64 ta | 5 => u' = .pointer (some ⟨bx, 4, none⟩) | 6 => u' = .slice (some ad) 2 c3 | 7 => u' = .pointer (some (ad.add 5)) | 8 => u' = .agg #[.int .i64 xb.kd, .int .i64 xb.n, xb.mv, xb.nv, xb.kv] | 9 => u' = .int .i64 tb | 10 => u' = .int .i64 ta | 11 => u' = .int .i64 tb | _ => True) (by kernel_rfl) (fun w => Below.refl _ _) (fun a b c h1 h2 => h1.trans (h2.mono h1.size)) (by kernel_rfl) (by kernel_rfl) ?hG ⟨?o0, ?o1, ?o2, ?o3, ?o4, ?o5, ?o6, ?o7, ?o8, ?o9, ?o10, ?o11, trivial⟩ ?hend
    case o0 =>
      intro a w hfr hG hd
      refine ⟨fun hw => ?_, fun hw => absurd hw (by simp [Region.wanted])⟩
      have s1 : a.tmps.getD 1 undef = .pointer (some ⟨bx, 0, none⟩) := hfr.at 1 (by kernel_rfl)
      refine op_yields (.pointer (some ⟨bx, 4, none⟩)) ?_ ?_ ?_
      · simp only [execOp, resolve, List.map_toArray, List.map_cons, List.map_nil, Act.eval, s1]; simp [go_sem, -Array.getD_eq_getD_getElem?, s1]
      · exact Below.refl _ _
      · exact (fun _ _ => rfl)
    case o1 =>
      intro a w hfr hG hd
      obtain ⟨d0, _⟩ := hd
      refine ⟨fun hw => ?_, fun hw => absurd hw (by simp [Region.wanted])⟩
      have s15 : a.tmps.getD 15 undef = .pointer (some ⟨bx, 4, none⟩) := (d0 rfl).now
      have z4 := hG.now.box.cell 4; simp only [List.getElem?_cons_zero, List.getElem?_cons_succ] at z4
      refine op_yields (.slice (some ad) 2 c3) ?_ ?_ ?_
      · simp only [execOp, resolve, List.map_toArray, List.map_cons, List.map_nil, Act.eval, s15]; simp [go_sem, -Array.getD_eq_getD_getElem?, s15, z4]
      · exact Below.refl _ _
      · exact (fun _ _ => rfl)
    case o2 =>
      intro a w hfr hG hd
      obtain ⟨d0, _⟩ := hd
      refine ⟨fun hw => ?_, fun hw => absurd hw (by simp [Region.wanted])⟩
      have s16 : a.tmps.getD 16 undef = .slice (some ad) 2 c3 := (d0 rfl).now
      refine op_yields (.pointer (some ad)) ?_ ?_ ?_
      · simp only [execOp, resolve, List.map_toArray, List.map_cons, List.map_nil, Act.eval, s16]; simp [go_sem, -Array.getD_eq_getD_getElem?, s16]
      · exact Below.refl _ _
      · exact (fun _ _ => rfl)
    case o3 =>
      intro a w hfr hG hd
      obtain ⟨d0, _⟩ := hd
      refine ⟨fun hw => ?_, fun hw => absurd hw (by simp [Region.wanted])⟩
      have s17 : a.tmps.getD 17 undef = .pointer (some ad) := (d0 rfl).now
      obtain ⟨z0, z1, z2, z3, z4⟩ := kidT_cells0 (hG.now.cell)
      refine op_yields (.agg #[.int .i64 xa.kd, .int .i64 xa.n, xa.mv, xa.nv, xa.kv]) ?_ ?_ ?_
      · simp only [execOp, resolve, List.map_toArray, List.map_cons, List.map_nil, Act.eval, s17]; simp [go_sem, -Array.getD_eq_getD_getElem?, s17, z0, z1, z2, z3, z4]
      · exact Below.refl _ _
      · exact (fun _ _ => rfl)
    case o4 =>
      intro a w hfr hG hd
      obtain ⟨d0, _⟩ := hd
      refine ⟨fun hw => ?_, fun hw => absurd hw (by simp [Region.wanted])⟩
      have s18 : a.tmps.getD 18 undef = .agg #[.int .i64 xa.kd, .int .i64 xa.n, xa.mv, xa.nv, xa.kv] := (d0 rfl).now
      refine op_calls2 ((HTA.out w hG.now).mono fun e' w' hh => ⟨_, hh.1, hh.2, (fun _ _ => rfl)⟩) ?_
      simp only [execOp, resolve, List.map_toArray, List.map_cons, List.map_nil, Act.eval, s18]; simp [go_sem, -Array.getD_eq_getD_getElem?, s18]
    case o5 =>
      intro a w hfr hG hd
      refine ⟨fun hw => ?_, fun hw => absurd hw (by simp [Region.wanted])⟩
      have s1 : a.tmps.getD 1 undef = .pointer (some ⟨bx, 0, none⟩) := hfr.at 1 (by kernel_rfl)
      refine op_yields (.pointer (some ⟨bx, 4, none⟩)) ?_ ?_ ?_
      · simp only [execOp, resolve, List.map_toArray, List.map_cons, List.map_nil, Act.eval, s1]; simp [go_sem, -Array.getD_eq_getD_getElem?, s1]
      · exact Below.refl _ _
      · exact (fun _ _ => rfl)
    case o6 =>
      intro a w hfr hG hd
      obtain ⟨d0, _⟩ := hd
      refine ⟨fun hw => ?_, fun hw => absurd hw (by simp [Region.wanted])⟩
      have s20 : a.tmps.getD 20 undef = .pointer (some ⟨bx, 4, none⟩) := (d0 rfl).now
      have z4 := hG.now.box.cell 4; simp only [List.getElem?_cons_zero, List.getElem?_cons_succ] at z4
      refine op_yields (.slice (some ad) 2 c3) ?_ ?_ ?_
      · simp only [execOp, resolve, List.map_toArray, List.map_cons, List.map_nil, Act.eval, s20]; simp [go_sem, -Array.getD_eq_getD_getElem?, s20, z4]
      · exact Below.refl _ _
      · exact (fun _ _ => rfl)
    case o7 =>
      intro a w hfr hG hd
      obtain ⟨d0, _⟩ := hd
      refine ⟨fun hw => ?_, fun hw => absurd hw (by simp [Region.wanted])⟩
      have s21 : a.tmps.getD 21 undef = .slice (some ad) 2 c3 := (d0 rfl).now
      refine op_yields (.pointer (some (ad.add 5))) ?_ ?_ ?_
      · simp only [execOp, resolve, List.map_toArray, List.map_cons, List.map_nil, Act.eval, s21]; simp [go_sem, -Array.getD_eq_getD_getElem?, s21]
      · exact Below.refl _ _
      · exact (fun _ _ => rfl)
    case o8 =>
      intro a w hfr hG hd
      obtain ⟨d0, _⟩ := hd
      refine ⟨fun hw => ?_, fun hw => absurd hw (by simp [Region.wanted])⟩
      have s22 : a.tmps.getD 22 undef = .pointer (some (ad.add 5)) := (d0 rfl).now
      obtain ⟨z0, z1, z2, z3, z4⟩ := kidT_cells5 (hG.now.cell)
      refine op_yields (.agg #[.int .i64 xb.kd, .int .i64 xb.n, xb.mv, xb.nv, xb.kv]) ?_ ?_ ?_
      · simp only [execOp, resolve, List.map_toArray, List.map_cons, List.map_nil, Act.eval, s22]; simp [go_sem, -Array.getD_eq_getD_getElem?, s22, z0, z1, z2, z3, z4]
      · exact Below.refl _ _
      · exact (fun _ _ => rfl)
    case o9 =>
      intro a w hfr hG hd
      obtain ⟨d0, d1, _⟩ := hd
      refine ⟨fun hw => ?_, fun hw => absurd hw (by simp [Region.wanted])⟩
      have s23 : a.tmps.getD 23 undef = .agg #[.int .i64 xb.kd, .int .i64 xb.n, xb.mv, xb.nv, xb.kv] := (d0 rfl).now
      refine op_calls2 ((HTB.out w hG.now).mono fun e' w' hh => ⟨_, hh.1, hh.2, (fun _ _ => rfl)⟩) ?_
      simp only [execOp, resolve, List.map_toArray, List.map_cons, List.map_nil, Act.eval, s23]; simp [go_sem, -Array.getD_eq_getD_getElem?, s23]
    case o10 =>
      intro a w hfr hG hd
      obtain ⟨d0, d1, d2, d3, d4, d5, d6, d7, d8, d9, d10, d11, _⟩ := hd
      refine ⟨fun hw => ?_, fun hw => absurd hw (by simp [Region.wanted])⟩
      have s19 : a.tmps.getD 19 undef = .int .i64 ta := (d0 rfl).now
      refine op_yields (.int .i64 ta) ?_ ?_ ?_
      · simp only [execOp, resolve, List.map_toArray, List.map_cons, List.map_nil, Act.eval, s19]; simp [go_sem, -Array.getD_eq_getD_getElem?, s19]
      · exact Below.refl _ _
      · exact (fun _ _ => rfl)
    case o11 =>
      intro a w hfr hG hd
      obtain ⟨d0, d1, d2, d3, d4, d5, d6, d7, d8, d9, d10, d11, d12, _⟩ := hd
      refine ⟨fun hw => ?_, fun hw => absurd hw (by simp [Region.wanted])⟩
      have s24 : a.tmps.getD 24 undef = .int .i64 tb := (d0 rfl).now
      refine op_yields (.int .i64 tb) ?_ ?_ ?_
      · simp only [execOp, resolve, List.map_toArray, List.map_cons, List.map_nil, Act.eval, s24]; simp [go_sem, -Array.getD_eq_getD_getElem?, s24]
      · exact Below.refl _ _
      · exact (fun _ _ => rfl)
    case hG => exact fun w' hb => HA.out.below ((Below.refl _ _).drew.trans (hb.mono (by simp)))
    case hend =>
      intro vs w' hG hv
      have key : vs 10 = .int .i64 ta ∧ vs 11 = .int .i64 tb := by
        obtain ⟨_, _, _, _, _, _, _, _, _, _, h10, h11, _⟩ := hv
        exact ⟨h10.now, h11.now⟩
      have HP2 := Lib.hid hG.now
      clear hv hG HA HTA HTB
      simp only [putAll, Act.put, key.1, key.2]
      clear key
      go_simp
      go_wp2_with fail
      go_meet
      exact ⟨rfl, rfl, HP2.out⟩
  case rest =>
    obtain ⟨rfl, rfl, hat⟩ := hcut
    have HB := Lib.hid hat.bel
    obtain ⟨x0, x1, x2, x3, x4⟩ := blk_cells5 hat.box
    clear hat HA HTA HTB
    by_cases a0 : ta = 0
    · have a0e : (ta == 0) = true := by rw [a0]; rfl
      have a0n : (ta != 0) = false := by rw [a0]; rfl
      have HE := Lib.hid (show q = 0 by rw [← HQ.out]; simp [twoT, a0])
      go_wp2_with fail
      go_ret
      exact ⟨by rw [HE.out]; rfl, HB.out⟩
    · have a0e : (ta == 0) = false := by rw [beq_eq_false_iff_ne]; exact a0
      have a0n : (ta != 0) = true := by rw [bne_iff_ne]; exact a0
      by_cases b0 : tb = 0
      · have b0e : (tb == 0) = true := by rw [b0]; rfl
        have b0n : (tb != 0) = false := by rw [b0]; rfl
        have HE := Lib.hid (show q = 0 by rw [← HQ.out]; simp [twoT, a0, b0])
        go_wp2_with fail
        go_ret
        exact ⟨by rw [HE.out]; rfl, HB.out⟩
      · have b0e : (tb == 0) = false := by rw [beq_eq_false_iff_ne]; exact b0
        have b0n : (tb != 0) = true := by rw [bne_iff_ne]; exact b0
        by_cases k7 : kk ≤ 7
        · by_cases a1 : ta = 1
          · have a1e : (ta == 1) = true := by rw [a1]; rfl
            have a1n : (ta != 1) = false := by rw [a1]; rfl
            by_cases b1 : tb = 1
            · have b1e : (tb == 1) = true := by rw [b1]; rfl
              have b1n : (tb != 1) = false := by rw [b1]; rfl
              have HE := Lib.hid (show q = 1 by rw [← HQ.out]; simp [twoT, a0, b0, k7, a1, b1])
              go_wp2_with fail
              go_ret
              exact ⟨by rw [HE.out]; rfl, HB.out⟩
            · have b1e : (tb == 1) = false := by rw [beq_eq_false_iff_ne]; exact b1
              have b1n : (tb != 1) = true := by rw [bne_iff_ne]; exact b1
              have HE := Lib.hid (show q = 2 by rw [← HQ.out]; simp [twoT, a0, b0, k7, a1, b1])
              go_wp2_with fail
              go_ret
              exact ⟨by rw [HE.out]; rfl, HB.out⟩
          · have a1e : (ta == 1) = false := by rw [beq_eq_false_iff_ne]; exact a1
            have a1n : (ta != 1) = true := by rw [bne_iff_ne]; exact a1
            have HE := Lib.hid (show q = 2 by rw [← HQ.out]; simp [twoT, a0, b0, k7, a1])
            go_wp2_with fail
            go_ret
            exact ⟨by rw [HE.out]; rfl, HB.out⟩
        · by_cases k13 : kk ≤ 13
          · have k13n : ¬ 13 < kk := by omega
            by_cases a2 : ta = 2
            · have a2e : (ta == 2) = true := by rw [a2]; rfl
              have a2n : (ta != 2) = false := by rw [a2]; rfl
              have HE := Lib.hid (show q = 2 by rw [← HQ.out]; simp [twoT, a0, b0, k7, k13, a2, k13n])
              go_wp2_with fail
              go_ret
              exact ⟨by rw [HE.out]; rfl, HB.out⟩
            · have a2e : (ta == 2) = false := by rw [beq_eq_false_iff_ne]; exact a2
              have a2n : (ta != 2) = true := by rw [bne_iff_ne]; exact a2
              have HE := Lib.hid (show q = 0 by rw [← HQ.out]; simp [twoT, a0, b0, k7, k13, a2, k13n])
              go_wp2_with fail
              go_ret
              exact ⟨by rw [HE.out]; rfl, HB.out⟩
          · have k13n : 13 < kk := by omega
            by_cases a2 : ta = 2
            · have a2e : (ta == 2) = true := by rw [a2]; rfl
              have a2n : (ta != 2) = false := by rw [a2]; rfl
              by_cases b2 : tb = 2
              · have b2e : (tb == 2) = true := by rw [b2]; rfl
                have b2n : (tb != 2) = false := by rw [b2]; rfl
                have HE := Lib.hid (show q = 2 by rw [← HQ.out]; simp [twoT, a0, b0, k7, k13, a2, b2, k13n])
                go_wp2_with fail
                go_ret
                exact ⟨by rw [HE.out]; rfl, HB.out⟩
              · have b2e : (tb == 2) = false := by rw [beq_eq_false_iff_ne]; exact b2
                have b2n : (tb != 2) = true := by rw [bne_iff_ne]; exact b2
                have HE := Lib.hid (show q = 0 by rw [← HQ.out]; simp [twoT, a0, b0, k7, k13, a2, b2, k13n])
                go_wp2_with fail
                go_ret
                exact ⟨by rw [HE.out]; rfl, HB.out⟩
            · have a2e : (ta == 2) = false := by rw [beq_eq_false_iff_ne]; exact a2
              have a2n : (ta != 2) = true := by rw [bne_iff_ne]; exact a2
              have HE := Lib.hid (show q = 0 by rw [← HQ.out]; simp [twoT, a0, b0, k7, k13, a2, k13n])
              go_wp2_with fail
              go_ret
              exact ⟨by rw [HE.out]; rfl, HB.out⟩
end Go.Proofs.YtlmakdclebbbkaaGreat

namespace Go.Proofs.YtlmakdclebbbkaaGreat
open Go.ChangeShapes Go.WideShapes Go.ChangeAt Go.RowKit
set_option linter.unusedVariables false
set_option linter.unusedSimpArgs false
set_option maxRecDepth 100000
set_option maxHeartbeats 2000000 in
theorem typeTwo_no (kk nn : Int) (A1 A2 A3 : Option Addr) (m1 c1 m2 c2 m3 c3 : Nat) (w : World) (hno : ¬ (m2 = 0 ∧ m3 = 2)) :
    Calls Tryz.prog 96 #[.agg #[.int .i64 kk, .int .i64 nn, .slice A1 m1 c1, .slice A2 m2 c2, .slice A3 m3 c3]] w fun e w' => e = .returned (.int .i64 0) ∧ Below w.heap.size w w' := by
  have HB : Hid (Below w.heap.size w (w.alloc (.cells #[.int .i64 kk, .int .i64 nn, .slice A1 m1 c1, .slice A2 m2 c2, .slice A3 m3 c3] 37))) := Lib.hid ((Below.refl _ _).alloc (Nat.le_refl _) _)
  have HX := Lib.hid (Blk.mk (heap_alloc_new w (.cells #[.int .i64 kk, .int .i64 nn, .slice A1 m1 c1, .slice A2 m2 c2, .slice A3 m3 c3] 37)) : Blk _ w.heap.size 37 [.int .i64 kk, .int .i64 nn, .slice A1 m1 c1, .slice A2 m2 c2, .slice A3 m3 c3])
  have HNO := Lib.hid hno
  clear hno
  go_enter Tryz.func96, Tryz.ntmps96
  go_upto_region 1 with fail
  generalize w.alloc (.cells #[.int .i64 kk, .int .i64 nn, .slice A1 m1 c1, .slice A2 m2 c2, .slice A3 m3 c3] 37) = W1 at *
  obtain ⟨x0, x1, x2, x3, x4⟩ := blk_cells5 HX.out
  by_cases h0 : 0 < m2
  · have t0 : decide (0 < m2) = true := decide_eq_true h0
    go_wp2_with fail
    go_ret
    exact ⟨rfl, HB.out⟩
  · have t0 : decide (0 < m2) = false := decide_eq_false h0
    have h3 : ((m3 : Int) != 2) = true := by rw [bne_iff_ne]; have := HNO.out; omega
    clear h0
    go_wp2_with fail
    go_ret
    exact ⟨rfl, HB.out⟩
end Go.Proofs.YtlmakdclebbbkaaGreat

namespace Go.Proofs.YtlmakdclebbbkaaGreat
open Go.ChangeShapes Go.WideShapes Go.ChangeAt Go.RowKit
set_option linter.unusedVariables false
set_option linter.unusedSimpArgs false
set_option maxRecDepth 100000
theorem ba_full {s : ByteArray} (h : ¬ s = ⟨#[]⟩) : s.toList.isEmpty = false := by
  cases hq : s.toList with
  | nil =>
    rw [ByteArray.toList_eq] at hq
    exact absurd (by cases s; simp at hq; rw [hq]) h
  | cons => rfl
theorem typeTwo_all (d : Nat) (IH : TypeSaid d) (kk nn : Int) (A1 : Option Addr) (c1 : Nat) (ms : List Mtc) (A2 : Option Addr) (c2 : Nat) (ns : List ByteArray) (A3 : Option Addr) (c3 : Nat) (ks : List XE) (w : World) (hs : smallP (pesX ks))
    (h : okX (d + 1) (.mk kk nn (.slice A1 ms.length c1) ms (.slice A2 ns.length c2) ns (.slice A3 ks.length c3) ks) w) :
    Calls Tryz.prog 96 #[.agg #[.int .i64 kk, .int .i64 nn, .slice A1 ms.length c1, .slice A2 ns.length c2, .slice A3 ks.length c3]] w fun e w' => e = .returned (.int .i64 (twoT kk ns (tysP (pesX ks)))) ∧ Below w.heap.size w w' := by
  by_cases hno : ns.length = 0 ∧ ks.length = 2
  · obtain ⟨h1, h2⟩ := hno
    obtain rfl : ns = [] := List.eq_nil_of_length_eq_zero h1
    match ks, h2 with
    | [a, b], _ =>
      obtain ⟨_, _, h3, _⟩ := id h
      obtain ⟨A', c', e, hsee, _⟩ := h3
      obtain ⟨ad, rfl, _⟩ := hsee.at_ (by simp [XE.kids])
      injection e with e1 e2 e3
      subst e1
      simp only [pesX, smallP] at hs
      exact typeTwo_x d IH kk nn A1 c1 ms A2 c2 ad c3 a b w hs.1 hs.2.1 h
  · have h0 := typeTwo_no kk nn A1 A2 A3 ms.length c1 ns.length c2 ks.length c3 w hno
    have e : twoT kk ns (tysP (pesX ks)) = 0 := by
      unfold twoT
      split
      · rename_i a b he
        exfalso; apply hno
        refine ⟨rfl, ?_⟩
        have := tysP_length ks
        rw [he] at this; simpa using this.symm
      · rfl
    rw [e]; exact h0
set_option maxHeartbeats 4000000 in
theorem type_step (d : Nat) (IH : TypeSaid d) : TypeSaid (d + 1) := by
  intro x w hsm h
  obtain ⟨A1, c1, A2, c2, A3, c3, e1, e2, e3⟩ := okX_forms h
  obtain ⟨kk, nn, mv, ms, nv, ns, kv, ks⟩ := x
  simp only [XE.mv, XE.nv, XE.kv, XE.ms, XE.ns, XE.kids] at e1 e2 e3
  subst e1; subst e2; subst e3
  have HT : Hid ((XE.mk kk nn (.slice A1 ms.length c1) ms (.slice A2 ns.length c2) ns (.slice A3 ks.length c3) ks).pe.ty = if kk = 1 then (if ms.length + ns.length + ks.length = 0 then 1 else 0)
    else if kk = 2 then (if ns.length + ks.length = 0 ∧ rightM ms = true ∧ 1 ≤ nn ∧ nn ≤ 1048576 then 2 else 0)
    else if ¬ (ms.length = 0 ∧ nn = 0) then 0
    else if wordX kk ≠ ⟨#[]⟩ then oneT ns (tysP (pesX ks))
    else if signX kk ≠ ⟨#[]⟩ then twoT kk ns (tysP (pesX ks)) else 0) := Lib.hid (by
      show (PE.mk kk nn ms ns (pesX ks)).ty = _
      unfold PE.ty
      rw [show (pesX ks).length = ks.length by have := tysP_length ks; rw [← this]; exact (by
        have : ∀ l : List PE, (tysP l).length = l.length := fun l => by
          induction l with
          | nil => rfl
          | cons a l ih => simp [tysP, ih]
        exact (this _).symm)])
  obtain ⟨hs1, hs2, hs3, hsk⟩ := (show ms.length ≤ 1000002 ∧ ns.length ≤ 1000002 ∧ (pesX ks).length ≤ 1000002 ∧ smallP (pesX ks) from hsm)
  have hs3' : ks.length ≤ 1000002 := by
    have : ∀ l : List XE, (pesX l).length = l.length := fun l => by
      induction l with
      | nil => rfl
      | cons a l ih => simp [pesX, ih]
    rw [this] at hs3; exact hs3
  obtain ⟨q, hq⟩ : ∃ q, (XE.mk kk nn (.slice A1 ms.length c1) ms (.slice A2 ns.length c2) ns (.slice A3 ks.length c3) ks).pe.ty = q := ⟨_, rfl⟩
  rw [hq] at HT ⊢
  have hb : Below w.heap.size w (w.alloc (.cells #[.int .i64 kk, .int .i64 nn, .slice A1 ms.length c1, .slice A2 ns.length c2, .slice A3 ks.length c3] 37)) := (Below.refl _ _).alloc (Nat.le_refl _) _
  have HB := Lib.hid hb
  have HX := Lib.hid (Blk.mk (heap_alloc_new w (.cells #[.int .i64 kk, .int .i64 nn, .slice A1 ms.length c1, .slice A2 ns.length c2, .slice A3 ks.length c3] 37)) : Blk _ w.heap.size 37 [.int .i64 kk, .int .i64 nn, .slice A1 ms.length c1, .slice A2 ns.length c2, .slice A3 ks.length c3])
  have H0 := Lib.hid (okX_below hb (d + 1) _ h)
  have H1 := Lib.hid (typeOne_x d IH kk nn A1 c1 ms A2 c2 ns A3 c3 ks (w.alloc (.cells #[.int .i64 kk, .int .i64 nn, .slice A1 ms.length c1, .slice A2 ns.length c2, .slice A3 ks.length c3] 37)) hsk H0.out)
  have H2 := Lib.hid (typeTwo_all d IH kk nn A1 c1 ms A2 c2 ns A3 c3 ks (w.alloc (.cells #[.int .i64 kk, .int .i64 nn, .slice A1 ms.length c1, .slice A2 ns.length c2, .slice A3 ks.length c3] 37)) hsk H0.out)
  obtain ⟨m1, m2, m3⟩ := Slc.slice H0.out.1
  have HR := Lib.hid (rightM_any A1 ms.length c1 (w.alloc (.cells #[.int .i64 kk, .int .i64 nn, .slice A1 ms.length c1, .slice A2 ns.length c2, .slice A3 ks.length c3] 37)).heap.size ms (w.alloc (.cells #[.int .i64 kk, .int .i64 nn, .slice A1 ms.length c1, .slice A2 ns.length c2, .slice A3 ks.length c3] 37)) m1 (Nat.le_refl _) (Nat.le_trans m2 m3))
  have HW := Lib.hid (word_x kk (w.alloc (.cells #[.int .i64 kk, .int .i64 nn, .slice A1 ms.length c1, .slice A2 ns.length c2, .slice A3 ks.length c3] 37)))
  have HS := Lib.hid (sign_x kk (w.alloc (.cells #[.int .i64 kk, .int .i64 nn, .slice A1 ms.length c1, .slice A2 ns.length c2, .slice A3 ks.length c3] 37)))
  clear m1 m2 m3 H0 hb hq h hsm hs3 hsk IH
  show Calls Tryz.prog 50 #[.agg #[.int .i64 kk, .int .i64 nn, .slice A1 ms.length c1, .slice A2 ns.length c2, .slice A3 ks.length c3]] w _
  generalize ms.length = lm at *
  generalize ns.length = ln at *
  generalize ks.length = lk at *
  go_enter Tryz.func50, Tryz.ntmps50
  go_upto_region 1 with fail
  generalize w.alloc (.cells #[.int .i64 kk, .int .i64 nn, .slice A1 lm c1, .slice A2 ln c2, .slice A3 lk c3] 37) = W1 at *
  obtain ⟨x0, x1, x2, x3, x4⟩ := blk_cells5 HX.out
  by_cases k1 : kk = 1
  · have t1 : (kk == 1) = true := by rw [k1]; rfl
    by_cases z : lm + ln + lk = 0
    · have t2 : decide ((0 : Int) < (lm : Int) + ln + lk) = false := decide_eq_false (by omega)
      have HE := Lib.hid (show q = 1 by rw [HT.out, if_pos k1, if_pos z])
      have hz1 : lm = 0 := by omega
      have hz2 : ln = 0 := by omega
      have hz3 : lk = 0 := by omega
      subst hz1; subst hz2; subst hz3
      clear k1 t2 z
      go_wp2_with fail
      go_ret
      exact ⟨by rw [HE.out]; rfl, HB.out⟩
    · have t2 : decide ((0 : Int) < (lm : Int) + ln + lk) = true := decide_eq_true (by omega)
      have t3 : 0 < lm + ln + lk := by omega
      have HE := Lib.hid (show q = 0 by rw [HT.out, if_pos k1, if_neg z])
      clear k1 z
      go_wp2_with fail
      go_ret
      exact ⟨by rw [HE.out]; rfl, HB.out⟩
  · have t1 : (kk == 1) = false := by rw [beq_eq_false_iff_ne]; exact k1
    by_cases k2 : kk = 2
    · have t2 : (kk == 2) = true := by rw [k2]; rfl
      by_cases z : ln + lk = 0
      · have hz2 : ln = 0 := by omega
        have hz3 : lk = 0 := by omega
        subst hz2; subst hz3
        cases hr : rightM ms with
        | false =>
          have HE := Lib.hid (show q = 0 by rw [HT.out, if_neg k1, if_pos k2, if_neg (by rw [hr]; simp)])
          rw [hr] at HR
          clear k1 k2 z hr
          go_wp2_with fail
          (with_reducible refine HR.out.mono ?_); rintro e w2 ⟨rfl, hb2⟩
          have HB2 := Lib.hid (HB.out.trans (hb2.mono HB.out.size))
          have HX2 := Lib.hid (HX.out.below hb2 HX.out.lt)
          clear hb2 x0 x1 x2 x3 x4
          obtain ⟨x0, x1, x2, x3, x4⟩ := blk_cells5 HX2.out
          go_wp2_with fail
          go_ret
          exact ⟨by rw [HE.out]; rfl, HB2.out⟩
        | true =>
          rw [hr] at HR
          by_cases n1 : 1 ≤ nn
          · have n1' : ¬ nn < 1 := by omega
            have n1b : decide (nn < 1) = false := decide_eq_false n1'
            by_cases n2 : nn ≤ 1048576
            · have n2' : ¬ 1048576 < nn := by omega
              have n2b : decide (1048576 < nn) = false := decide_eq_false n2'
              have HE := Lib.hid (show q = 2 by rw [HT.out, if_neg k1, if_pos k2, if_pos ⟨z, hr, n1, n2⟩])
              clear k1 k2 z hr
              go_wp2_with fail
              (with_reducible refine HR.out.mono ?_); rintro e w2 ⟨rfl, hb2⟩
              have HB2 := Lib.hid (HB.out.trans (hb2.mono HB.out.size))
              have HX2 := Lib.hid (HX.out.below hb2 HX.out.lt)
              clear hb2 x0 x1 x2 x3 x4
              obtain ⟨x0, x1, x2, x3, x4⟩ := blk_cells5 HX2.out
              go_wp2_with fail
              go_ret
              exact ⟨by rw [HE.out]; rfl, HB2.out⟩
            · have n2' : 1048576 < nn := by omega
              have n2b : decide (1048576 < nn) = true := decide_eq_true n2'
              have HE := Lib.hid (show q = 0 by rw [HT.out, if_neg k1, if_pos k2, if_neg (fun h => n2 h.2.2.2)])
              clear k1 k2 z hr
              go_wp2_with fail
              (with_reducible refine HR.out.mono ?_); rintro e w2 ⟨rfl, hb2⟩
              have HB2 := Lib.hid (HB.out.trans (hb2.mono HB.out.size))
              have HX2 := Lib.hid (HX.out.below hb2 HX.out.lt)
              clear hb2 x0 x1 x2 x3 x4
              obtain ⟨x0, x1, x2, x3, x4⟩ := blk_cells5 HX2.out
              go_wp2_with fail
              go_ret
              exact ⟨by rw [HE.out]; rfl, HB2.out⟩
          · have n1' : nn < 1 := by omega
            have n1b : decide (nn < 1) = true := decide_eq_true n1'
            have HE := Lib.hid (show q = 0 by rw [HT.out, if_neg k1, if_pos k2, if_neg (fun h => n1 h.2.2.1)])
            clear k1 k2 z hr
            go_wp2_with fail
            (with_reducible refine HR.out.mono ?_); rintro e w2 ⟨rfl, hb2⟩
            have HB2 := Lib.hid (HB.out.trans (hb2.mono HB.out.size))
            have HX2 := Lib.hid (HX.out.below hb2 HX.out.lt)
            clear hb2 x0 x1 x2 x3 x4
            obtain ⟨x0, x1, x2, x3, x4⟩ := blk_cells5 HX2.out
            go_wp2_with fail
            go_ret
            exact ⟨by rw [HE.out]; rfl, HB2.out⟩
      · have t3 : 0 < ln + lk := by omega
        have t3b : decide ((0 : Int) < (ln : Int) + lk) = true := decide_eq_true (by omega)
        have HE := Lib.hid (show q = 0 by rw [HT.out, if_neg k1, if_pos k2, if_neg (fun h => z h.1)])
        clear k1 k2 z
        go_wp2_with fail
        go_ret
        exact ⟨by rw [HE.out]; rfl, HB.out⟩
    · have t2 : (kk == 2) = false := by rw [beq_eq_false_iff_ne]; exact k2
      have HT2 := Lib.hid (show q = if ¬ (lm = 0 ∧ nn = 0) then 0
        else if wordX kk ≠ ⟨#[]⟩ then oneT ns (tysP (pesX ks))
        else if signX kk ≠ ⟨#[]⟩ then twoT kk ns (tysP (pesX ks)) else 0 by rw [HT.out, if_neg k1, if_neg k2])
      clear HT k1 k2 HR
      by_cases z : lm = 0
      · subst z
        by_cases zn : nn = 0
        · subst zn
          have HT3 := Lib.hid (show q = if wordX kk ≠ ⟨#[]⟩ then oneT ns (tysP (pesX ks))
            else if signX kk ≠ ⟨#[]⟩ then twoT kk ns (tysP (pesX ks)) else 0 by rw [HT2.out, if_neg (by simp)])
          clear HT2
          generalize wordX kk = wd at *
          generalize signX kk = sg at *
          generalize oneT ns (tysP (pesX ks)) = q1 at *
          generalize twoT kk ns (tysP (pesX ks)) = q2 at *
          by_cases hwd : wd = ⟨#[]⟩
          · have HT4 := Lib.hid (show q = if sg ≠ ⟨#[]⟩ then q2 else 0 by rw [HT3.out, if_neg (by simpa using hwd)])
            clear HT3 H1
            subst hwd
            go_wp2_with fail
            (with_reducible refine HW.out.mono ?_); rintro e w' ⟨rfl, rfl⟩
            go_wp2_with fail
            (with_reducible refine HS.out.mono ?_); rintro e w' ⟨rfl, rfl⟩
            by_cases hsg : sg = ⟨#[]⟩
            · have HE := Lib.hid (show q = 0 by rw [HT4.out, if_neg (by simpa using hsg)])
              clear HT4
              subst hsg
              go_wp2_with fail
              go_ret
              exact ⟨by rw [HE.out]; rfl, HB.out⟩
            · have v1 : sg.toList.isEmpty = false := ba_full hsg
              have HE := Lib.hid (show q = q2 by rw [HT4.out, if_pos hsg])
              clear HT4
              go_wp2_with fail
              (with_reducible refine H2.out.mono ?_); rintro e w2 ⟨rfl, hb2⟩
              have HB2 := Lib.hid (HB.out.trans (hb2.mono HB.out.size))
              clear hb2
              go_wp2_with fail
              go_ret
              exact ⟨by rw [HE.out]; rfl, HB2.out⟩
          · have u1 : wd.toList.isEmpty = false := ba_full hwd
            have HE := Lib.hid (show q = q1 by rw [HT3.out, if_pos hwd])
            clear HT3 H2 HS
            go_wp2_with fail
            (with_reducible refine HW.out.mono ?_); rintro e w' ⟨rfl, rfl⟩
            go_wp2_with fail
            (with_reducible refine H1.out.mono ?_); rintro e w2 ⟨rfl, hb2⟩
            have HB2 := Lib.hid (HB.out.trans (hb2.mono HB.out.size))
            clear hb2
            go_wp2_with fail
            go_ret
            exact ⟨by rw [HE.out]; rfl, HB2.out⟩
        · have n1 : (nn != 0) = true := by rw [bne_iff_ne]; exact zn
          have n2 : (nn == 0) = false := by rw [beq_eq_false_iff_ne]; exact zn
          have HE := Lib.hid (show q = 0 by rw [HT2.out, if_pos (fun h => zn h.2)])
          clear HT2 zn
          go_wp2_with fail
          go_ret
          exact ⟨by rw [HE.out]; rfl, HB.out⟩
      · have t3 : decide (0 < lm) = true := decide_eq_true (by omega)
        have HE := Lib.hid (show q = 0 by rw [HT2.out, if_pos (fun h => z h.1)])
        clear HT2 z
        go_wp2_with fail
        go_ret
        exact ⟨by rw [HE.out]; rfl, HB.out⟩
theorem type_any : ∀ d, TypeSaid d
  | 0 => fun x w _ h => h.elim
  | d + 1 => type_step d (type_any d)
end Go.Proofs.YtlmakdclebbbkaaGreat
