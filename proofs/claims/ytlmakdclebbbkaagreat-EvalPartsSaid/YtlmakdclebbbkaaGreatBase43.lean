/- Texts, merged in one. -/
import Derived.Test.YtlmakdclebbbkaaGreatBase42
import Derived.Test.YtlmakdclebbbkaaGreatBase2
import Derived.Test.YtlmakdclebbbkaaGreatBase10
import Derived.Test.YtlmakdclebbbkaaGreatBase
import Derived.Test.YtlmakdclebbbkaaGreatRows
import Derived.WalkSpells
import Derived.Deep.QuietTactic
import Derived.BigQuiet
namespace Go.Proofs.YtlmakdclebbbkaaGreat
open Go.ChangeShapes Go.WideShapes Go.ChangeAt Go.RowKit
set_option linter.unusedVariables false
set_option linter.unusedSimpArgs false
set_option maxRecDepth 100000
theorem vecE_any (d : Nat) (IH : ComSaid d) : VctSaid (d + 1) := by
  intro x w0 w g v D t h ht
  obtain ⟨p, hp⟩ : ∃ p, x.pe = p := ⟨_, rfl⟩
  have hT : Typed p := by rw [← hp]; exact ty_typed (by rw [ht]; decide)
  rw [hp] at ht
  have hn1 : p.ty ≠ 1 := by rw [ht]; decide
  cases hT with
  | num n => exact absurd ht (by unfold PE.ty; rw [if_pos rfl]; decide)
  | pick n ms hm h1 h2 => exact vector_pick d x w0 w g v D t h n ms hp h1 h2
  | one k ns a h1 h2 hn ha =>
    obtain ⟨mv, nv, kv, xa, rfl, hpa⟩ := pe_one hp
    subst hpa
    rw [hp]
    have e0 := comF_one (D := D) (t := t) (d := d) hn1 (show k ≠ 2 by omega)
    refine vector_kids d IH _ w0 w g v D t h (show 3 ≤ k by omega) (show k ≤ 20 by omega) (show 1 ≤ 2 by decide) (fun q hq => ?_) _ (fun j hj hbef hne => ?_) (.inl ⟨h1, rfl⟩) (fun a' ha' he => ?_) (fun a' b' hab => ?_)
    · have hq : q ∈ [xa] := hq
      rw [List.mem_singleton] at hq; subst hq; rw [ha]; decide
    · have hj2 : j < 1 := hj
      obtain rfl : j = 0 := by omega
      have hne : (comF D t d xa.pe).2 ≠ 0 := hne
      show comF D t (d + 1) _ = (EV.zero, (comF D t d xa.pe).2)
      rw [e0, if_pos hne]
    · have ha' : [xa] = [a'] := ha'
      injection ha' with e1
      subst e1
      rw [e0, if_neg (fun hn => hn he)]
      rfl
    · have hab : [xa] = [a', b'] := hab
      cases hab
  | two k a b h1 h2 ha hb =>
    obtain ⟨mv, nv, kv, xa, xb, rfl, hpa, hpb⟩ := pe_two hp
    subst hpa; subst hpb
    rw [hp]
    have e0 := comF_two (D := D) (t := t) (d := d) hn1 (show k ≠ 2 by intro e; omega)
    refine vector_kids d IH _ w0 w g v D t h (show 3 ≤ k by omega) (show k ≤ 20 by omega) (show 2 ≤ 2 by decide) (fun q hq => ?_) _ (fun j hj hbef hne => ?_) (.inr ⟨h2, rfl⟩) (fun a' ha' he => ?_) (fun a' b' hab he1 he2 => ?_)
    · have hq : q ∈ [xa, xb] := hq
      rcases List.mem_cons.1 hq with rfl | hq
      · exact ha
      · rw [List.mem_singleton] at hq; subst hq; exact hb
    · have hj2 : j < 2 := hj
      rcases (show j = 0 ∨ j = 1 by omega) with rfl | rfl
      · have hne : (comF D t d xa.pe).2 ≠ 0 := hne
        show comF D t (d + 1) _ = (EV.zero, (comF D t d xa.pe).2)
        rw [e0, if_pos hne]
      · have hne : (comF D t d xb.pe).2 ≠ 0 := hne
        have hz : (comF D t d xa.pe).2 = 0 := hbef 0 (show 0 < 2 by decide) (by decide)
        show comF D t (d + 1) _ = (EV.zero, (comF D t d xb.pe).2)
        rw [e0, if_neg (fun hn => hn hz), if_pos hne]
    · have ha' : [xa, xb] = [a'] := ha'
      cases ha'
    · have hab : [xa, xb] = [a', b'] := hab
      injection hab with e1 e2
      injection e2 with e2
      subst e1; subst e2
      rw [e0, if_neg (fun hn => hn he1), if_neg (fun hn => hn he2)]
      rfl
theorem ty_rng (x : PE) : x.ty = 0 ∨ x.ty = 1 ∨ x.ty = 2 := by
  obtain ⟨k, n, ms, ns, ks⟩ := x
  unfold PE.ty
  split
  · split <;> simp
  split
  · split <;> simp
  split
  · simp
  split
  · unfold oneT; split <;> simp
  split
  · unfold twoT
    split
    · repeat' split
      all_goals simp
    · simp
  · simp
theorem comF_plain {D : List SK} {t : Int} {d : Nat} {x : PE} (h : x.ty ≠ 1) : comF D t (d + 1) x = (⟨false, 0, (comF D t (d + 1) x).1.ps⟩, (comF D t (d + 1) x).2) := by
  obtain ⟨k, n, ms, ns, ks⟩ := x
  unfold comF
  rw [if_neg h]
  split
  · rfl
  · match ks with
    | [] => rfl
    | [a] => simp only; split <;> rfl
    | [a, b] =>
      simp only
      split
      · rfl
      · split <;> rfl
    | a :: b :: c :: l => rfl
structure CmAt (w : World) (bx b6 d : Nat) (x : XE) (w0 : World) (g : Nat) (v : Value) (D : List SK) (t : Int) (W : World) : Prop where
  box : Blk W bx 37 [.int .i64 x.kd, .int .i64 x.n, x.mv, x.nv, x.kv]
  res : Blk W b6 95 [.bool false, .int .i64 0, .slice none 0 0]
  ge : w.heap.size ≤ b6
  ev : EvOk d x w0 g v D t W
  bel : Below w.heap.size w W
theorem CmAt.below {w : World} {bx b6 d : Nat} {x : XE} {w0 : World} {g : Nat} {v : Value} {D : List SK} {t : Int} {W W' : World} (h : CmAt w bx b6 d x w0 g v D t W) (hb : Below W.heap.size W W') : CmAt w bx b6 d x w0 g v D t W' := ⟨h.box.below hb h.box.lt, h.res.below hb h.res.lt, h.ge, h.ev.below hb, h.bel.trans (hb.mono h.bel.size)⟩
theorem CmAt.put3 {w : World} {bx b6 d : Nat} {x : XE} {w0 : World} {g : Nat} {v : Value} {D : List SK} {t : Int} {W : World} (h : CmAt w bx b6 d x w0 g v D t W) (u0 u1 u2 : Value) :
    Below w.heap.size w (((W.setCell ⟨b6, 0, none⟩ u0).setCell ⟨b6, 1, none⟩ u1).setCell ⟨b6, 2, none⟩ u2) ∧
    Blk (((W.setCell ⟨b6, 0, none⟩ u0).setCell ⟨b6, 1, none⟩ u1).setCell ⟨b6, 2, none⟩ u2) b6 95 [u0, u1, u2] ∧
    ∀ ps sv, VAt ps sv W → VAt ps sv (((W.setCell ⟨b6, 0, none⟩ u0).setCell ⟨b6, 1, none⟩ u1).setCell ⟨b6, 2, none⟩ u2) :=
  ⟨((h.bel.setCell h.ge u0).setCell h.ge u1).setCell h.ge u2, ((h.res.set 0 u0).set 1 u1).set 2 u2, fun ps sv hv =>
    hv.grown (u := .slice (some ⟨b6, 0, none⟩) 1 1) (h.res.owns (base := w.heap.size) (size := 3) (n := 1) (cap := 1) h.ge (Nat.le_refl _) (by decide) rfl) (by decide) (by decide)
      ⟨rfl, rfl, rfl, by simp, fun k hk hne => by
        have hk6 : k ≠ b6 := fun e => hne (by rw [e]; rfl)
        rw [Below.heap_setCell _ _ _ k hk6, Below.heap_setCell _ _ _ k hk6, Below.heap_setCell _ _ _ k hk6]⟩⟩
set_option maxHeartbeats 8000000 in
theorem comes_step (d : Nat) (IH : ComSaid d) : ComSaid (d + 1) := by
  intro x w0 w g v D t h ht
  obtain ⟨A1, c1, A2, c2, A3, c3, e1, e2, e3⟩ := okX_forms h.ok
  obtain ⟨kk, nn, mv, ms, nv, ns, kv, ks⟩ := x
  simp only [XE.mv, XE.nv, XE.kv, XE.ms, XE.ns, XE.kids] at e1 e2 e3
  subst e1; subst e2; subst e3
  have hb1 := (Below.refl w.heap.size w).alloc (Nat.le_refl _) (.cells #[.int .i64 kk, .int .i64 nn, .slice A1 ms.length c1, .slice A2 ns.length c2, .slice A3 ks.length c3] 37)
  have hb2 : Below w.heap.size w ((w.alloc (.cells #[.int .i64 kk, .int .i64 nn, .slice A1 ms.length c1, .slice A2 ns.length c2, .slice A3 ks.length c3] 37)).alloc (.cells #[.bool false, .int .i64 0, .slice none 0 0] 95)) := hb1.alloc (by simp) (.cells #[.bool false, .int .i64 0, .slice none 0 0] 95)
  have hs1 : (w.alloc (.cells #[.int .i64 kk, .int .i64 nn, .slice A1 ms.length c1, .slice A2 ns.length c2, .slice A3 ks.length c3] 37)).heap.size = w.heap.size + 1 := by simp
  have HA0 : Hid (CmAt w w.heap.size (w.heap.size + 1) (d + 1) (XE.mk kk nn (.slice A1 ms.length c1) ms (.slice A2 ns.length c2) ns (.slice A3 ks.length c3) ks) w0 g v D t ((w.alloc (.cells #[.int .i64 kk, .int .i64 nn, .slice A1 ms.length c1, .slice A2 ns.length c2, .slice A3 ks.length c3] 37)).alloc (.cells #[.bool false, .int .i64 0, .slice none 0 0] 95))) := Lib.hid ⟨(Blk.mk (heap_alloc_new w (.cells #[.int .i64 kk, .int .i64 nn, .slice A1 ms.length c1, .slice A2 ns.length c2, .slice A3 ks.length c3] 37)) : Blk _ _ _ [.int .i64 kk, .int .i64 nn, .slice A1 ms.length c1, .slice A2 ns.length c2, .slice A3 ks.length c3]).alloc _, by
    have h := (Blk.mk (heap_alloc_new (w.alloc (.cells #[.int .i64 kk, .int .i64 nn, .slice A1 ms.length c1, .slice A2 ns.length c2, .slice A3 ks.length c3] 37)) (.cells #[.bool false, .int .i64 0, .slice none 0 0] 95)) : Blk _ _ 95 [.bool false, .int .i64 0, .slice none 0 0])
    rwa [hs1] at h, by omega, h.below hb2, hb2⟩
  have HTY := Lib.hid (fun V (hV : EvOk (d + 1) (XE.mk kk nn (.slice A1 ms.length c1) ms (.slice A2 ns.length c2) ns (.slice A3 ks.length c3) ks) w0 g v D t V) => type_any (d + 1) _ V hV.small hV.ok)
  have HNM := Lib.hid (fun (h1 : (XE.mk kk nn (.slice A1 ms.length c1) ms (.slice A2 ns.length c2) ns (.slice A3 ks.length c3) ks).pe.ty = 1) V (hV : EvOk (d + 1) (XE.mk kk nn (.slice A1 ms.length c1) ms (.slice A2 ns.length c2) ns (.slice A3 ks.length c3) ks) w0 g v D t V) => numE_any (d + 1) _ V hV.ok h1 hV.fits)
  have HVC := Lib.hid (fun (h1 : (XE.mk kk nn (.slice A1 ms.length c1) ms (.slice A2 ns.length c2) ns (.slice A3 ks.length c3) ks).pe.ty = 2) V (hV : EvOk (d + 1) (XE.mk kk nn (.slice A1 ms.length c1) ms (.slice A2 ns.length c2) ns (.slice A3 ks.length c3) ks) w0 g v D t V) => vecE_any d IH _ w0 V g v D t hV h1)
  unfold XE.val XE.kd XE.n XE.mv XE.nv XE.kv at HTY HNM HVC
  simp only at HTY HNM HVC
  have HT2 := Lib.hid (show (XE.mk kk nn (.slice A1 ms.length c1) ms (.slice A2 ns.length c2) ns (.slice A3 ks.length c3) ks).pe.ty ≠ 1 → (XE.mk kk nn (.slice A1 ms.length c1) ms (.slice A2 ns.length c2) ns (.slice A3 ks.length c3) ks).pe.ty = 2 from fun h1 => by
    rcases ty_rng (XE.mk kk nn (.slice A1 ms.length c1) ms (.slice A2 ns.length c2) ns (.slice A3 ks.length c3) ks).pe with h2 | h2 | h2
    · exact absurd h2 ht
    · exact absurd h2 h1
    · exact h2)
  obtain ⟨RES, hR⟩ : ∃ r, comF D t (d + 1) (XE.mk kk nn (.slice A1 ms.length c1) ms (.slice A2 ns.length c2) ns (.slice A3 ks.length c3) ks).pe = r := ⟨_, rfl⟩
  have HNR := Lib.hid (fun (h1 : (XE.mk kk nn (.slice A1 ms.length c1) ms (.slice A2 ns.length c2) ns (.slice A3 ks.length c3) ks).pe.ty = 1) => (hR.symm.trans (comF_num h1)))
  rw [hR] at HVC
  rw [hR]
  have HNE := Lib.hid (fun (h1 : (XE.mk kk nn (.slice A1 ms.length c1) ms (.slice A2 ns.length c2) ns (.slice A3 ks.length c3) ks).pe.ty ≠ 1) => show RES = (⟨false, 0, RES.1.ps⟩, RES.2) from by rw [← hR]; exact comF_plain h1)
  clear h ht hb1 hb2 hs1 hR IH
  show Calls _ _ #[.agg #[.int .i64 kk, .int .i64 nn, .slice A1 ms.length c1, .slice A2 ns.length c2, .slice A3 ks.length c3], .pointer (some ⟨g, 0, none⟩), .int .i64 t] _ _
  generalize (XE.mk kk nn (.slice A1 ms.length c1) ms (.slice A2 ns.length c2) ns (.slice A3 ks.length c3) ks).pe.ty = ty at *
  obtain ⟨nr, hnr⟩ : ∃ r, numV (d + 1) (XE.mk kk nn (.slice A1 ms.length c1) ms (.slice A2 ns.length c2) ns (.slice A3 ks.length c3) ks).pe = r := ⟨_, rfl⟩
  rw [hnr] at HNM HNR
  clear hnr
  obtain ⟨nv, ne⟩ := nr
  simp only at HNM HNR
  have HG := Lib.hid (show ∃ g h, w.heap.size = g ∧ w.heap.size + 1 = h from ⟨_, _, rfl, rfl⟩)
  go_enter Tryz.func34, Tryz.ntmps34
  go_upto_region 1 with fail
  obtain ⟨bx, b6, hbx, hb6⟩ := HG.out
  obtain ⟨W1, hW1⟩ : ∃ V, (w.alloc (.cells #[.int .i64 kk, .int .i64 nn, .slice A1 ms.length c1, .slice A2 ns.length c2, .slice A3 ks.length c3] 37)).alloc (.cells #[.bool false, .int .i64 0, .slice none 0 0] 95) = V := ⟨_, rfl⟩
  have HA := Lib.hid (show CmAt w bx b6 (d + 1) (XE.mk kk nn (.slice A1 ms.length c1) ms (.slice A2 ns.length c2) ns (.slice A3 ks.length c3) ks) w0 g v D t W1 by rw [← hbx, ← hb6, ← hW1]; exact HA0.out)
  rw [hW1, hb6, hbx]
  clear HA0 HG hbx hb6 hW1
  obtain ⟨z0, z1, z2, z3, z4⟩ := blk_cells5 HA.out.box
  simp only [XE.kd, XE.n, XE.mv, XE.nv, XE.kv] at z0 z1 z2 z3 z4
  go_wp2_with fail
  (with_reducible refine (HTY.out _ HA.out.ev).mono ?_); rintro e w2 ⟨rfl, hb2⟩
  have HA2 := Lib.hid (HA.out.below hb2)
  clear hb2 HA HTY z0 z1 z2 z3 z4
  obtain ⟨z0, z1, z2, z3, z4⟩ := blk_cells5 HA2.out.box
  simp only [XE.kd, XE.n, XE.mv, XE.nv, XE.kv] at z0 z1 z2 z3 z4
  by_cases hty : ty = 1
  case pos =>
    have t1 : (ty == 1) = true := by rw [hty]; rfl
    have HRS := Lib.hid (HNR.out hty)
    have HCN := Lib.hid (HNM.out hty)
    clear hty HNM HNR HVC HT2 HNE
    go_wp2_with fail
    (with_reducible refine (HCN.out _ HA2.out.ev).mono ?_); rintro e w3 ⟨rfl, hb3⟩
    have HA3 := Lib.hid (HA2.out.below hb3)
    clear hb3 HA2 HCN z0 z1 z2 z3 z4
    obtain ⟨y0, y1, y2⟩ : w3.cell? ⟨b6, 0, none⟩ = some (.bool false) ∧ w3.cell? ⟨b6, 1, none⟩ = some (.int .i64 0) ∧ w3.cell? ⟨b6, 2, none⟩ = some (.slice none 0 0) := ⟨HA3.out.res.cell 0, HA3.out.res.cell 1, HA3.out.res.cell 2⟩
    have f0 := HA3.out.res.frozen 0; have f1 := HA3.out.res.frozen 1; have f2 := HA3.out.res.frozen 2
    by_cases hne : ne = 0
    case pos =>
      subst hne
      have HR2 : Hid (RES = (⟨true, nv, []⟩, 0)) := Lib.hid (by rw [HRS.out, if_neg (fun h => h rfl)])
      clear HRS
      go_wp2_with fail
      obtain ⟨hp1, hp2, hp3⟩ := HA3.out.put3 (.bool true) (.int .i64 nv) (.slice none 0 0)
      have q0 := hp2.cell 0; have q1 := hp2.cell 1; have q2 := hp2.cell 2
      simp only [List.getElem?_cons_zero, List.getElem?_cons_succ] at q0 q1 q2
      refine bodyPost_ret (v := .tuple #[.agg #[.bool true, .int .i64 nv, .slice none 0 0], .int .i64 0]) (by simp [results, Tryz.results34, go_sem, q0, q1, q2]) rfl ?_
      exact ⟨.slice none 0 0, by rw [HR2.out], by rw [HR2.out]; exact VAt.nil _, hp1⟩
    case neg =>
      have t2 : (ne != 0) = true := by rw [bne_iff_ne]; exact hne
      have HR2 : Hid (RES = (EV.zero, ne)) := Lib.hid (by rw [HRS.out, if_pos hne])
      clear HRS hne
      go_wp2_with fail
      obtain ⟨hp1, hp2, hp3⟩ := HA3.out.put3 (.bool false) (.int .i64 0) (.slice none 0 0)
      have q0 := hp2.cell 0; have q1 := hp2.cell 1; have q2 := hp2.cell 2
      simp only [List.getElem?_cons_zero, List.getElem?_cons_succ] at q0 q1 q2
      refine bodyPost_ret (v := .tuple #[.agg #[.bool false, .int .i64 0, .slice none 0 0], .int .i64 ne]) (by simp [results, Tryz.results34, go_sem, q0, q1, q2]) rfl ?_
      exact ⟨.slice none 0 0, by rw [HR2.out] <;> rfl, by rw [HR2.out]; exact VAt.nil _, hp1⟩
  case neg =>
    have t1 : (ty == 1) = false := by rw [beq_eq_false_iff_ne]; exact hty
    have HRS := Lib.hid (HNE.out hty)
    have HCV := Lib.hid (HVC.out (HT2.out hty))
    clear hty HNM HNR HVC HT2 HNE
    obtain ⟨⟨rn, rnn, rps⟩, re⟩ := RES
    simp only at HRS HCV
    go_wp2_with fail
    (with_reducible refine (HCV.out _ HA2.out.ev).mono ?_); rintro e w3 ⟨sv, rfl, hv3, hb3⟩
    have HA3 := Lib.hid (HA2.out.below hb3); have HV3 := Lib.hid hv3
    obtain ⟨SA, sn, sc, rfl⟩ := hv3.form
    clear hb3 hv3 HA2 HCV z0 z1 z2 z3 z4
    obtain ⟨y0, y1, y2⟩ : w3.cell? ⟨b6, 0, none⟩ = some (.bool false) ∧ w3.cell? ⟨b6, 1, none⟩ = some (.int .i64 0) ∧ w3.cell? ⟨b6, 2, none⟩ = some (.slice none 0 0) := ⟨HA3.out.res.cell 0, HA3.out.res.cell 1, HA3.out.res.cell 2⟩
    have f0 := HA3.out.res.frozen 0; have f1 := HA3.out.res.frozen 1; have f2 := HA3.out.res.frozen 2
    go_wp2_with fail
    obtain ⟨hp1, hp2, hp3⟩ := HA3.out.put3 (.bool false) (.int .i64 0) (.slice SA sn sc)
    have q0 := hp2.cell 0; have q1 := hp2.cell 1; have q2 := hp2.cell 2
    simp only [List.getElem?_cons_zero, List.getElem?_cons_succ] at q0 q1 q2
    refine bodyPost_ret (v := .tuple #[.agg #[.bool false, .int .i64 0, .slice SA sn sc], .int .i64 re]) (by simp [results, Tryz.results34, go_sem, q0, q1, q2]) rfl ?_
    exact ⟨.slice SA sn sc, by rw [HRS.out] <;> rfl, hp3 _ _ HV3.out, hp1⟩
theorem comE_any : ∀ d, ComSaid d
  | 0 => fun x w0 w g v D t h => h.ok.elim
  | d + 1 => comes_step d (comE_any d)
end Go.Proofs.YtlmakdclebbbkaaGreat

namespace Go.Proofs.YtlmakdclebbbkaaGreat
open Go.ChangeShapes Go.WideShapes Go.ChangeAt Go.RowKit
set_option linter.unusedVariables false
set_option maxRecDepth 100000
theorem strs_one (l : List ByteArray) : ∀ u ∈ strs l, u.oneCell' = true := by
  intro u hu; simp only [strs, List.mem_map] at hu; obtain ⟨b, _, rfl⟩ := hu; rfl
theorem Tryz.infoStr : (Tryz.prog.info? 9).map (fun i => (i.zero, i.size, i.bytes)) = some (some (.string ⟨#[]⟩), 1, 16) := by kernel_rfl
theorem clone_str (A : Option Addr) (n c B : Nat) (zs : List ByteArray) (w : World) (h : Sees w B 1 A n (strs zs)) (hB : B ≤ w.heap.size) (hn : n ≤ 1000000) :
    Calls Tryz.prog 154 #[.slice A n c] w (OwnAns 9 1 n (strs zs) w) := by
  have HL := Lib.hid h.str_len
  have H := Lib.hid h; clear h
  obtain ⟨i0, hi, hz0, hz1, hz2⟩ := info_parts Tryz.infoStr
  have hnil := fun w => Lib.run_eql_slice_nil (P := Tryz.prog) w 34 9 A n c 0 0 Tryz.underlying34
  cases A with
  | none =>
    have hn0 : n = 0 := by
      rcases Nat.eq_zero_or_pos n with h | h
      · exact h
      · obtain ⟨ad, h, _⟩ := H.out.at_ h; cases h
    subst hn0
    have hl0 : zs = [] := List.eq_nil_of_length_eq_zero HL.out
    subst hl0
    have hr := Lib.hid (show w.ownsRow w.heap.size 9 1 (.slice none 0 0) 0 (strs []) by simpa [strs] using World.ownsRow_nil w w.heap.size 9 1)
    go_enter Tryz.func154, Tryz.ntmps154
    go_wp2_with fail
    go_ret
    exact ownAns hr.out (Below.refl _ _) rfl (Nat.le_refl _) (by omega)
  | some ad =>
    have hown0 : (w.alloc (.cells #[] 9)).ownsRow w.heap.size 9 1 (.slice (some ⟨w.heap.size, 0, none⟩) 0 0) 0 [] := World.ownsRow_made w #[] 0 (Nat.le_refl _) (by unfold maxLen; omega) rfl
    have HO := Lib.hid hown0; clear hown0
    have HS := Lib.hid (H.out.below (((Below.refl B w).alloc hB (.cells #[] 9)))); clear H
    go_enter Tryz.func154, Tryz.ntmps154
    go_wp2_with (at_builtin; refine wpList_append_sees rfl (.tmp 5) (.tmp 6) 34 rfl w.heap.size 9 i0 (.string ⟨#[]⟩) 1 16 Tryz.underlying34 hi hz0 hz1 hz2 rfl (by decide) _ 0 [] rfl HO.out B (some ad) n _ (strs zs) rfl HS.out (strs_one _) (by unfold maxLen; omega) (by omega) (by simp) ?_)
    intro v' w1 hown hg
    have hb := ((Below.refl w.heap.size w).alloc (Nat.le_refl _) _).grown hg (by simp) (by simp [Value.ownBlock])
    try simp only [Nat.zero_add, List.nil_append] at hown
    obtain ⟨A2, c2, rfl, hc3, hc4⟩ := own_slice hown
    have H1 := Lib.hid hown; have H2 := Lib.hid hb; clear hown hb hg
    go_wp2_with fail
    go_ret
    exact ownAns H1.out H2.out rfl hc3 hc4
end Go.Proofs.YtlmakdclebbbkaaGreat
