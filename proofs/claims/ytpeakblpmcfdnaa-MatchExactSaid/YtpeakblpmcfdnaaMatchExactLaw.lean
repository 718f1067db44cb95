/- The walk of MatchExact. -/
import Derived.Test.YtpeakblpmcfdnaaExactMath
import Derived.Deep.DeepCutAuto
import Derived.Deep.QuietTactic
import Derived.BigQuiet
namespace Go.Proofs.Ytpeakblpmcfdnaa
open Go.ChangeShapes Go.WideShapes Go.ChangeAt Go.RowKit
set_option linter.unusedVariables false
set_option maxRecDepth 100000
theorem mtAt_two {w0 w : World} {la lb : List Lbl} {va vb : Value} (h : TwoL w0 la lb va vb w) : MtAt w0 [(va, la), (vb, lb)] [] w := ⟨⟨fun p hp => by
  simp only [List.mem_cons, List.not_mem_nil, or_false] at hp
  rcases hp with rfl | rfl
  · exact h.a
  · exact h.b, h.bel⟩, fun p hp => absurd hp List.not_mem_nil⟩
set_option maxHeartbeats 8000000 in
theorem match_exact (ka kb : KSet) (w : World) (ha : ka.ok w.heap.size w) (hb : kb.ok w.heap.size w) :
    Calls Try.prog 6 #[ka.val, kb.val] w fun e w' => e = .returned (.bool true) ∧ Below w.heap.size w w' := by
  have HKA := Lib.hid (fun (W : World) (h : ka.ok w.heap.size W) (hB : w.heap.size ≤ W.heap.size) => keepset_any ka w.heap.size W h hB)
  have HKB := Lib.hid (fun (W : World) (h : kb.ok w.heap.size W) (hB : w.heap.size ≤ W.heap.size) => keepset_any kb w.heap.size W h hB)
  have HOA := Lib.hid ha; have HOB := Lib.hid hb
  clear ha hb
  unfold KSet.val at *
  go_enter Try.func6, Try.ntmps6
  go_upto_region 1 with fail
  have HZ : Hid (BoxAt w ka kb w.heap.size (w.heap.size + 1) ((w.alloc (.cells #[.slice ka.A ka.n ka.c, .slice ka.A2 ka.n2 ka.c2] 39)).alloc (.cells #[.slice kb.A kb.n kb.c, .slice kb.A2 kb.n2 kb.c2] 39))) := Lib.hid (by
    have hbl : Below w.heap.size w ((w.alloc (.cells #[.slice ka.A ka.n ka.c, .slice ka.A2 ka.n2 ka.c2] 39)).alloc (.cells #[.slice kb.A kb.n kb.c, .slice kb.A2 kb.n2 kb.c2] 39)) := ((Below.refl _ _).alloc (Nat.le_refl _) _).alloc (by simp) _
    have h2 : Blk ((w.alloc (.cells #[.slice ka.A ka.n ka.c, .slice ka.A2 ka.n2 ka.c2] 39)).alloc (.cells #[.slice kb.A kb.n kb.c, .slice kb.A2 kb.n2 kb.c2] 39)) (w.alloc (.cells #[.slice ka.A ka.n ka.c, .slice ka.A2 ka.n2 ka.c2] 39)).heap.size 39 [.slice kb.A kb.n kb.c, .slice kb.A2 kb.n2 kb.c2] := Blk.mk (heap_alloc_new _ _)
    rw [show (w.alloc (.cells #[.slice ka.A ka.n ka.c, .slice ka.A2 ka.n2 ka.c2] 39)).heap.size = w.heap.size + 1 by simp] at h2
    exact ⟨HOA.out.below hbl, HOB.out.below hbl, (Blk.mk (heap_alloc_new w _)).alloc _, h2, hbl⟩)
  obtain ⟨W, hW⟩ : ∃ W, (w.alloc (.cells #[.slice ka.A ka.n ka.c, .slice ka.A2 ka.n2 ka.c2] 39)).alloc (.cells #[.slice kb.A kb.n kb.c, .slice kb.A2 kb.n2 kb.c2] 39) = W := ⟨_, rfl⟩
  rw [hW] at HZ
  try rw [hW]
  clear hW HOA HOB
  obtain ⟨ba, hba⟩ : ∃ ba, w.heap.size = ba := ⟨_, rfl⟩
  obtain ⟨bb, hbb⟩ : ∃ bb, w.heap.size + 1 = bb := ⟨_, rfl⟩
  rw [hbb, hba] at HZ
  rw [show (⟨w.heap.size + 1, 0, none⟩ : Addr) = ⟨bb, 0, none⟩ by rw [hbb], show (⟨w.heap.size, 0, none⟩ : Addr) = ⟨ba, 0, none⟩ by rw [hba]]
  clear hba hbb
  go_cut [5, 6] (fun x5 x6 wx => TwoL w (setF ka) (setF kb) x5 x6 wx)
  case first =>
    have Z := Lib.hid HZ.out.drew
    clear HZ
    have tokA : True := trivial
    have tokB : True := trivial
    go_region_held3 (fun V => V.cell? ⟨ba, 0, none⟩ = some (.slice ka.A ka.n ka.c) ∧ V.cell? ⟨ba, 1, none⟩ = some (.slice ka.A2 ka.n2 ka.c2) ∧ V.cell? ⟨bb, 0, none⟩ = some (.slice kb.A kb.n kb.c) ∧ V.cell? ⟨bb, 1, none⟩ = some (.slice kb.A2 kb.n2 kb.c2)) (exact Z.out.cells) (first
      | (have tk := tokA; (with_reducible refine (HKA.out _ Z.out.okA Z.out.bel.size).mono ?_); rintro e wa haa; obtain ⟨va, rfl, hva, hba⟩ := haa.hasL; have HVA := Lib.hid hva; (first | (have HVB := Lib.hid (HVB.out.below hba)) | skip); have Z := Lib.hid (Z.out.below hba); clear tokA tk haa hva hba)
      | (have tk := tokB; (with_reducible refine (HKB.out _ Z.out.okB Z.out.bel.size).mono ?_); rintro e wb hbb; obtain ⟨vb, rfl, hvb, hbb2⟩ := hbb.hasL; have HVB := Lib.hid hvb; (first | (have HVA := Lib.hid (HVA.out.below hbb2)) | skip); have Z := Lib.hid (Z.out.below hbb2); clear tokB tk hbb hvb hbb2)
      | fail)
    all_goals
      go_wp2_with fail
      go_meet
      exact ⟨HVA.out, HVB.out, Z.out.bel⟩
  case rest =>
    have HT := Lib.hid hcut
    clear hcut HZ HKA HKB
    have HRA := Lib.hid (setF_right ka); have HRB := Lib.hid (setF_right kb)
    generalize setF ka = la at *
    generalize setF kb = lb at *
    obtain ⟨A, cA, rfl⟩ := HT.out.a.form
    obtain ⟨A', cB, rfl⟩ := HT.out.b.form
    have hla := rightS_len HRA.out
    have hlb := rightS_len HRB.out
    have HT0 := Lib.hid (mtAt_two HT.out)
    clear HT
    go_wp2_with fail
    (with_reducible refine (exact_any A la.length cA _ la _ (HT0.out.get (v := .slice A la.length cA) (l := la) (by simp)).sees (Nat.le_refl _) (by omega)).mono ?_); rintro e w1 hans
    obtain ⟨M, cM, rfl, hm, hb⟩ := hasM_of (exactM_length la) hans
    have HT1 := Lib.hid ((HT0.out.below hb).add hm)
    clear hans hm hb HT0
    go_wp2_with fail
    go_loopg [8, 19] la.length (fun g x8 x19 wr => ∃ k : Nat, k + g = la.length ∧ x19 = .int .i64 k ∧ x8 = .bool ((la.take k).all fun p => decide (getF lb p.1 = p.2)) ∧ MtAt w [(.slice A la.length cA, la), (.slice A' lb.length cB, lb)] [(.slice M la.length cM, exactM la)] wr)
    case atStart => exact ⟨0, by omega, rfl, rfl, HT1.out⟩
    case round =>
      obtain ⟨k, hkg, rfl, rfl, hmt⟩ := hrel
      have HTR := Lib.hid hmt
      clear hmt HT1
      cases gk with
      | succ g =>
        have hk : k < la.length := by omega
        obtain ⟨hS, _, hcx1, hcx2⟩ := (HTR.out.get (v := .slice A la.length cA) (l := la) (by simp)).slice
        obtain ⟨ad, hkl, rfl, c0, c1⟩ := hS.lbl hk
        have hal := World.block_lt_of_cell? wr _ c0
        have HTK : Hid (((la.take (k + 1)).all fun p => decide (getF lb p.1 = p.2)) = (((la.take k).all fun p => decide (getF lb p.1 = p.2)) && decide (getF lb la[k].1 = la[k].2))) := Lib.hid (by
          rw [List.take_succ_eq_append_getElem hkl, List.all_append, List.all_cons, List.all_nil, Bool.and_true])
        clear hS
        generalize la[k] = p at *
        obtain ⟨a, b⟩ := p
        simp only at c0 c1
        obtain ⟨hs, hhs⟩ : ∃ q, ((la.take k).all fun p => decide (getF lb p.1 = p.2)) = q := ⟨_, rfl⟩
        rw [hhs] at HTK
        rw [hhs]
        clear hhs
        obtain ⟨W, hW⟩ : ∃ W, wr.alloc (.cells #[.string a, .string b] 26) = W := ⟨_, rfl⟩
        have HKW : Hid (Blk W wr.heap.size 26 [.string a, .string b]) := Lib.hid (by rw [← hW]; exact Blk.mk (heap_alloc_new wr _))
        have HTW := Lib.hid (show MtAt w [(.slice (some ad) la.length cA, la), (.slice A' lb.length cB, lb)] [(.slice M la.length cM, exactM la)] W by rw [← hW]; exact HTR.out.alloc _)
        go_upto_region 7 with fail
        try rw [hW]
        clear hW HTR c0 c1 hal
        obtain ⟨bx, hbx⟩ : ∃ bx, wr.heap.size = bx := ⟨_, rfl⟩
        rw [hbx] at HKW
        rw [show (⟨wr.heap.size, 0, none⟩ : Addr) = ⟨bx, 0, none⟩ by rw [hbx]]
        clear hbx
        cases hs with
        | false =>
          have HN : Hid (((la.take (k + 1)).all fun p => decide (getF lb p.1 = p.2)) = false) := Lib.hid (by rw [HTK.out]; rfl)
          clear HTK
          go_quiet (fail)
          go_wp2_with fail
          go_roundg g
          case measure => omega
          case rel => exact ⟨k + 1, by omega, by go_num, by rw [HN.out], HTW.out.drewN _⟩
        | true =>
          have HTK2 : Hid (((la.take (k + 1)).all fun p => decide (getF lb p.1 = p.2)) = decide (getF lb a = b)) := Lib.hid (by rw [HTK.out]; rfl)
          clear HTK
          have Z := Lib.hid (And.intro (HTW.out.below (Below.refl _ _).drew) (HKW.out.below (Below.refl _ _).drew HKW.out.lt))
          have HGV := Lib.hid (fun V (h : MtAt w [(.slice (some ad) la.length cA, la), (.slice A' lb.length cB, lb)] [(.slice M la.length cM, exactM la)] V) => get_any A' lb.length cB V.heap.size lb a V (h.get (v := .slice A' lb.length cB) (l := lb) (by simp)).sees (Nat.le_refl _) (by omega))
          clear HTW HKW
          obtain ⟨r, hr⟩ : ∃ r : Bool, ((getF lb a).toList == b.toList) = r := ⟨_, rfl⟩
          have HRR : Hid (decide (getF lb a = b) = r) := Lib.hid (by
            rw [← hr]
            by_cases h : getF lb a = b
            · rw [decide_eq_true h, h]; simp
            · rw [decide_eq_false h]; exact (beq_eq_false_iff_ne.2 (fun e => h (ba_ext e))).symm)
          generalize getF lb a = v at *
          have tok : True := trivial
          go_region_held3 (fun V => V.cell? ⟨bx, 0, none⟩ = some (.string a) ∧ V.cell? ⟨bx, 1, none⟩ = some (.string b)) (exact ⟨by have h := Z.out.2.cell 0; simpa using h, by have h := Z.out.2.cell 1; simpa using h⟩) (first
            | (have tk := tok; (with_reducible refine (HGV.out _ Z.out.1).mono ?_); rintro e wa ⟨rfl, hba⟩; have Z := Lib.hid (And.intro (Z.out.1.below hba) (Z.out.2.below hba Z.out.2.lt)); clear tok tk hba)
            | fail)
          all_goals
            go_wp2_with fail
            try rw [hr]
            go_roundg g
            case measure => omega
            case rel => exact ⟨k + 1, by omega, by go_num, by rw [HTK2.out, HRR.out], Z.out.1⟩
      | zero =>
        obtain rfl : k = la.length := by omega
        have HH : Hid (((la.take la.length).all fun p => decide (getF lb p.1 = p.2)) = allF lb (exactM la)) := Lib.hid (by rw [allF_exact, List.take_length])
        have HBO := Lib.hid (exact_both HRA.out HRB.out)
        have HSF := Lib.hid (exact_self HRA.out); have HRM := Lib.hid (exact_right HRA.out); have HPM := Lib.hid (exact_print HRA.out)
        obtain ⟨h, hh⟩ : ∃ q, allF lb (exactM la) = q := ⟨_, rfl⟩
        obtain ⟨h2, hh2⟩ : ∃ q, allF la (exactM lb) = q := ⟨_, rfl⟩
        have H1 := Lib.hid hh; have H2 := Lib.hid hh2
        have HT2 := HTR
        rw [hh] at HH
        rw [hh, hh2] at HBO
        rw [HH.out]
        clear hh hh2 HH HTR HRA HRB
        cases h2 with
        | false =>
          have HQ : Hid (decide (la = lb) = false) := Lib.hid HBO.out.symm
          clear HBO
          go_wp2_with fail
          (with_reducible refine (rightM_any M la.length cM _ (exactM la) _ (HT2.out.getM (v := .slice M la.length cM) (l := exactM la) (by simp)).sees (Nat.le_refl _) (by omega)).mono ?_); rintro e w3 ⟨rfl, hb⟩
          rw [HRM.out]
          have HT3 := Lib.hid (HT2.out.below hb)
          clear hb HT2
          go_wp2_with fail
          (with_reducible refine (all_any A la.length cA _ la M la.length cM _ (exactM la) _ (HT3.out.get (v := .slice A la.length cA) (l := la) (by simp)).sees (Nat.le_refl _) (by omega) (HT3.out.getM (v := .slice M la.length cM) (l := exactM la) (by simp)).sees (Nat.le_refl _) (by omega)).mono ?_); rintro e w4 ⟨rfl, hb⟩
          rw [HSF.out]
          have HT4 := Lib.hid (HT3.out.below hb)
          clear hb HT3
          go_wp2_with fail
          (with_reducible refine (all_any A' lb.length cB _ lb M la.length cM _ (exactM la) _ (HT4.out.get (v := .slice A' lb.length cB) (l := lb) (by simp)).sees (Nat.le_refl _) (by omega) (HT4.out.getM (v := .slice M la.length cM) (l := exactM la) (by simp)).sees (Nat.le_refl _) (by omega)).mono ?_); rintro e w5 ⟨rfl, hb⟩
          rw [H1.out]
          have HT5 := Lib.hid (HT4.out.below hb)
          clear hb HT4
          go_wp2_with fail
          (with_reducible refine (exact_any A' lb.length cB _ lb _ (HT5.out.get (v := .slice A' lb.length cB) (l := lb) (by simp)).sees (Nat.le_refl _) (by omega)).mono ?_); rintro e w6 hans
          obtain ⟨M2, cM2, rfl, hm, hb⟩ := hasM_of (exactM_length lb) hans
          have HT6 := Lib.hid ((HT5.out.below hb).add hm)
          clear hans hm hb HT5
          go_wp2_with fail
          (with_reducible refine (all_any A la.length cA _ la M2 lb.length cM2 _ (exactM lb) _ (HT6.out.get (v := .slice A la.length cA) (l := la) (by simp)).sees (Nat.le_refl _) (by omega) (HT6.out.getM (v := .slice M2 lb.length cM2) (l := exactM lb) (by simp)).sees (Nat.le_refl _) (by omega)).mono ?_); rintro e w7 ⟨rfl, hb⟩
          rw [H2.out]
          have HT7 := Lib.hid (HT6.out.below hb)
          clear hb HT6
          have HT8 := HT7
          clear HT7
          go_wp2_with fail
          (with_reducible refine (same_h (HT8.out.get (v := .slice A la.length cA) (l := la) (by simp)) (HT8.out.get (v := .slice A' lb.length cB) (l := lb) (by simp)) (by omega) (by omega)).mono ?_); rintro e w9 ⟨rfl, m9, rfl⟩
          rw [HQ.out]
          have HT9 := Lib.hid (HT8.out.drewN m9)
          clear HT8
          generalize w7.drewN m9 = w9 at *
          go_wp2_with fail
          (with_reducible refine (printM_any M la.length cM (exactM la) _ _ (HT9.out.getM (v := .slice M la.length cM) (l := exactM la) (by simp)).sees (Nat.le_refl _) (by omega)).mono ?_); rintro e w10 ⟨rfl, hb⟩
          rw [HPM.out]
          have HT10 := Lib.hid (HT9.out.below hb)
          clear hb HT9
          go_wp2_with fail
          (with_reducible refine (print_any A la.length cA la _ _ (HT10.out.get (v := .slice A la.length cA) (l := la) (by simp)).sees (Nat.le_refl _) (by omega)).mono ?_); rintro e w11 ⟨rfl, hb⟩
          have HT11 := Lib.hid (HT10.out.below hb)
          clear hb HT10
          go_wp2_with fail
          (with_reducible refine (match_runs _).mono ?_); rintro e w12 ⟨rfl, hb⟩
          have HT12 := Lib.hid (HT11.out.below hb)
          clear hb HT11
          go_wp2_with fail
          go_ret
          exact ⟨rfl, HT12.out.bel⟩
        | true =>
          have HQ : Hid (decide (la = lb) = h) := Lib.hid HBO.out.symm
          clear HBO
          go_wp2_with fail
          (with_reducible refine (rightM_any M la.length cM _ (exactM la) _ (HT2.out.getM (v := .slice M la.length cM) (l := exactM la) (by simp)).sees (Nat.le_refl _) (by omega)).mono ?_); rintro e w3 ⟨rfl, hb⟩
          rw [HRM.out]
          have HT3 := Lib.hid (HT2.out.below hb)
          clear hb HT2
          go_wp2_with fail
          (with_reducible refine (all_any A la.length cA _ la M la.length cM _ (exactM la) _ (HT3.out.get (v := .slice A la.length cA) (l := la) (by simp)).sees (Nat.le_refl _) (by omega) (HT3.out.getM (v := .slice M la.length cM) (l := exactM la) (by simp)).sees (Nat.le_refl _) (by omega)).mono ?_); rintro e w4 ⟨rfl, hb⟩
          rw [HSF.out]
          have HT4 := Lib.hid (HT3.out.below hb)
          clear hb HT3
          go_wp2_with fail
          (with_reducible refine (all_any A' lb.length cB _ lb M la.length cM _ (exactM la) _ (HT4.out.get (v := .slice A' lb.length cB) (l := lb) (by simp)).sees (Nat.le_refl _) (by omega) (HT4.out.getM (v := .slice M la.length cM) (l := exactM la) (by simp)).sees (Nat.le_refl _) (by omega)).mono ?_); rintro e w5 ⟨rfl, hb⟩
          rw [H1.out]
          have HT5 := Lib.hid (HT4.out.below hb)
          clear hb HT4
          go_wp2_with fail
          (with_reducible refine (exact_any A' lb.length cB _ lb _ (HT5.out.get (v := .slice A' lb.length cB) (l := lb) (by simp)).sees (Nat.le_refl _) (by omega)).mono ?_); rintro e w6 hans
          obtain ⟨M2, cM2, rfl, hm, hb⟩ := hasM_of (exactM_length lb) hans
          have HT6 := Lib.hid ((HT5.out.below hb).add hm)
          clear hans hm hb HT5
          go_wp2_with fail
          (with_reducible refine (all_any A la.length cA _ la M2 lb.length cM2 _ (exactM lb) _ (HT6.out.get (v := .slice A la.length cA) (l := la) (by simp)).sees (Nat.le_refl _) (by omega) (HT6.out.getM (v := .slice M2 lb.length cM2) (l := exactM lb) (by simp)).sees (Nat.le_refl _) (by omega)).mono ?_); rintro e w7 ⟨rfl, hb⟩
          rw [H2.out]
          have HT7 := Lib.hid (HT6.out.below hb)
          clear hb HT6
          go_wp2_with fail
          (with_reducible refine (all_any A' lb.length cB _ lb M la.length cM _ (exactM la) _ (HT7.out.get (v := .slice A' lb.length cB) (l := lb) (by simp)).sees (Nat.le_refl _) (by omega) (HT7.out.getM (v := .slice M la.length cM) (l := exactM la) (by simp)).sees (Nat.le_refl _) (by omega)).mono ?_); rintro e w8 ⟨rfl, hb⟩
          rw [H1.out]
          have HT8 := Lib.hid (HT7.out.below hb)
          clear hb HT7
          go_wp2_with fail
          (with_reducible refine (same_h (HT8.out.get (v := .slice A la.length cA) (l := la) (by simp)) (HT8.out.get (v := .slice A' lb.length cB) (l := lb) (by simp)) (by omega) (by omega)).mono ?_); rintro e w9 ⟨rfl, m9, rfl⟩
          rw [HQ.out]
          have HT9 := Lib.hid (HT8.out.drewN m9)
          clear HT8
          generalize w8.drewN m9 = w9 at *
          go_wp2_with fail
          (with_reducible refine (printM_any M la.length cM (exactM la) _ _ (HT9.out.getM (v := .slice M la.length cM) (l := exactM la) (by simp)).sees (Nat.le_refl _) (by omega)).mono ?_); rintro e w10 ⟨rfl, hb⟩
          rw [HPM.out]
          have HT10 := Lib.hid (HT9.out.below hb)
          clear hb HT9
          go_wp2_with fail
          (with_reducible refine (print_any A la.length cA la _ _ (HT10.out.get (v := .slice A la.length cA) (l := la) (by simp)).sees (Nat.le_refl _) (by omega)).mono ?_); rintro e w11 ⟨rfl, hb⟩
          have HT11 := Lib.hid (HT10.out.below hb)
          clear hb HT10
          go_wp2_with fail
          (with_reducible refine (match_runs _).mono ?_); rintro e w12 ⟨rfl, hb⟩
          have HT12 := Lib.hid (HT11.out.below hb)
          clear hb HT11
          go_wp2_with fail
          go_ret
          exact ⟨rfl, HT12.out.bel⟩
end Go.Proofs.Ytpeakblpmcfdnaa
