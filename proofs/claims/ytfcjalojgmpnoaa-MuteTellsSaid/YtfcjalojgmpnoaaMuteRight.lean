/- mute.Right; klaxonlaw18.eq; the walk of MuteRuns. -/
import Derived.Test.YtfcjalojgmpnoaaMuteRows
namespace Go.Proofs.Ytfcjalojgmpnoaa
open Go.ChangeShapes Go.WideShapes Go.ChangeAt Go.RowKit
set_option linter.unusedVariables false
set_option linter.unusedSimpArgs false
set_option maxRecDepth 100000
theorem rightM_h {W : World} {vm : Value} {ms : List Mtc} (h2 : HasM W vm ms) :
    Calls Try.prog 23 #[vm] W fun e w' => e = .returned (.bool (rightM ms)) ∧ Below W.heap.size W w' := by
  obtain ⟨A2, c2, rfl, k3, k4, k5⟩ := h2
  exact rightM_any A2 _ c2 _ ms W k3 (Nat.le_refl _) (by omega)
theorem rightSil_no {s : Sil} (h : rightM s.ms = false ∨ ¬ s.f ≤ s.t) : rightSil s = false := by
  unfold rightSil
  rcases h with h | h
  · rw [h, Bool.false_and]
  · rw [decide_eq_false h, Bool.and_false]
theorem rightSil_yes {s : Sil} (h : rightM s.ms = true) (h2 : s.f ≤ s.t) : rightSil s = true := by unfold rightSil; rw [h, decide_eq_true h2]; rfl
theorem rightInh_yes {h : Inh} (h1 : rightM h.src = true) (h2 : rightM h.dst = true) (h3 : h.eq.length ≤ 6) (h4 : h.eq.all wordF = true) : rightInh h = true := by unfold rightInh; rw [h1, h2, decide_eq_true h3, h4]; rfl
theorem rightInh_no {h : Inh} (e : rightM h.src = false ∨ rightM h.dst = false ∨ ¬ h.eq.length ≤ 6 ∨ h.eq.all wordF = false) : rightInh h = false := by
  unfold rightInh
  rcases e with e | e | e | e
  · rw [e, Bool.false_and]
  · rw [e, Bool.false_and, Bool.and_false]
  · rw [decide_eq_false e, Bool.false_and, Bool.and_false, Bool.and_false]
  · rw [e, Bool.and_false, Bool.and_false, Bool.and_false]
set_option maxHeartbeats 4000000 in
theorem rightMute_any (A : Option Addr) (n c : Nat) (ss : List Sil) (A2 : Option Addr) (n2 c2 : Nat) (hs : List Inh) (w : World) (hS : SilsAt w A n ss) (hH : InhsAt w A2 n2 hs) (hn : n ≤ 9223372036854775807) (hn2 : n2 ≤ 9223372036854775807) :
    Calls Try.prog 11 #[.slice A n c, .slice A2 n2 c2] w fun e w' => e = .returned (.bool (rightMute ss hs)) ∧ Below w.heap.size w w' := by
  have HT := Lib.hid (((Kept.start w).add hH.stays).add hS.stays)
  have HLS := Lib.hid hS.len
  have HLH := Lib.hid hH.len
  clear hS hH
  go_enter Try.func11, Try.ntmps11
  go_wp2_with fail
  go_loopg [13] n (fun g x13 wr => ∃ k : Nat, k + g = n ∧ x13 = .int .i64 k ∧ Kept w [fun W => SilsAt W A n ss, fun W => InhsAt W A2 n2 hs] wr ∧ ∀ x ∈ ss.take k, rightSil x = true)
  case atStart => exact ⟨0, by omega, rfl, HT.out, (fun x hx => by simp at hx)⟩
  case round =>
    obtain ⟨k, hkg, rfl, hkept, hno⟩ := hrel
    have HTR := Lib.hid hkept; have HNO := Lib.hid hno
    clear hkept hno HT
    cases gk with
    | succ g =>
      have hlt : k < n := by omega
      obtain ⟨ad, hkl, rfl, e0, e1, e2⟩ := HTR.out.p0.get hlt
      have hal := World.block_lt_of_cell? wr _ e0
      have hm := HTR.out.p0.ms ss[k] (List.getElem_mem _)
      have HN : Hid (rightSil ss[k] = true → ∀ x ∈ ss.take (k + 1), rightSil x = true) := Lib.hid (fun h => upto_more (p := fun x => rightSil x = true) hkl HNO.out h)
      have HY : Hid (rightSil ss[k] = false → rightMute ss hs = false) := Lib.hid (fun h => by unfold rightMute; rw [all_no hkl h, Bool.false_and])
      generalize ss[k] = s at *
      obtain ⟨sv, sm, sf, st⟩ := s
      simp only at e0 e1 e2 hm
      obtain ⟨A2', c2', rfl⟩ := hm.form
      have HTR_n := Lib.hid (HTR.out.add hm.stay); clear HTR; have HTR := HTR_n; clear HTR_n
      have HTR_n := Lib.hid (HTR.out.alloc (.cells #[.slice A2' sm.length c2', .int .i64 sf, .int .i64 st] 31)); clear HTR; have HTR := HTR_n; clear HTR_n
      clear hm
      have HAL := Lib.hid (fun V (h : Kept w [fun W => HasM W (.slice A2' sm.length c2') sm, fun W => SilsAt W (some ad) n ss, fun W => InhsAt W A2 n2 hs] V) => rightM_h h.p0)
      obtain ⟨g0, g1, g2⟩ : True ∧ True ∧ True := ⟨trivial, trivial, trivial⟩
      have HBX := Lib.hid (Blk.mk (heap_alloc_new wr (.cells #[.slice A2' sm.length c2', .int .i64 sf, .int .i64 st] 31)) : Blk _ wr.heap.size 31 [.slice A2' sm.length c2', .int .i64 sf, .int .i64 st])
      have HR1 : Hid (rightM sm = false → rightMute ss hs = false) := Lib.hid (fun h => HY.out (rightSil_no (.inl h)))
      have HR2 : Hid (¬ sf ≤ st → rightMute ss hs = false) := Lib.hid (fun h => HY.out (rightSil_no (.inr h)))
      have HR3 : Hid (rightM sm = true → sf ≤ st → ∀ x ∈ ss.take (k + 1), rightSil x = true) := Lib.hid (fun h h2 => HN.out (rightSil_yes h h2))
      clear HN HY g0 g1 g2
      generalize rightM sm = r at *
      cases r with
      | false =>
        have HE := Lib.hid (HR1.out rfl)
        clear HR1 HR2 HR3
        go_wp2_with fail
        (with_reducible refine (HAL.out _ HTR.out).mono ?_); rintro e wq ⟨rfl, hbq⟩
        have HTR_n := Lib.hid (HTR.out.below hbq); clear HTR hbq; have HTR := HTR_n; clear HTR_n
        go_wp2_with fail
        go_ret
        exact ⟨by rw [HE.out]; rfl, HTR.out.bel⟩
      | true =>
        by_cases h1 : sf ≤ st
        · have HN1 := Lib.hid (HR3.out rfl h1)
          clear HR1 HR2 HR3
          go_wp2_with fail
          (with_reducible refine (HAL.out _ HTR.out).mono ?_); rintro e wq ⟨rfl, hbq⟩
          have hk := HBX.out.below hbq HBX.out.lt
          have e3 := hk.cell 1
          have e4 := hk.cell 2
          simp only [List.getElem?_cons_zero, List.getElem?_cons_succ] at e3 e4
          have HTR_n := Lib.hid (HTR.out.below hbq); clear HTR; have HTR := HTR_n; clear HTR_n
          clear hbq hk HBX
          go_wp2_with fail
          go_roundg g
          case measure => omega
          case rel => exact ⟨k + 1, by omega, by go_num, HTR.out.tail, HN1.out⟩
        · have HE := Lib.hid (HR2.out h1)
          clear HR1 HR2 HR3
          have h2 : st < sf := by omega
          go_wp2_with fail
          (with_reducible refine (HAL.out _ HTR.out).mono ?_); rintro e wq ⟨rfl, hbq⟩
          have hk := HBX.out.below hbq HBX.out.lt
          have e3 := hk.cell 1
          have e4 := hk.cell 2
          simp only [List.getElem?_cons_zero, List.getElem?_cons_succ] at e3 e4
          have HTR_n := Lib.hid (HTR.out.below hbq); clear HTR; have HTR := HTR_n; clear HTR_n
          clear hbq hk HBX
          go_wp2_with fail
          go_ret
          exact ⟨by rw [HE.out]; rfl, HTR.out.bel⟩
    | zero =>
      obtain rfl : k = n := by omega
      have HSS := Lib.hid (show ss.all rightSil = true from all_yes (by rw [HLS.out]; exact Nat.le_refl _) HNO.out)
      have HRM : Hid (rightMute ss hs = hs.all rightInh) := Lib.hid (by unfold rightMute; rw [HSS.out, Bool.true_and])
      have HTR_n := Lib.hid ((Kept.start w).below HTR.out.bel |>.add (HTR.out.p1.stays)); clear HTR; have HTR := HTR_n; clear HTR_n
      clear HNO HSS
      go_wp2_with fail
      go_loopg [31] n2 (fun g x31 wr => ∃ k : Nat, k + g = n2 ∧ x31 = .int .i64 k ∧ Kept w [fun W => InhsAt W A2 n2 hs] wr ∧ ∀ x ∈ hs.take k, rightInh x = true)
      case atStart => exact ⟨0, by omega, rfl, HTR.out, (fun x hx => by simp at hx)⟩
      case round =>
        obtain ⟨k2, hkg2, rfl, hkept, hno⟩ := hrel
        have HT := Lib.hid hkept; have HNO := Lib.hid hno
        clear hkept hno HTR
        cases gk with
        | zero =>
          obtain rfl : k2 = n2 := by omega
          have HE := Lib.hid (show hs.all rightInh = true from all_yes (by rw [HLH.out]; exact Nat.le_refl _) HNO.out)
          go_wp2_with fail
          go_ret
          exact ⟨by rw [HRM.out, HE.out]; rfl, HT.out.bel⟩
        | succ g =>
          have hlt : k2 < n2 := by omega
          obtain ⟨adh, hkl, rfl, f0, f1, f2⟩ := HT.out.p0.get hlt
          have hal := World.block_lt_of_cell? wr _ f0
          have hms := HT.out.p0.src hs[k2] (List.getElem_mem _)
          have hmd := HT.out.p0.dst hs[k2] (List.getElem_mem _)
          have hme := HT.out.p0.eq hs[k2] (List.getElem_mem _)
          have HN : Hid (rightInh hs[k2] = true → ∀ x ∈ hs.take (k2 + 1), rightInh x = true) := Lib.hid (fun h => upto_more (p := fun x => rightInh x = true) hkl HNO.out h)
          have HY : Hid (rightInh hs[k2] = false → hs.all rightInh = false) := Lib.hid (fun h => all_no hkl h)
          generalize hs[k2] = ih at *
          obtain ⟨vs, src, vd, dst, ve, eq⟩ := ih
          simp only at f0 f1 f2 hms hmd hme
          obtain ⟨As, cs, rfl⟩ := hms.form
          obtain ⟨Ad, cd, rfl⟩ := hmd.form
          obtain ⟨Ae, ce, rfl, hce1, hce2⟩ := hme.form
          have HKB := Lib.hid (((((HT.out.add hmd.stay).add hms.stay).add hme.stay).alloc (.cells #[.slice As src.length cs, .slice Ad dst.length cd, .slice Ae eq.length ce] 29)).add (Blk.mk (heap_alloc_new wr (.cells #[.slice As src.length cs, .slice Ad dst.length cd, .slice Ae eq.length ce] 29)) : Blk _ wr.heap.size 29 [.slice As src.length cs, .slice Ad dst.length cd, .slice Ae eq.length ce]).stays)
          obtain ⟨bx, hbx⟩ : ∃ b, wr.heap.size = b := ⟨_, rfl⟩
          rw [hbx] at HKB
          obtain ⟨W1, hW1⟩ : ∃ W, wr.alloc (.cells #[.slice As src.length cs, .slice Ad dst.length cd, .slice Ae eq.length ce] 29) = W := ⟨_, rfl⟩
          rw [hW1] at HKB
          clear hms hmd hme HT
          have HR1 : Hid (rightM src = false → hs.all rightInh = false) := Lib.hid (fun h => HY.out (rightInh_no (.inl h)))
          have HR2 : Hid (rightM dst = false → hs.all rightInh = false) := Lib.hid (fun h => HY.out (rightInh_no (.inr (.inl h))))
          have HR3 : Hid (¬ eq.length ≤ 6 → hs.all rightInh = false) := Lib.hid (fun h => HY.out (rightInh_no (.inr (.inr (.inl h)))))
          have HR4 : Hid (eq.all wordF = false → hs.all rightInh = false) := Lib.hid (fun h => HY.out (rightInh_no (.inr (.inr (.inr h)))))
          have HR5 : Hid (rightM src = true → rightM dst = true → eq.length ≤ 6 → eq.all wordF = true → ∀ x ∈ hs.take (k2 + 1), rightInh x = true) := Lib.hid (fun h h2 h3 h4 => HN.out (rightInh_yes h h2 h3 h4))
          have HS1 := Lib.hid (fun V (h : Kept w [fun W => Blk W bx 29 [.slice As src.length cs, .slice Ad dst.length cd, .slice Ae eq.length ce], fun W => HasS W (.slice Ae eq.length ce) eq, fun W => HasM W (.slice As src.length cs) src, fun W => HasM W (.slice Ad dst.length cd) dst, fun W => InhsAt W (some adh) n2 hs] V) => rightM_h h.p2)
          have HS2 := Lib.hid (fun V (h : Kept w [fun W => Blk W bx 29 [.slice As src.length cs, .slice Ad dst.length cd, .slice Ae eq.length ce], fun W => HasS W (.slice Ae eq.length ce) eq, fun W => HasM W (.slice As src.length cs) src, fun W => HasM W (.slice Ad dst.length cd) dst, fun W => InhsAt W (some adh) n2 hs] V) => rightM_h h.p3)
          clear HN HY
          generalize rightM src = r1 at *
          generalize rightM dst = r2 at *
          have g0 := HKB.out.p0.cell 0
          simp only [List.getElem?_cons_zero] at g0
          go_wp2_with fail
          clear hW1 hbx g0
          cases r1 with
          | false =>
            have HE := Lib.hid (HR1.out rfl)
            clear HR1 HR2 HR3 HR4 HR5
            (with_reducible refine (HS1.out _ HKB.out).mono ?_); rintro e wq ⟨rfl, hbq⟩
            have HKB_n := Lib.hid (HKB.out.below hbq); clear HKB hbq; have HKB := HKB_n; clear HKB_n
            go_wp2_with fail
            go_ret
            exact ⟨by rw [HRM.out, HE.out]; rfl, HKB.out.bel⟩
          | true =>
            (with_reducible refine (HS1.out _ HKB.out).mono ?_); rintro e wq ⟨rfl, hbq⟩
            have HKB_n := Lib.hid (HKB.out.below hbq); clear HKB; have HKB := HKB_n; clear HKB_n
            have g1 := HKB.out.p0.cell 1
            simp only [List.getElem?_cons_zero, List.getElem?_cons_succ] at g1
            clear hbq
            go_wp2_with fail
            cases r2 with
            | false =>
              have HE := Lib.hid (HR2.out rfl)
              clear HR1 HR2 HR3 HR4 HR5 g1
              (with_reducible refine (HS2.out _ HKB.out).mono ?_); rintro e wq ⟨rfl, hbq⟩
              have HKB_n := Lib.hid (HKB.out.below hbq); clear HKB hbq; have HKB := HKB_n; clear HKB_n
              go_wp2_with fail
              go_ret
              exact ⟨by rw [HRM.out, HE.out]; rfl, HKB.out.bel⟩
            | true =>
              (with_reducible refine (HS2.out _ HKB.out).mono ?_); rintro e wq2 ⟨rfl, hbq⟩
              have HKB_n := Lib.hid (HKB.out.below hbq); clear HKB; have HKB := HKB_n; clear HKB_n
              clear hbq g1
              have g1 := HKB.out.p0.cell 2
              simp only [List.getElem?_cons_zero, List.getElem?_cons_succ] at g1
              by_cases h6 : eq.length ≤ 6
              · have y6 : ¬ (6 : Int) < eq.length := by omega
                have HR6 := Lib.hid (fun h => HR5.out (by first | rfl | trivial) (by first | rfl | trivial) h6 h)
                clear HR1 HR2 HR3 HR5
                go_wp2_with fail
                clear g1
                go_loopg [54] eq.length (fun g3 x54 wn => ∃ q : Nat, q + g3 = eq.length ∧ x54 = .int .i64 q ∧ Kept w [fun W => Blk W bx 29 [.slice As src.length cs, .slice Ad dst.length cd, .slice Ae eq.length ce], fun W => HasS W (.slice Ae eq.length ce) eq, fun W => HasM W (.slice As src.length cs) src, fun W => HasM W (.slice Ad dst.length cd) dst, fun W => InhsAt W (some adh) n2 hs] wn ∧ ∀ x ∈ eq.take q, wordF x = true)
                case atStart => exact ⟨0, by omega, rfl, HKB.out, (fun x hx => by simp at hx)⟩
                case round =>
                  obtain ⟨q, hqg, rfl, hkept, hnq⟩ := hrel
                  have HTQ := Lib.hid hkept; have HNQ := Lib.hid hnq
                  clear hkept hnq HKB
                  cases gk with
                  | zero =>
                    have hqe : q = eq.length := by omega
                    have HN1 := Lib.hid (HR6.out (all_yes (by rw [hqe]; exact Nat.le_refl _) HNQ.out))
                    clear HR6 HR4
                    go_wp2_with fail
                    go_roundg g
                    case measure => omega
                    case rel => exact ⟨k2 + 1, by omega, by go_num, HTQ.out.tail.tail.tail.tail, HN1.out⟩
                  | succ g3 =>
                    have hql : q < eq.length := by omega
                    obtain ⟨ae, hqq, hAe, e3⟩ := HTQ.out.p1.sees.str hql
                    have HX0 : Hid (wordF eq[q] = false → hs.all rightInh = false) := Lib.hid (fun h => HR4.out (all_no hqq h))
                    have HX1 : Hid (wordF eq[q] = true → ∀ x ∈ eq.take (q + 1), wordF x = true) := Lib.hid (fun h => upto_more (p := fun x => wordF x = true) hqq HNQ.out h)
                    generalize eq[q] = nm at *
                    have HW := Lib.hid (fun V => word_any nm V)
                    subst hAe
                    generalize wordF nm = wf at *
                    cases wf with
                    | true =>
                      have HN1 := Lib.hid (HX1.out rfl)
                      clear HX0 HX1
                      go_wp2_with fail
                      (with_reducible refine (HW.out _).mono ?_); rintro e wz ⟨rfl, rfl⟩
                      go_wp2_with fail
                      go_roundg g3
                      case measure => omega
                      case rel => exact ⟨q + 1, by omega, by go_num, HTQ.out, HN1.out⟩
                    | false =>
                      have HE := Lib.hid (HX0.out rfl)
                      clear HX0 HX1
                      go_wp2_with fail
                      (with_reducible refine (HW.out _).mono ?_); rintro e wz ⟨rfl, rfl⟩
                      go_wp2_with fail
                      go_ret
                      exact ⟨by rw [HRM.out, HE.out]; rfl, HTQ.out.bel⟩
              · have y6 : (6 : Int) < eq.length := by omega
                have HE := Lib.hid (HR3.out h6)
                clear HR1 HR2 HR3 HR4 HR5
                go_wp2_with fail
                go_ret
                exact ⟨by rw [HRM.out, HE.out]; rfl, HKB.out.bel⟩
theorem eq18_any (n v : ByteArray) (w : World) : Calls Try.prog 7 #[.string n, .string v] w fun e w' => ∃ g, e = .returned (.slice (some ⟨g, 0, none⟩) 1 1) ∧ HasM w' (.slice (some ⟨g, 0, none⟩) 1 1) [(n, v, 1)] ∧ Below w.heap.size w w' := by
  have hb := Lib.hid ((Below.refl w.heap.size w).alloc (Nat.le_refl _) (.cells #[.string n, .string v, .int .i64 1] 56))
  have hm := Lib.hid (show HasM (w.alloc (.cells #[.string n, .string v, .int .i64 1] 56)) (.slice (some ⟨w.heap.size, 0, none⟩) 1 1) [(n, v, 1)] from
    ⟨_, 1, rfl, (Blk.mk (heap_alloc_new w _) : Blk _ w.heap.size 56 [.string n, .string v, .int .i64 1]).sees rfl (List.prefix_refl _), Nat.le_refl _, by simp⟩)
  go_enter Try.func7, Try.ntmps7
  go_wp2_with fail
  go_ret
  exact ⟨_, rfl, hm.out, hb.out⟩
end Go.Proofs.Ytfcjalojgmpnoaa
