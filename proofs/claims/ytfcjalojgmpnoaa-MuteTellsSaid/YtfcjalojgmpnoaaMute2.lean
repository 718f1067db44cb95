/- mute.Inhibited. -/
import Derived.Test.YtfcjalojgmpnoaaMute
namespace Go.Proofs.Ytfcjalojgmpnoaa
open Go.ChangeShapes Go.WideShapes Go.ChangeAt Go.RowKit
set_option linter.unusedVariables false
set_option maxRecDepth 100000
theorem equal_h {W : World} {v v2 : Value} {l l2 : List Lbl} (h : HasL W v l) (h2 : HasL W v2 l2) :
    Calls Try.prog 20 #[v, v2] W fun e w' => e = .returned (.bool (decide (l = l2))) ∧ ∃ m, w' = W.drewN m := by
  obtain ⟨A, c, rfl, j2, j3, j4⟩ := h
  obtain ⟨A2, c2, rfl, k2, k3, k4⟩ := h2
  exact equal_lbl A A2 _ c _ c2 _ _ l l2 W j2 k2 (by omega) (by omega)
theorem getv_h {W : World} {v : Value} {l : List Lbl} (h : HasL W v l) (name : ByteArray) :
    Calls Try.prog 21 #[v, .string name] W fun e w' => e = .returned (.string (getF l name)) ∧ Below W.heap.size W w' := by
  obtain ⟨A, c, rfl, h2, h3, h4⟩ := h
  exact get_any A _ c _ l name W h2 (Nat.le_refl _) (by omega)
theorem inhBy_same {l : List Lbl} {h : Inh} {o : List Lbl} (e : o = l) : inhBy l h o = false := by unfold inhBy; rw [decide_eq_true e]; rfl
theorem inhBy_src {l : List Lbl} {h : Inh} {o : List Lbl} (e : allF o h.src = false) : inhBy l h o = false := by unfold inhBy; rw [e, Bool.false_and, Bool.and_false]
theorem inhBy_eq {l : List Lbl} {h : Inh} {o : List Lbl} (e : (h.eq.all fun n => decide (getF o n = getF l n)) = false) : inhBy l h o = false := by unfold inhBy; rw [e, Bool.and_false, Bool.and_false]
theorem inhBy_yes {l : List Lbl} {h : Inh} {o : List Lbl} (e : ¬ o = l) (e2 : allF o h.src = true) (e3 : (h.eq.all fun n => decide (getF o n = getF l n)) = true) : inhBy l h o = true := by unfold inhBy; rw [decide_eq_false e, e2, e3]; rfl
theorem inhOne_dst {all : List (List Lbl)} {l : List Lbl} {h : Inh} (e : allF l h.dst = false) : inhOne all l h = false := by unfold inhOne; rw [e]; rfl
theorem inhOne_of {all : List (List Lbl)} {l : List Lbl} {h : Inh} (e : allF l h.dst = true) : inhOne all l h = all.any (inhBy l h) := by unfold inhOne; rw [e]; rfl
set_option maxHeartbeats 1000000 in
theorem inhibited_out (A : Option Addr) (n c : Nat) (i : Int) (v : Value) (w : World) (hn : n ≤ 9223372036854775807) (hi : i < 0 ∨ (n : Int) ≤ i) :
    Calls Try.prog 8 #[.slice A n c, .int .i64 i, v] w fun e w' => e = .returned (.bool false) ∧ Below w.heap.size w w' := by
  by_cases h : i < 0
  · clear hi
    go_enter Try.func8, Try.ntmps8
    go_wp2_with fail
    go_step3
    go_wp2_with fail
    try rw [Exit.noGoto_ret]
    go_ret
    exact ⟨rfl, Below.refl _ _⟩
  · have h2 : (n : Int) ≤ i := by omega
    clear hi
    go_enter Try.func8, Try.ntmps8
    go_wp2_with fail
    go_step3
    go_wp2_with fail
    try rw [Exit.noGoto_ret]
    go_ret
    exact ⟨rfl, Below.refl _ _⟩
set_option maxHeartbeats 4000000 in
theorem inhibited_any (A : Option Addr) (n c : Nat) (all : List (Value × List Lbl)) (i : Nat) (A2 : Option Addr) (n2 c2 : Nat) (hs : List Inh) (w : World) (hA : SetsAt w A n all) (hH : InhsAt w A2 n2 hs) (hn : n ≤ 9223372036854775807) (hn2 : n2 ≤ 9223372036854775807) (hi : i < all.length) :
    Calls Try.prog 8 #[.slice A n c, .int .i64 i, .slice A2 n2 c2] w fun e w' => e = .returned (.bool (inhF (all.map Prod.snd) all[i].2 hs)) ∧ Below w.heap.size w w' := by
  have hin : i < n := by have := hA.len; omega
  have HLA := Lib.hid hA.len
  have HLH := Lib.hid hH.len
  have hm := hA.each all[i] (List.getElem_mem _)
  obtain ⟨ad0, _, hAe, e0⟩ := hA.get hin
  have HT := Lib.hid ((((Kept.start w).add hA.stays).add hH.stays).add hm.stay)
  generalize all[i] = p at *
  obtain ⟨v, l⟩ := p
  simp only at e0 hm HT
  obtain ⟨A0, c0, rfl⟩ := hm.form
  have z1 : ¬ (i : Int) < 0 := by omega
  have z2 : (0 : Int) ≤ i := by omega
  have z3 : (i : Int) < n := by omega
  have z4 : ¬ (n : Int) ≤ i := by omega
  have z5 : decide ((i : Int) < 0) = false := decide_eq_false (by omega)
  have z6 : decide (n ≤ i) = false := decide_eq_false (by omega)
  clear hm hA hH hi
  subst hAe
  show Calls _ _ _ _ fun e w' => e = .returned (.bool (inhF (all.map Prod.snd) l hs)) ∧ Below w.heap.size w w'
  go_enter Try.func8, Try.ntmps8
  go_wp2_with fail
  go_step3
  go_wp2_with fail
  go_step3
  go_wp2_with fail
  go_loopg [28] n2 (fun g x28 wr => ∃ k : Nat, k + g = n2 ∧ x28 = .int .i64 k ∧ Kept w [fun W => HasL W (.slice A0 l.length c0) l, fun W => InhsAt W A2 n2 hs, fun W => SetsAt W (some ad0) n all] wr ∧ ∀ x ∈ hs.take k, inhOne (all.map Prod.snd) l x = false)
  case atStart => exact ⟨0, by omega, rfl, HT.out, (fun x hx => by simp at hx)⟩
  case round =>
    obtain ⟨k, hkg, rfl, hkept, hno⟩ := hrel
    have HTR := Lib.hid hkept; have HNO := Lib.hid hno
    clear hkept hno HT
    cases gk with
    | zero =>
      obtain rfl : k = n2 := by omega
      have HE := Lib.hid (show inhF (all.map Prod.snd) l hs = false from any_no (by rw [HLH.out]; exact Nat.le_refl _) HNO.out)
      go_wp2_with fail
      try rw [Exit.noGoto_ret]
      go_ret
      exact ⟨by rw [HE.out]; rfl, HTR.out.bel⟩
    | succ g =>
      have hlt : k < n2 := by omega
      obtain ⟨adh, hkl, rfl, f0, f1, f2⟩ := HTR.out.p1.get hlt
      have hal := World.block_lt_of_cell? wr _ f0
      have hms := HTR.out.p1.src hs[k] (List.getElem_mem _)
      have hmd := HTR.out.p1.dst hs[k] (List.getElem_mem _)
      have hme := HTR.out.p1.eq hs[k] (List.getElem_mem _)
      have HN : Hid (inhOne (all.map Prod.snd) l hs[k] = false → ∀ x ∈ hs.take (k + 1), inhOne (all.map Prod.snd) l x = false) := Lib.hid (fun h => upto_more hkl HNO.out h)
      have HY : Hid (inhOne (all.map Prod.snd) l hs[k] = true → inhF (all.map Prod.snd) l hs = true) := Lib.hid (fun h => any_yes hkl h)
      generalize hs[k] = ih at *
      obtain ⟨vs, src, vd, dst, ve, eq⟩ := ih
      simp only at f0 f1 f2 hms hmd hme
      obtain ⟨As, cs, rfl⟩ := hms.form
      obtain ⟨Ad, cd, rfl⟩ := hmd.form
      obtain ⟨Ae, ce, rfl, hce1, hce2⟩ := hme.form
      have HKB := Lib.hid (((((HTR.out.add hmd.stay).add hms.stay).add hme.stay).alloc (.cells #[.slice As src.length cs, .slice Ad dst.length cd, .slice Ae eq.length ce] 29)).add (Blk.mk (heap_alloc_new wr (.cells #[.slice As src.length cs, .slice Ad dst.length cd, .slice Ae eq.length ce] 29)) : Blk _ wr.heap.size 29 [.slice As src.length cs, .slice Ad dst.length cd, .slice Ae eq.length ce]).stays)
      obtain ⟨bx, hbx⟩ : ∃ b, wr.heap.size = b := ⟨_, rfl⟩
      rw [hbx] at HKB
      obtain ⟨W1, hW1⟩ : ∃ W, wr.alloc (.cells #[.slice As src.length cs, .slice Ad dst.length cd, .slice Ae eq.length ce] 29) = W := ⟨_, rfl⟩
      rw [hW1] at HKB
      clear hms hmd hme HTR
      have HAD := Lib.hid (fun V (h : Kept w [fun W => Blk W bx 29 [.slice As src.length cs, .slice Ad dst.length cd, .slice Ae eq.length ce], fun W => HasS W (.slice Ae eq.length ce) eq, fun W => HasM W (.slice As src.length cs) src, fun W => HasM W (.slice Ad dst.length cd) dst, fun W => HasL W (.slice A0 l.length c0) l, fun W => InhsAt W (some adh) n2 hs, fun W => SetsAt W (some ad0) n all] V) => all_h h.p4 h.p3)
      have HD0 : Hid (allF l dst = false → inhOne (all.map Prod.snd) l ⟨.slice As src.length cs, src, .slice Ad dst.length cd, dst, .slice Ae eq.length ce, eq⟩ = false) := Lib.hid (fun h => inhOne_dst h)
      have HD1 : Hid (allF l dst = true → inhOne (all.map Prod.snd) l ⟨.slice As src.length cs, src, .slice Ad dst.length cd, dst, .slice Ae eq.length ce, eq⟩ = (all.map Prod.snd).any (inhBy l ⟨.slice As src.length cs, src, .slice Ad dst.length cd, dst, .slice Ae eq.length ce, eq⟩)) := Lib.hid (fun h => inhOne_of h)
      generalize allF l dst = r at *
      go_wp2_with fail
      go_step3
      clear hW1 hbx
      have g1 := HKB.out.p0.cell 1
      simp only [List.getElem?_cons_zero, List.getElem?_cons_succ] at g1
      cases r with
      | false =>
        have HN1 := Lib.hid (HN.out (HD0.out rfl))
        clear HN HY HD0 HD1
        go_wp2_with fail
        (with_reducible refine (HAD.out _ HKB.out).mono ?_); rintro e wq ⟨rfl, hbq⟩
        have HKB_n := Lib.hid (HKB.out.below hbq); clear HKB hbq; have HKB := HKB_n; clear HKB_n
        go_wp2_with fail
        rw [Exit.noGoto_exit]
        go_wp2_with fail
        go_roundg g
        case measure => omega
        case rel => exact ⟨k + 1, by omega, by go_num, HKB.out.tail.tail.tail.tail, HN1.out⟩
      | true =>
        have HEX := Lib.hid (HD1.out rfl)
        clear HD0 HD1
        go_wp2_with fail
        (with_reducible refine (HAD.out _ HKB.out).mono ?_); rintro e wq ⟨rfl, hbq⟩
        have HKB_n := Lib.hid (HKB.out.below hbq); clear HKB hbq; have HKB := HKB_n; clear HKB_n
        go_wp2_with fail
        go_step3
        go_wp2_with fail
        go_loopg [39] n (fun g2 x39 wj => ∃ j : Nat, j + g2 = n ∧ x39 = .int .i64 j ∧ Kept w [fun W => Blk W bx 29 [.slice As src.length cs, .slice Ad dst.length cd, .slice Ae eq.length ce], fun W => HasS W (.slice Ae eq.length ce) eq, fun W => HasM W (.slice As src.length cs) src, fun W => HasM W (.slice Ad dst.length cd) dst, fun W => HasL W (.slice A0 l.length c0) l, fun W => InhsAt W (some adh) n2 hs, fun W => SetsAt W (some ad0) n all] wj ∧ ∀ x ∈ all.take j, inhBy l ⟨.slice As src.length cs, src, .slice Ad dst.length cd, dst, .slice Ae eq.length ce, eq⟩ x.2 = false)
        case atStart => exact ⟨0, by omega, rfl, HKB.out, (fun x hx => by simp at hx)⟩
        case round =>
          obtain ⟨j, hjg, rfl, hkept, hnj⟩ := hrel
          have HTJ := Lib.hid hkept; have HNJ := Lib.hid hnj
          clear hkept hnj HKB
          cases gk with
          | zero =>
            obtain rfl : j = n := by omega
            have HN1 := Lib.hid (HN.out (by rw [HEX.out, List.any_map]; exact any_no (by rw [HLA.out]; exact Nat.le_refl _) HNJ.out))
            clear HN HY HEX
            go_wp2_with fail
            try rw [Exit.noGoto_normal]
            go_wp2_with fail
            go_roundg g
            case measure => omega
            case rel => exact ⟨k + 1, by omega, by go_num, HTJ.out.tail.tail.tail.tail, HN1.out⟩
          | succ g2 =>
            have hjn : j < n := by omega
            obtain ⟨ad1, hjl, hAd, e1⟩ := HTJ.out.p6.get hjn
            have hmo := HTJ.out.p6.each all[j] (List.getElem_mem _)
            have HMJ : Hid (inhBy l ⟨.slice As src.length cs, src, .slice Ad dst.length cd, dst, .slice Ae eq.length ce, eq⟩ all[j].2 = false → ∀ x ∈ all.take (j + 1), inhBy l ⟨.slice As src.length cs, src, .slice Ad dst.length cd, dst, .slice Ae eq.length ce, eq⟩ x.2 = false) := Lib.hid (fun h => upto_more (p := fun x => inhBy l ⟨.slice As src.length cs, src, .slice Ad dst.length cd, dst, .slice Ae eq.length ce, eq⟩ x.2 = false) hjl HNJ.out h)
            have HYJ : Hid (inhBy l ⟨.slice As src.length cs, src, .slice Ad dst.length cd, dst, .slice Ae eq.length ce, eq⟩ all[j].2 = true → inhF (all.map Prod.snd) l hs = true) := Lib.hid (fun h => HY.out (by rw [HEX.out, List.any_map]; exact any_yes hjl h))
            injection hAd with hAd; subst hAd
            generalize all[j] = oo at *
            obtain ⟨vo, o⟩ := oo
            simp only at e1 hmo HMJ HYJ
            obtain ⟨Ao, co, rfl⟩ := hmo.form
            have HKO := Lib.hid (HTJ.out.add hmo.stay)
            clear hmo HTJ HY HEX
            have HEQ := Lib.hid (fun V (h : Kept w [fun W => HasL W (.slice Ao o.length co) o, fun W => Blk W bx 29 [.slice As src.length cs, .slice Ad dst.length cd, .slice Ae eq.length ce], fun W => HasS W (.slice Ae eq.length ce) eq, fun W => HasM W (.slice As src.length cs) src, fun W => HasM W (.slice Ad dst.length cd) dst, fun W => HasL W (.slice A0 l.length c0) l, fun W => InhsAt W (some adh) n2 hs, fun W => SetsAt W (some ad0) n all] V) => equal_h h.p0 h.p5)
            have HAS := Lib.hid (fun V (h : Kept w [fun W => HasL W (.slice Ao o.length co) o, fun W => Blk W bx 29 [.slice As src.length cs, .slice Ad dst.length cd, .slice Ae eq.length ce], fun W => HasS W (.slice Ae eq.length ce) eq, fun W => HasM W (.slice As src.length cs) src, fun W => HasM W (.slice Ad dst.length cd) dst, fun W => HasL W (.slice A0 l.length c0) l, fun W => InhsAt W (some adh) n2 hs, fun W => SetsAt W (some ad0) n all] V) => all_h h.p0 h.p3)
            have HG1 := Lib.hid (fun V (h : Kept w [fun W => HasL W (.slice Ao o.length co) o, fun W => Blk W bx 29 [.slice As src.length cs, .slice Ad dst.length cd, .slice Ae eq.length ce], fun W => HasS W (.slice Ae eq.length ce) eq, fun W => HasM W (.slice As src.length cs) src, fun W => HasM W (.slice Ad dst.length cd) dst, fun W => HasL W (.slice A0 l.length c0) l, fun W => InhsAt W (some adh) n2 hs, fun W => SetsAt W (some ad0) n all] V) nm => getv_h h.p0 nm)
            have HG2 := Lib.hid (fun V (h : Kept w [fun W => HasL W (.slice Ao o.length co) o, fun W => Blk W bx 29 [.slice As src.length cs, .slice Ad dst.length cd, .slice Ae eq.length ce], fun W => HasS W (.slice Ae eq.length ce) eq, fun W => HasM W (.slice As src.length cs) src, fun W => HasM W (.slice Ad dst.length cd) dst, fun W => HasL W (.slice A0 l.length c0) l, fun W => InhsAt W (some adh) n2 hs, fun W => SetsAt W (some ad0) n all] V) nm => getv_h h.p5 nm)
            have g0 := HKO.out.p1.cell 0
            simp only [List.getElem?_cons_zero] at g0
            have z7 : (j : Int) < n := by omega
            have z8 : (0 : Int) ≤ j := by omega
            by_cases hol : o = l
            · have HS1 := Lib.hid (HMJ.out (inhBy_same hol))
              rw [decide_eq_true hol] at HEQ
              clear HMJ HYJ HN HAS HG1 HG2 hol
              go_wp2_with fail
              (with_reducible refine (HEQ.out _ HKO.out).mono ?_); rintro e wq ⟨rfl, mm, rfl⟩
              have HKO_n := Lib.hid (HKO.out.drewN mm); clear HKO; have HKO := HKO_n; clear HKO_n
              go_wp2_with fail
              go_roundg g2
              case measure => omega
              case rel => exact ⟨j + 1, by omega, by go_num, HKO.out.tail, HS1.out⟩
            · rw [decide_eq_false hol] at HEQ
              have HOL := Lib.hid hol
              clear hol
              have HS0 : Hid (allF o src = false → inhBy l ⟨.slice As src.length cs, src, .slice Ad dst.length cd, dst, .slice Ae eq.length ce, eq⟩ o = false) := Lib.hid (fun h => inhBy_src h)
              have HS2 : Hid (allF o src = true → (eq.all fun n => decide (getF o n = getF l n)) = false → inhBy l ⟨.slice As src.length cs, src, .slice Ad dst.length cd, dst, .slice Ae eq.length ce, eq⟩ o = false) := Lib.hid (fun _ h => inhBy_eq h)
              have HS3 : Hid (allF o src = true → (eq.all fun n => decide (getF o n = getF l n)) = true → inhBy l ⟨.slice As src.length cs, src, .slice Ad dst.length cd, dst, .slice Ae eq.length ce, eq⟩ o = true) := Lib.hid (fun h h2 => inhBy_yes HOL.out h h2)
              generalize allF o src = r at *
              cases r with
              | false =>
                have HS1 := Lib.hid (HMJ.out (HS0.out rfl))
                clear HMJ HYJ HN HG1 HG2 HS0 HS2 HS3
                go_wp2_with fail
                (with_reducible refine (HEQ.out _ HKO.out).mono ?_); rintro e wq ⟨rfl, mm, rfl⟩
                have HKO_n := Lib.hid (HKO.out.drewN mm); clear HKO; have HKO := HKO_n; clear HKO_n
                have g0 := HKO.out.p1.cell 0
                simp only [List.getElem?_cons_zero] at g0
                go_wp2_with fail
                (with_reducible refine (HAS.out _ HKO.out).mono ?_); rintro e wq ⟨rfl, hbq⟩
                have HKO_n := Lib.hid (HKO.out.below hbq); clear HKO hbq; have HKO := HKO_n; clear HKO_n
                go_wp2_with fail
                go_roundg g2
                case measure => omega
                case rel => exact ⟨j + 1, by omega, by go_num, HKO.out.tail, HS1.out⟩
              | true =>
                have HM1 : Hid ((eq.all fun n => decide (getF o n = getF l n)) = false → ∀ x ∈ all.take (j + 1), inhBy l ⟨.slice As src.length cs, src, .slice Ad dst.length cd, dst, .slice Ae eq.length ce, eq⟩ x.2 = false) := Lib.hid (fun h => HMJ.out (HS2.out rfl h))
                have HM2 : Hid ((eq.all fun n => decide (getF o n = getF l n)) = true → inhF (all.map Prod.snd) l hs = true) := Lib.hid (fun h => HYJ.out (HS3.out rfl h))
                clear HMJ HYJ HS0 HS2 HS3
                go_wp2_with fail
                (with_reducible refine (HEQ.out _ HKO.out).mono ?_); rintro e wq ⟨rfl, mm, rfl⟩
                have HKO_n := Lib.hid (HKO.out.drewN mm); clear HKO; have HKO := HKO_n; clear HKO_n
                have g0 := HKO.out.p1.cell 0
                simp only [List.getElem?_cons_zero] at g0
                go_wp2_with fail
                (with_reducible refine (HAS.out _ HKO.out).mono ?_); rintro e wq ⟨rfl, hbq⟩
                have HKO_n := Lib.hid (HKO.out.below hbq); clear HKO; have HKO := HKO_n; clear HKO_n
                clear hbq g0
                have g2c := HKO.out.p1.cell 2
                simp only [List.getElem?_cons_zero, List.getElem?_cons_succ] at g2c
                go_wp2_with fail
                go_loopg [56] eq.length (fun g3 x56 wn => ∃ q : Nat, q + g3 = eq.length ∧ x56 = .int .i64 q ∧ Kept w [fun W => HasL W (.slice Ao o.length co) o, fun W => Blk W bx 29 [.slice As src.length cs, .slice Ad dst.length cd, .slice Ae eq.length ce], fun W => HasS W (.slice Ae eq.length ce) eq, fun W => HasM W (.slice As src.length cs) src, fun W => HasM W (.slice Ad dst.length cd) dst, fun W => HasL W (.slice A0 l.length c0) l, fun W => InhsAt W (some adh) n2 hs, fun W => SetsAt W (some ad0) n all] wn ∧ ∀ x ∈ eq.take q, decide (getF o x = getF l x) = true)
                case atStart => exact ⟨0, by omega, rfl, HKO.out, (fun x hx => by simp at hx)⟩
                case round =>
                  obtain ⟨q, hqg, rfl, hkept, hnq⟩ := hrel
                  have HTQ := Lib.hid hkept; have HNQ := Lib.hid hnq
                  clear hkept hnq HKO g2c
                  cases gk with
                  | zero =>
                    have hqe : q = eq.length := by omega
                    have HE := Lib.hid (HM2.out (all_yes (by rw [hqe]; exact Nat.le_refl _) HNQ.out))
                    clear HM1 HM2 HN
                    go_wp2_with fail
                    rw [Exit.noGoto_ret]
                    go_wp2_with fail
                    try rw [Exit.noGoto_ret]
                    go_ret
                    exact ⟨by rw [HE.out]; rfl, HTQ.out.bel⟩
                  | succ g3 =>
                    have hql : q < eq.length := by omega
                    obtain ⟨ae, hqq, hAe, e3⟩ := HTQ.out.p2.sees.str hql
                    have HX0 : Hid (decide (getF o eq[q] = getF l eq[q]) = false → ∀ x ∈ all.take (j + 1), inhBy l ⟨.slice As src.length cs, src, .slice Ad dst.length cd, dst, .slice Ae eq.length ce, eq⟩ x.2 = false) := Lib.hid (fun h => HM1.out (all_no hqq h))
                    have HX1 : Hid (decide (getF o eq[q] = getF l eq[q]) = true → ∀ x ∈ eq.take (q + 1), decide (getF o x = getF l x) = true) := Lib.hid (fun h => upto_more (p := fun x => decide (getF o x = getF l x) = true) hqq HNQ.out h)
                    generalize eq[q] = nm at *
                    have H1 := Lib.hid (fun V (h : Kept w [fun W => HasL W (.slice Ao o.length co) o, fun W => Blk W bx 29 [.slice As src.length cs, .slice Ad dst.length cd, .slice Ae eq.length ce], fun W => HasS W (.slice Ae eq.length ce) eq, fun W => HasM W (.slice As src.length cs) src, fun W => HasM W (.slice Ad dst.length cd) dst, fun W => HasL W (.slice A0 l.length c0) l, fun W => InhsAt W (some adh) n2 hs, fun W => SetsAt W (some ad0) n all] V) => HG1.out V h nm)
                    have H2 := Lib.hid (fun V (h : Kept w [fun W => HasL W (.slice Ao o.length co) o, fun W => Blk W bx 29 [.slice As src.length cs, .slice Ad dst.length cd, .slice Ae eq.length ce], fun W => HasS W (.slice Ae eq.length ce) eq, fun W => HasM W (.slice As src.length cs) src, fun W => HasM W (.slice Ad dst.length cd) dst, fun W => HasL W (.slice A0 l.length c0) l, fun W => InhsAt W (some adh) n2 hs, fun W => SetsAt W (some ad0) n all] V) => HG2.out V h nm)
                    subst hAe
                    generalize getF o nm = xo at *
                    generalize getF l nm = xl at *
                    by_cases hxe : xo = xl
                    · have HN1 := Lib.hid (HX1.out (decide_eq_true hxe))
                      subst hxe
                      have t1 : (xo.toList == xo.toList) = true := by simp
                      have t2 : (xo.toList != xo.toList) = false := by simp
                      clear HX0 HX1
                      go_wp2_with fail
                      (with_reducible refine (H1.out _ HTQ.out).mono ?_); rintro e wq ⟨rfl, hbq⟩
                      have HTQ_n := Lib.hid (HTQ.out.below hbq); clear HTQ hbq; have HTQ := HTQ_n; clear HTQ_n
                      go_wp2_with fail
                      (with_reducible refine (H2.out _ HTQ.out).mono ?_); rintro e wq ⟨rfl, hbq⟩
                      have HTQ_n := Lib.hid (HTQ.out.below hbq); clear HTQ hbq; have HTQ := HTQ_n; clear HTQ_n
                      go_wp2_with fail
                      go_roundg g3
                      case measure => omega
                      case rel => exact ⟨q + 1, by omega, by go_num, HTQ.out, HN1.out⟩
                    · have HN1 := Lib.hid (HX0.out (decide_eq_false hxe))
                      have t1 : (xo.toList == xl.toList) = false := by rw [beq_eq_false_iff_ne]; exact fun h => hxe (ba_ext h)
                      have t2 : (xo.toList != xl.toList) = true := by rw [bne, t1]; rfl
                      clear HX0 HX1 hxe
                      go_wp2_with fail
                      (with_reducible refine (H1.out _ HTQ.out).mono ?_); rintro e wq ⟨rfl, hbq⟩
                      have HTQ_n := Lib.hid (HTQ.out.below hbq); clear HTQ hbq; have HTQ := HTQ_n; clear HTQ_n
                      go_wp2_with fail
                      (with_reducible refine (H2.out _ HTQ.out).mono ?_); rintro e wq ⟨rfl, hbq⟩
                      have HTQ_n := Lib.hid (HTQ.out.below hbq); clear HTQ hbq; have HTQ := HTQ_n; clear HTQ_n
                      go_wp2_with fail
                      go_roundg g2
                      case measure => omega
                      case rel => exact ⟨j + 1, by omega, by go_num, HTQ.out.tail, HN1.out⟩
end Go.Proofs.Ytfcjalojgmpnoaa
