/- expr.Type. -/
import Derived.Test.YtnkbpcenkbihpaaDoorType4
namespace Go.Proofs.YtnkbpcenkbihpaaDoor
open Go.ChangeShapes Go.WideShapes Go.ChangeAt Go.RowKit
set_option linter.unusedVariables false
set_option linter.unusedSimpArgs false
set_option maxRecDepth 100000
theorem ba_full {s : ByteArray} (h : ¬ s = ⟨#[]⟩) : s.toList.isEmpty = false := by
  cases hq : s.toList with
  | nil =>
    rw [ByteArray.toList_eq] at hq
    exact absurd (by cases s; simp at hq; rw [hq]) h
  | cons => rfl
/-- typeOfTwo, whatever it is given. -/
theorem typeTwo_all (d : Nat) (IH : TypeSaid d) (kk nn : Int) (A1 : Option Addr) (c1 : Nat) (ms : List Mtc) (A2 : Option Addr) (c2 : Nat) (ns : List ByteArray) (A3 : Option Addr) (c3 : Nat) (ks : List XE) (w : World) (hs : smallP (pesX ks))
    (h : okX (d + 1) (.mk kk nn (.slice A1 ms.length c1) ms (.slice A2 ns.length c2) ns (.slice A3 ks.length c3) ks) w) :
    Calls Tryd.prog 29 #[.agg #[.int .i64 kk, .int .i64 nn, .slice A1 ms.length c1, .slice A2 ns.length c2, .slice A3 ks.length c3]] w fun e w' => e = .returned (.int .i64 (twoT kk ns (tysP (pesX ks)))) ∧ Below w.heap.size w w' := by
  by_cases hno : ns.length = 0 ∧ ks.length = 2
  · obtain ⟨h1, h2⟩ := hno
    obtain rfl : ns = [] := List.eq_nil_of_length_eq_zero h1
    match ks, h2 with
    | [a, b], _ =>
      obtain ⟨_, _, h3, _⟩ := id h
      obtain ⟨A', c', e, hsee, _⟩ := h3
      obtain ⟨ad, rfl, _⟩ := hsee.at_ (by simp [XE.kids])
      injection e with e1 e2 e3
      subst e1
      simp only [pesX, smallP] at hs
      exact typeTwo_x d IH kk nn A1 c1 ms A2 c2 ad c3 a b w hs.1 hs.2.1 h
  · have h0 := typeTwo_no kk nn A1 A2 A3 ms.length c1 ns.length c2 ks.length c3 w hno
    have e : twoT kk ns (tysP (pesX ks)) = 0 := by
      unfold twoT
      split
      · rename_i a b he
        exfalso; apply hno
        refine ⟨rfl, ?_⟩
        have := tysP_length ks
        rw [he] at this; simpa using this.symm
      · rfl
    rw [e]; exact h0
set_option maxHeartbeats 4000000 in
theorem type_step (d : Nat) (IH : TypeSaid d) : TypeSaid (d + 1) := by
  intro x w hsm h
  obtain ⟨A1, c1, A2, c2, A3, c3, e1, e2, e3⟩ := okX_forms h
  obtain ⟨kk, nn, mv, ms, nv, ns, kv, ks⟩ := x
  simp only [XE.mv, XE.nv, XE.kv, XE.ms, XE.ns, XE.kids] at e1 e2 e3
  subst e1; subst e2; subst e3
  have HT : Hid ((XE.mk kk nn (.slice A1 ms.length c1) ms (.slice A2 ns.length c2) ns (.slice A3 ks.length c3) ks).pe.ty = if kk = 1 then (if ms.length + ns.length + ks.length = 0 then 1 else 0)
    else if kk = 2 then (if ns.length + ks.length = 0 ∧ rightM ms = true ∧ 1 ≤ nn ∧ nn ≤ 1048576 then 2 else 0)
    else if ¬ (ms.length = 0 ∧ nn = 0) then 0
    else if wordX kk ≠ ⟨#[]⟩ then oneT ns (tysP (pesX ks))
    else if signX kk ≠ ⟨#[]⟩ then twoT kk ns (tysP (pesX ks)) else 0) := Lib.hid (by
      show (PE.mk kk nn ms ns (pesX ks)).ty = _
      unfold PE.ty
      rw [show (pesX ks).length = ks.length by have := tysP_length ks; rw [← this]; exact (by
        have : ∀ l : List PE, (tysP l).length = l.length := fun l => by
          induction l with
          | nil => rfl
          | cons a l ih => simp [tysP, ih]
        exact (this _).symm)])
  obtain ⟨hs1, hs2, hs3, hsk⟩ := (show ms.length ≤ 1000002 ∧ ns.length ≤ 1000002 ∧ (pesX ks).length ≤ 2 ∧ smallP (pesX ks) from hsm)
  have hs3' : ks.length ≤ 2 := by
    have : ∀ l : List XE, (pesX l).length = l.length := fun l => by
      induction l with
      | nil => rfl
      | cons a l ih => simp [pesX, ih]
    rw [this] at hs3; exact hs3
  obtain ⟨q, hq⟩ : ∃ q, (XE.mk kk nn (.slice A1 ms.length c1) ms (.slice A2 ns.length c2) ns (.slice A3 ks.length c3) ks).pe.ty = q := ⟨_, rfl⟩
  rw [hq] at HT ⊢
  have hb : Below w.heap.size w (w.alloc (.cells #[.int .i64 kk, .int .i64 nn, .slice A1 ms.length c1, .slice A2 ns.length c2, .slice A3 ks.length c3] 26)) := (Below.refl _ _).alloc (Nat.le_refl _) _
  have HB := Lib.hid hb
  have HX := Lib.hid (Blk.mk (heap_alloc_new w (.cells #[.int .i64 kk, .int .i64 nn, .slice A1 ms.length c1, .slice A2 ns.length c2, .slice A3 ks.length c3] 26)) : Blk _ w.heap.size 26 [.int .i64 kk, .int .i64 nn, .slice A1 ms.length c1, .slice A2 ns.length c2, .slice A3 ks.length c3])
  have H0 := Lib.hid (okX_below hb (d + 1) _ h)
  have H1 := Lib.hid (typeOne_x d IH kk nn A1 c1 ms A2 c2 ns A3 c3 ks (w.alloc (.cells #[.int .i64 kk, .int .i64 nn, .slice A1 ms.length c1, .slice A2 ns.length c2, .slice A3 ks.length c3] 26)) hsk H0.out)
  have H2 := Lib.hid (typeTwo_all d IH kk nn A1 c1 ms A2 c2 ns A3 c3 ks (w.alloc (.cells #[.int .i64 kk, .int .i64 nn, .slice A1 ms.length c1, .slice A2 ns.length c2, .slice A3 ks.length c3] 26)) hsk H0.out)
  obtain ⟨m1, m2, m3⟩ := Slc.slice H0.out.1
  have HR := Lib.hid (rightM_any A1 ms.length c1 (w.alloc (.cells #[.int .i64 kk, .int .i64 nn, .slice A1 ms.length c1, .slice A2 ns.length c2, .slice A3 ks.length c3] 26)).heap.size ms (w.alloc (.cells #[.int .i64 kk, .int .i64 nn, .slice A1 ms.length c1, .slice A2 ns.length c2, .slice A3 ks.length c3] 26)) m1 (Nat.le_refl _) (Nat.le_trans m2 m3))
  have HW := Lib.hid (word_x kk (w.alloc (.cells #[.int .i64 kk, .int .i64 nn, .slice A1 ms.length c1, .slice A2 ns.length c2, .slice A3 ks.length c3] 26)))
  have HS := Lib.hid (sign_x kk (w.alloc (.cells #[.int .i64 kk, .int .i64 nn, .slice A1 ms.length c1, .slice A2 ns.length c2, .slice A3 ks.length c3] 26)))
  clear m1 m2 m3 H0 hb hq h hsm hs3 hsk IH
  show Calls Tryd.prog 10 #[.agg #[.int .i64 kk, .int .i64 nn, .slice A1 ms.length c1, .slice A2 ns.length c2, .slice A3 ks.length c3]] w _
  generalize ms.length = lm at *
  generalize ns.length = ln at *
  generalize ks.length = lk at *
  go_enter Tryd.func10, Tryd.ntmps10
  go_upto_region 1 with fail
  generalize w.alloc (.cells #[.int .i64 kk, .int .i64 nn, .slice A1 lm c1, .slice A2 ln c2, .slice A3 lk c3] 26) = W1 at *
  obtain ⟨x0, x1, x2, x3, x4⟩ := blk_cells5 HX.out
  by_cases k1 : kk = 1
  · have t1 : (kk == 1) = true := by rw [k1]; rfl
    by_cases z : lm + ln + lk = 0
    · have t2 : decide ((0 : Int) < (lm : Int) + ln + lk) = false := decide_eq_false (by omega)
      have HE := Lib.hid (show q = 1 by rw [HT.out, if_pos k1, if_pos z])
      have hz1 : lm = 0 := by omega
      have hz2 : ln = 0 := by omega
      have hz3 : lk = 0 := by omega
      subst hz1; subst hz2; subst hz3
      clear k1 t2 z
      go_wp2_with fail
      go_ret
      exact ⟨by rw [HE.out]; rfl, HB.out⟩
    · have t2 : decide ((0 : Int) < (lm : Int) + ln + lk) = true := decide_eq_true (by omega)
      have t3 : 0 < lm + ln + lk := by omega
      have HE := Lib.hid (show q = 0 by rw [HT.out, if_pos k1, if_neg z])
      clear k1 z
      go_wp2_with fail
      go_ret
      exact ⟨by rw [HE.out]; rfl, HB.out⟩
  · have t1 : (kk == 1) = false := by rw [beq_eq_false_iff_ne]; exact k1
    by_cases k2 : kk = 2
    · have t2 : (kk == 2) = true := by rw [k2]; rfl
      by_cases z : ln + lk = 0
      · have hz2 : ln = 0 := by omega
        have hz3 : lk = 0 := by omega
        subst hz2; subst hz3
        cases hr : rightM ms with
        | false =>
          have HE := Lib.hid (show q = 0 by rw [HT.out, if_neg k1, if_pos k2, if_neg (by rw [hr]; simp)])
          rw [hr] at HR
          clear k1 k2 z hr
          go_wp2_with fail
          (with_reducible refine HR.out.mono ?_); rintro e w2 ⟨rfl, hb2⟩
          have HB2 := Lib.hid (HB.out.trans (hb2.mono HB.out.size))
          have HX2 := Lib.hid (HX.out.below hb2 HX.out.lt)
          clear hb2 x0 x1 x2 x3 x4
          obtain ⟨x0, x1, x2, x3, x4⟩ := blk_cells5 HX2.out
          go_wp2_with fail
          go_ret
          exact ⟨by rw [HE.out]; rfl, HB2.out⟩
        | true =>
          rw [hr] at HR
          by_cases n1 : 1 ≤ nn
          · have n1' : ¬ nn < 1 := by omega
            have n1b : decide (nn < 1) = false := decide_eq_false n1'
            by_cases n2 : nn ≤ 1048576
            · have n2' : ¬ 1048576 < nn := by omega
              have n2b : decide (1048576 < nn) = false := decide_eq_false n2'
              have HE := Lib.hid (show q = 2 by rw [HT.out, if_neg k1, if_pos k2, if_pos ⟨z, hr, n1, n2⟩])
              clear k1 k2 z hr
              go_wp2_with fail
              (with_reducible refine HR.out.mono ?_); rintro e w2 ⟨rfl, hb2⟩
              have HB2 := Lib.hid (HB.out.trans (hb2.mono HB.out.size))
              have HX2 := Lib.hid (HX.out.below hb2 HX.out.lt)
              clear hb2 x0 x1 x2 x3 x4
              obtain ⟨x0, x1, x2, x3, x4⟩ := blk_cells5 HX2.out
              go_wp2_with fail
              go_ret
              exact ⟨by rw [HE.out]; rfl, HB2.out⟩
            · have n2' : 1048576 < nn := by omega
              have n2b : decide (1048576 < nn) = true := decide_eq_true n2'
              have HE := Lib.hid (show q = 0 by rw [HT.out, if_neg k1, if_pos k2, if_neg (fun h => n2 h.2.2.2)])
              clear k1 k2 z hr
              go_wp2_with fail
              (with_reducible refine HR.out.mono ?_); rintro e w2 ⟨rfl, hb2⟩
              have HB2 := Lib.hid (HB.out.trans (hb2.mono HB.out.size))
              have HX2 := Lib.hid (HX.out.below hb2 HX.out.lt)
              clear hb2 x0 x1 x2 x3 x4
              obtain ⟨x0, x1, x2, x3, x4⟩ := blk_cells5 HX2.out
              go_wp2_with fail
              go_ret
              exact ⟨by rw [HE.out]; rfl, HB2.out⟩
          · have n1' : nn < 1 := by omega
            have n1b : decide (nn < 1) = true := decide_eq_true n1'
            have HE := Lib.hid (show q = 0 by rw [HT.out, if_neg k1, if_pos k2, if_neg (fun h => n1 h.2.2.1)])
            clear k1 k2 z hr
            go_wp2_with fail
            (with_reducible refine HR.out.mono ?_); rintro e w2 ⟨rfl, hb2⟩
            have HB2 := Lib.hid (HB.out.trans (hb2.mono HB.out.size))
            have HX2 := Lib.hid (HX.out.below hb2 HX.out.lt)
            clear hb2 x0 x1 x2 x3 x4
            obtain ⟨x0, x1, x2, x3, x4⟩ := blk_cells5 HX2.out
            go_wp2_with fail
            go_ret
            exact ⟨by rw [HE.out]; rfl, HB2.out⟩
      · have t3 : 0 < ln + lk := by omega
        have t3b : decide ((0 : Int) < (ln : Int) + lk) = true := decide_eq_true (by omega)
        have HE := Lib.hid (show q = 0 by rw [HT.out, if_neg k1, if_pos k2, if_neg (fun h => z h.1)])
        clear k1 k2 z
        go_wp2_with fail
        go_ret
        exact ⟨by rw [HE.out]; rfl, HB.out⟩
    · have t2 : (kk == 2) = false := by rw [beq_eq_false_iff_ne]; exact k2
      have HT2 := Lib.hid (show q = if ¬ (lm = 0 ∧ nn = 0) then 0
        else if wordX kk ≠ ⟨#[]⟩ then oneT ns (tysP (pesX ks))
        else if signX kk ≠ ⟨#[]⟩ then twoT kk ns (tysP (pesX ks)) else 0 by rw [HT.out, if_neg k1, if_neg k2])
      clear HT k1 k2 HR
      by_cases z : lm = 0
      · subst z
        by_cases zn : nn = 0
        · subst zn
          have HT3 := Lib.hid (show q = if wordX kk ≠ ⟨#[]⟩ then oneT ns (tysP (pesX ks))
            else if signX kk ≠ ⟨#[]⟩ then twoT kk ns (tysP (pesX ks)) else 0 by rw [HT2.out, if_neg (by simp)])
          clear HT2
          generalize wordX kk = wd at *
          generalize signX kk = sg at *
          generalize oneT ns (tysP (pesX ks)) = q1 at *
          generalize twoT kk ns (tysP (pesX ks)) = q2 at *
          by_cases hwd : wd = ⟨#[]⟩
          · have HT4 := Lib.hid (show q = if sg ≠ ⟨#[]⟩ then q2 else 0 by rw [HT3.out, if_neg (by simpa using hwd)])
            clear HT3 H1
            subst hwd
            go_wp2_with fail
            (with_reducible refine HW.out.mono ?_); rintro e w' ⟨rfl, rfl⟩
            go_wp2_with fail
            (with_reducible refine HS.out.mono ?_); rintro e w' ⟨rfl, rfl⟩
            by_cases hsg : sg = ⟨#[]⟩
            · have HE := Lib.hid (show q = 0 by rw [HT4.out, if_neg (by simpa using hsg)])
              clear HT4
              subst hsg
              go_wp2_with fail
              go_ret
              exact ⟨by rw [HE.out]; rfl, HB.out⟩
            · have v1 : sg.toList.isEmpty = false := ba_full hsg
              have HE := Lib.hid (show q = q2 by rw [HT4.out, if_pos hsg])
              clear HT4
              go_wp2_with fail
              (with_reducible refine H2.out.mono ?_); rintro e w2 ⟨rfl, hb2⟩
              have HB2 := Lib.hid (HB.out.trans (hb2.mono HB.out.size))
              clear hb2
              go_wp2_with fail
              go_ret
              exact ⟨by rw [HE.out]; rfl, HB2.out⟩
          · have u1 : wd.toList.isEmpty = false := ba_full hwd
            have HE := Lib.hid (show q = q1 by rw [HT3.out, if_pos hwd])
            clear HT3 H2 HS
            go_wp2_with fail
            (with_reducible refine HW.out.mono ?_); rintro e w' ⟨rfl, rfl⟩
            go_wp2_with fail
            (with_reducible refine H1.out.mono ?_); rintro e w2 ⟨rfl, hb2⟩
            have HB2 := Lib.hid (HB.out.trans (hb2.mono HB.out.size))
            clear hb2
            go_wp2_with fail
            go_ret
            exact ⟨by rw [HE.out]; rfl, HB2.out⟩
        · have n1 : (nn != 0) = true := by rw [bne_iff_ne]; exact zn
          have n2 : (nn == 0) = false := by rw [beq_eq_false_iff_ne]; exact zn
          have HE := Lib.hid (show q = 0 by rw [HT2.out, if_pos (fun h => zn h.2)])
          clear HT2 zn
          go_wp2_with fail
          go_ret
          exact ⟨by rw [HE.out]; rfl, HB.out⟩
      · have t3 : decide (0 < lm) = true := decide_eq_true (by omega)
        have HE := Lib.hid (show q = 0 by rw [HT2.out, if_pos (fun h => z h.1)])
        clear HT2 z
        go_wp2_with fail
        go_ret
        exact ⟨by rw [HE.out]; rfl, HB.out⟩
theorem type_any : ∀ d, TypeSaid d
  | 0 => fun x w _ h => h.elim
  | d + 1 => type_step d (type_any d)
end Go.Proofs.YtnkbpcenkbihpaaDoor
