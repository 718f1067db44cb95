/- Texts, merged in one. -/
import Derived.Test.YtlmakdclebbbkaaGreatBase38
import Derived.Test.YtlmakdclebbbkaaGreatBase37
namespace Go.Proofs.YtlmakdclebbbkaaGreat
open Go.ChangeShapes Go.WideShapes Go.ChangeAt Go.RowKit
set_option linter.unusedVariables false
set_option linter.unusedSimpArgs false
set_option maxRecDepth 100000
theorem ba_full {s : ByteArray} (h : ¬ s = ⟨#[]⟩) : s.toList.isEmpty = false := by
  cases hq : s.toList with
  | nil =>
    rw [ByteArray.toList_eq] at hq
    exact absurd (by cases s; simp at hq; rw [hq]) h
  | cons => rfl
/-- typeOfTwo, whatever it is given. -/
theorem typeTwo_all (d : Nat) (IH : TypeSaid d) (kk nn : Int) (A1 : Option Addr) (c1 : Nat) (ms : List Mtc) (A2 : Option Addr) (c2 : Nat) (ns : List ByteArray) (A3 : Option Addr) (c3 : Nat) (ks : List XE) (w : World) (hs : smallP (pesX ks))
    (h : okX (d + 1) (.mk kk nn (.slice A1 ms.length c1) ms (.slice A2 ns.length c2) ns (.slice A3 ks.length c3) ks) w) :
    Calls Tryz.prog 96 #[.agg #[.int .i64 kk, .int .i64 nn, .slice A1 ms.length c1, .slice A2 ns.length c2, .slice A3 ks.length c3]] w fun e w' => e = .returned (.int .i64 (twoT kk ns (tysP (pesX ks)))) ∧ Below w.heap.size w w' := by
  by_cases hno : ns.length = 0 ∧ ks.length = 2
  · obtain ⟨h1, h2⟩ := hno
    obtain rfl : ns = [] := List.eq_nil_of_length_eq_zero h1
    match ks, h2 with
    | [a, b], _ =>
      obtain ⟨_, _, h3, _⟩ := id h
      obtain ⟨A', c', e, hsee, _⟩ := h3
      obtain ⟨ad, rfl, _⟩ := hsee.at_ (by simp [XE.kids])
      injection e with e1 e2 e3
      subst e1
      simp only [pesX, smallP] at hs
      exact typeTwo_x d IH kk nn A1 c1 ms A2 c2 ad c3 a b w hs.1 hs.2.1 h
  · have h0 := typeTwo_no kk nn A1 A2 A3 ms.length c1 ns.length c2 ks.length c3 w hno
    have e : twoT kk ns (tysP (pesX ks)) = 0 := by
      unfold twoT
      split
      · rename_i a b he
        exfalso; apply hno
        refine ⟨rfl, ?_⟩
        have := tysP_length ks
        rw [he] at this; simpa using this.symm
      · rfl
    rw [e]; exact h0
set_option maxHeartbeats 4000000 in
theorem type_step (d : Nat) (IH : TypeSaid d) : TypeSaid (d + 1) := by
  intro x w hsm h
  obtain ⟨A1, c1, A2, c2, A3, c3, e1, e2, e3⟩ := okX_forms h
  obtain ⟨kk, nn, mv, ms, nv, ns, kv, ks⟩ := x
  simp only [XE.mv, XE.nv, XE.kv, XE.ms, XE.ns, XE.kids] at e1 e2 e3
  subst e1; subst e2; subst e3
  have HT : Hid ((XE.mk kk nn (.slice A1 ms.length c1) ms (.slice A2 ns.length c2) ns (.slice A3 ks.length c3) ks).pe.ty = if kk = 1 then (if ms.length + ns.length + ks.length = 0 then 1 else 0)
    else if kk = 2 then (if ns.length + ks.length = 0 ∧ rightM ms = true ∧ 1 ≤ nn ∧ nn ≤ 1048576 then 2 else 0)
    else if ¬ (ms.length = 0 ∧ nn = 0) then 0
    else if wordX kk ≠ ⟨#[]⟩ then oneT ns (tysP (pesX ks))
    else if signX kk ≠ ⟨#[]⟩ then twoT kk ns (tysP (pesX ks)) else 0) := Lib.hid (by
      show (PE.mk kk nn ms ns (pesX ks)).ty = _
      unfold PE.ty
      rw [show (pesX ks).length = ks.length by have := tysP_length ks; rw [← this]; exact (by
        have : ∀ l : List PE, (tysP l).length = l.length := fun l => by
          induction l with
          | nil => rfl
          | cons a l ih => simp [tysP, ih]
        exact (this _).symm)])
  obtain ⟨hs1, hs2, hs3, hsk⟩ := (show ms.length ≤ 1000002 ∧ ns.length ≤ 1000002 ∧ (pesX ks).length ≤ 1000002 ∧ smallP (pesX ks) from hsm)
  have hs3' : ks.length ≤ 1000002 := by
    have : ∀ l : List XE, (pesX l).length = l.length := fun l => by
      induction l with
      | nil => rfl
      | cons a l ih => simp [pesX, ih]
    rw [this] at hs3; exact hs3
  obtain ⟨q, hq⟩ : ∃ q, (XE.mk kk nn (.slice A1 ms.length c1) ms (.slice A2 ns.length c2) ns (.slice A3 ks.length c3) ks).pe.ty = q := ⟨_, rfl⟩
  rw [hq] at HT ⊢
  have hb : Below w.heap.size w (w.alloc (.cells #[.int .i64 kk, .int .i64 nn, .slice A1 ms.length c1, .slice A2 ns.length c2, .slice A3 ks.length c3] 37)) := (Below.refl _ _).alloc (Nat.le_refl _) _
  have HB := Lib.hid hb
  have HX := Lib.hid (Blk.mk (heap_alloc_new w (.cells #[.int .i64 kk, .int .i64 nn, .slice A1 ms.length c1, .slice A2 ns.length c2, .slice A3 ks.length c3] 37)) : Blk _ w.heap.size 37 [.int .i64 kk, .int .i64 nn, .slice A1 ms.length c1, .slice A2 ns.length c2, .slice A3 ks.length c3])
  have H0 := Lib.hid (okX_below hb (d + 1) _ h)
  have H1 := Lib.hid (typeOne_x d IH kk nn A1 c1 ms A2 c2 ns A3 c3 ks (w.alloc (.cells #[.int .i64 kk, .int .i64 nn, .slice A1 ms.length c1, .slice A2 ns.length c2, .slice A3 ks.length c3] 37)) hsk H0.out)
  have H2 := Lib.hid (typeTwo_all d IH kk nn A1 c1 ms A2 c2 ns A3 c3 ks (w.alloc (.cells #[.int .i64 kk, .int .i64 nn, .slice A1 ms.length c1, .slice A2 ns.length c2, .slice A3 ks.length c3] 37)) hsk H0.out)
  obtain ⟨m1, m2, m3⟩ := Slc.slice H0.out.1
  have HR := Lib.hid (rightM_any A1 ms.length c1 (w.alloc (.cells #[.int .i64 kk, .int .i64 nn, .slice A1 ms.length c1, .slice A2 ns.length c2, .slice A3 ks.length c3] 37)).heap.size ms (w.alloc (.cells #[.int .i64 kk, .int .i64 nn, .slice A1 ms.length c1, .slice A2 ns.length c2, .slice A3 ks.length c3] 37)) m1 (Nat.le_refl _) (Nat.le_trans m2 m3))
  have HW := Lib.hid (word_x kk (w.alloc (.cells #[.int .i64 kk, .int .i64 nn, .slice A1 ms.length c1, .slice A2 ns.length c2, .slice A3 ks.length c3] 37)))
  have HS := Lib.hid (sign_x kk (w.alloc (.cells #[.int .i64 kk, .int .i64 nn, .slice A1 ms.length c1, .slice A2 ns.length c2, .slice A3 ks.length c3] 37)))
  clear m1 m2 m3 H0 hb hq h hsm hs3 hsk IH
  show Calls Tryz.prog 50 #[.agg #[.int .i64 kk, .int .i64 nn, .slice A1 ms.length c1, .slice A2 ns.length c2, .slice A3 ks.length c3]] w _
  generalize ms.length = lm at *
  generalize ns.length = ln at *
  generalize ks.length = lk at *
  go_enter Tryz.func50, Tryz.ntmps50
  go_upto_region 1 with fail
  generalize w.alloc (.cells #[.int .i64 kk, .int .i64 nn, .slice A1 lm c1, .slice A2 ln c2, .slice A3 lk c3] 37) = W1 at *
  obtain ⟨x0, x1, x2, x3, x4⟩ := blk_cells5 HX.out
  by_cases k1 : kk = 1
  · have t1 : (kk == 1) = true := by rw [k1]; rfl
    by_cases z : lm + ln + lk = 0
    · have t2 : decide ((0 : Int) < (lm : Int) + ln + lk) = false := decide_eq_false (by omega)
      have HE := Lib.hid (show q = 1 by rw [HT.out, if_pos k1, if_pos z])
      have hz1 : lm = 0 := by omega
      have hz2 : ln = 0 := by omega
      have hz3 : lk = 0 := by omega
      subst hz1; subst hz2; subst hz3
      clear k1 t2 z
      go_wp2_with fail
      go_ret
      exact ⟨by rw [HE.out]; rfl, HB.out⟩
    · have t2 : decide ((0 : Int) < (lm : Int) + ln + lk) = true := decide_eq_true (by omega)
      have t3 : 0 < lm + ln + lk := by omega
      have HE := Lib.hid (show q = 0 by rw [HT.out, if_pos k1, if_neg z])
      clear k1 z
      go_wp2_with fail
      go_ret
      exact ⟨by rw [HE.out]; rfl, HB.out⟩
  · have t1 : (kk == 1) = false := by rw [beq_eq_false_iff_ne]; exact k1
    by_cases k2 : kk = 2
    · have t2 : (kk == 2) = true := by rw [k2]; rfl
      by_cases z : ln + lk = 0
      · have hz2 : ln = 0 := by omega
        have hz3 : lk = 0 := by omega
        subst hz2; subst hz3
        cases hr : rightM ms with
        | false =>
          have HE := Lib.hid (show q = 0 by rw [HT.out, if_neg k1, if_pos k2, if_neg (by rw [hr]; simp)])
          rw [hr] at HR
          clear k1 k2 z hr
          go_wp2_with fail
          (with_reducible refine HR.out.mono ?_); rintro e w2 ⟨rfl, hb2⟩
          have HB2 := Lib.hid (HB.out.trans (hb2.mono HB.out.size))
          have HX2 := Lib.hid (HX.out.below hb2 HX.out.lt)
          clear hb2 x0 x1 x2 x3 x4
          obtain ⟨x0, x1, x2, x3, x4⟩ := blk_cells5 HX2.out
          go_wp2_with fail
          go_ret
          exact ⟨by rw [HE.out]; rfl, HB2.out⟩
        | true =>
          rw [hr] at HR
          by_cases n1 : 1 ≤ nn
          · have n1' : ¬ nn < 1 := by omega
            have n1b : decide (nn < 1) = false := decide_eq_false n1'
            by_cases n2 : nn ≤ 1048576
            · have n2' : ¬ 1048576 < nn := by omega
              have n2b : decide (1048576 < nn) = false := decide_eq_false n2'
              have HE := Lib.hid (show q = 2 by rw [HT.out, if_neg k1, if_pos k2, if_pos ⟨z, hr, n1, n2⟩])
              clear k1 k2 z hr
              go_wp2_with fail
              (with_reducible refine HR.out.mono ?_); rintro e w2 ⟨rfl, hb2⟩
              have HB2 := Lib.hid (HB.out.trans (hb2.mono HB.out.size))
              have HX2 := Lib.hid (HX.out.below hb2 HX.out.lt)
              clear hb2 x0 x1 x2 x3 x4
              obtain ⟨x0, x1, x2, x3, x4⟩ := blk_cells5 HX2.out
              go_wp2_with fail
              go_ret
              exact ⟨by rw [HE.out]; rfl, HB2.out⟩
            · have n2' : 1048576 < nn := by omega
              have n2b : decide (1048576 < nn) = true := decide_eq_true n2'
              have HE := Lib.hid (show q = 0 by rw [HT.out, if_neg k1, if_pos k2, if_neg (fun h => n2 h.2.2.2)])
              clear k1 k2 z hr
              go_wp2_with fail
              (with_reducible refine HR.out.mono ?_); rintro e w2 ⟨rfl, hb2⟩
              have HB2 := Lib.hid (HB.out.trans (hb2.mono HB.out.size))
              have HX2 := Lib.hid (HX.out.below hb2 HX.out.lt)
              clear hb2 x0 x1 x2 x3 x4
              obtain ⟨x0, x1, x2, x3, x4⟩ := blk_cells5 HX2.out
              go_wp2_with fail
              go_ret
              exact ⟨by rw [HE.out]; rfl, HB2.out⟩
          · have n1' : nn < 1 := by omega
            have n1b : decide (nn < 1) = true := decide_eq_true n1'
            have HE := Lib.hid (show q = 0 by rw [HT.out, if_neg k1, if_pos k2, if_neg (fun h => n1 h.2.2.1)])
            clear k1 k2 z hr
            go_wp2_with fail
            (with_reducible refine HR.out.mono ?_); rintro e w2 ⟨rfl, hb2⟩
            have HB2 := Lib.hid (HB.out.trans (hb2.mono HB.out.size))
            have HX2 := Lib.hid (HX.out.below hb2 HX.out.lt)
            clear hb2 x0 x1 x2 x3 x4
            obtain ⟨x0, x1, x2, x3, x4⟩ := blk_cells5 HX2.out
            go_wp2_with fail
            go_ret
            exact ⟨by rw [HE.out]; rfl, HB2.out⟩
      · have t3 : 0 < ln + lk := by omega
        have t3b : decide ((0 : Int) < (ln : Int) + lk) = true := decide_eq_true (by omega)
        have HE := Lib.hid (show q = 0 by rw [HT.out, if_neg k1, if_pos k2, if_neg (fun h => z h.1)])
        clear k1 k2 z
        go_wp2_with fail
        go_ret
        exact ⟨by rw [HE.out]; rfl, HB.out⟩
    · have t2 : (kk == 2) = false := by rw [beq_eq_false_iff_ne]; exact k2
      have HT2 := Lib.hid (show q = if ¬ (lm = 0 ∧ nn = 0) then 0
        else if wordX kk ≠ ⟨#[]⟩ then oneT ns (tysP (pesX ks))
        else if signX kk ≠ ⟨#[]⟩ then twoT kk ns (tysP (pesX ks)) else 0 by rw [HT.out, if_neg k1, if_neg k2])
      clear HT k1 k2 HR
      by_cases z : lm = 0
      · subst z
        by_cases zn : nn = 0
        · subst zn
          have HT3 := Lib.hid (show q = if wordX kk ≠ ⟨#[]⟩ then oneT ns (tysP (pesX ks))
            else if signX kk ≠ ⟨#[]⟩ then twoT kk ns (tysP (pesX ks)) else 0 by rw [HT2.out, if_neg (by simp)])
          clear HT2
          generalize wordX kk = wd at *
          generalize signX kk = sg at *
          generalize oneT ns (tysP (pesX ks)) = q1 at *
          generalize twoT kk ns (tysP (pesX ks)) = q2 at *
          by_cases hwd : wd = ⟨#[]⟩
          · have HT4 := Lib.hid (show q = if sg ≠ ⟨#[]⟩ then q2 else 0 by rw [HT3.out, if_neg (by simpa using hwd)])
            clear HT3 H1
            subst hwd
            go_wp2_with fail
            (with_reducible refine HW.out.mono ?_); rintro e w' ⟨rfl, rfl⟩
            go_wp2_with fail
            (with_reducible refine HS.out.mono ?_); rintro e w' ⟨rfl, rfl⟩
            by_cases hsg : sg = ⟨#[]⟩
            · have HE := Lib.hid (show q = 0 by rw [HT4.out, if_neg (by simpa using hsg)])
              clear HT4
              subst hsg
              go_wp2_with fail
              go_ret
              exact ⟨by rw [HE.out]; rfl, HB.out⟩
            · have v1 : sg.toList.isEmpty = false := ba_full hsg
              have HE := Lib.hid (show q = q2 by rw [HT4.out, if_pos hsg])
              clear HT4
              go_wp2_with fail
              (with_reducible refine H2.out.mono ?_); rintro e w2 ⟨rfl, hb2⟩
              have HB2 := Lib.hid (HB.out.trans (hb2.mono HB.out.size))
              clear hb2
              go_wp2_with fail
              go_ret
              exact ⟨by rw [HE.out]; rfl, HB2.out⟩
          · have u1 : wd.toList.isEmpty = false := ba_full hwd
            have HE := Lib.hid (show q = q1 by rw [HT3.out, if_pos hwd])
            clear HT3 H2 HS
            go_wp2_with fail
            (with_reducible refine HW.out.mono ?_); rintro e w' ⟨rfl, rfl⟩
            go_wp2_with fail
            (with_reducible refine H1.out.mono ?_); rintro e w2 ⟨rfl, hb2⟩
            have HB2 := Lib.hid (HB.out.trans (hb2.mono HB.out.size))
            clear hb2
            go_wp2_with fail
            go_ret
            exact ⟨by rw [HE.out]; rfl, HB2.out⟩
        · have n1 : (nn != 0) = true := by rw [bne_iff_ne]; exact zn
          have n2 : (nn == 0) = false := by rw [beq_eq_false_iff_ne]; exact zn
          have HE := Lib.hid (show q = 0 by rw [HT2.out, if_pos (fun h => zn h.2)])
          clear HT2 zn
          go_wp2_with fail
          go_ret
          exact ⟨by rw [HE.out]; rfl, HB.out⟩
      · have t3 : decide (0 < lm) = true := decide_eq_true (by omega)
        have HE := Lib.hid (show q = 0 by rw [HT2.out, if_pos (fun h => z h.1)])
        clear HT2 z
        go_wp2_with fail
        go_ret
        exact ⟨by rw [HE.out]; rfl, HB.out⟩
theorem type_any : ∀ d, TypeSaid d
  | 0 => fun x w _ h => h.elim
  | d + 1 => type_step d (type_any d)
end Go.Proofs.YtlmakdclebbbkaaGreat

namespace Go.Proofs.YtlmakdclebbbkaaGreat
open Go.ChangeShapes Go.WideShapes Go.ChangeAt Go.RowKit
set_option linter.unusedVariables false
set_option linter.unusedSimpArgs false
set_option maxRecDepth 100000
theorem pesX_length : ∀ l : List XE, (pesX l).length = l.length
  | [] => rfl
  | a :: l => by simp [pesX, pesX_length l]
theorem pesX_map : ∀ l : List XE, pesX l = l.map XE.pe
  | [] => rfl
  | a :: l => by simp [pesX, pesX_map l]
theorem deepsP_snoc : ∀ (l : List PE) (x : PE), deepsP (l ++ [x]) = max (deepsP l) x.deep
  | [], x => by simp [deepsP]
  | a :: l, x => by rw [List.cons_append, deepsP, deepsP, deepsP_snoc l x]; omega
theorem deepsP_le {n : Nat} : ∀ (l : List PE), (∀ x ∈ l, x.deep ≤ n) → deepsP l ≤ n
  | [], _ => Nat.zero_le _
  | a :: l, h => by
    have h1 := h a List.mem_cons_self
    have h2 := deepsP_le l (fun x hx => h x (List.mem_cons_of_mem _ hx))
    rw [deepsP]; omega
theorem pe_deep_eq (x : XE) : x.pe.deep = 1 + deepsP (pesX x.kids) := by
  obtain ⟨kk, nn, mv, ms, nv, ns, kv, ks⟩ := x
  show (PE.mk kk nn ms ns (pesX ks)).deep = _
  unfold PE.deep; rfl
theorem okX_deep : ∀ (d : Nat) (x : XE) (w : World), okX d x w → x.pe.deep ≤ d
  | 0, _, _, h => h.elim
  | d + 1, x, w, h => by
    rw [pe_deep_eq]
    have := deepsP_le (n := d) (pesX x.kids) (fun y hy => by
      rw [pesX_map] at hy
      obtain ⟨k, hk, rfl⟩ := List.mem_map.1 hy
      exact okX_deep d k w (h.2.2.2 k hk))
    omega
def DeepSaid (d : Nat) : Prop := ∀ (x : XE) (w : World), okX d x w → d ≤ 1000000 → Calls Tryz.prog 21 #[x.val] w fun e w' => e = .returned (.int .i64 (x.pe.deep : Nat)) ∧ Below w.heap.size w w'
set_option maxHeartbeats 2000000 in
theorem deep_step (d : Nat) (IH : DeepSaid d) : DeepSaid (d + 1) := by
  intro x w h hd
  obtain ⟨A1, c1, A2, c2, A3, c3, e1, e2, e3⟩ := okX_forms h
  obtain ⟨kk, nn, mv, ms, nv, ns, kv, ks⟩ := x
  simp only [XE.mv, XE.nv, XE.kv, XE.ms, XE.ns, XE.kids] at e1 e2 e3
  subst e1; subst e2; subst e3
  have HD : Hid ((XE.mk kk nn (.slice A1 ms.length c1) ms (.slice A2 ns.length c2) ns (.slice A3 ks.length c3) ks).pe.deep = 1 + deepsP (pesX ks)) := Lib.hid (pe_deep_eq _)
  rw [HD.out]
  have HDK := Lib.hid (fun k (hk : k ∈ ks) => okX_deep d k w (h.2.2.2 k hk))
  have HSL := Lib.hid (show Slc w 5 (.slice A3 ks.length c3) ks.length (kcells ks) from h.2.2.1)
  have hm : ks.length ≤ c3 ∧ c3 ≤ 9223372036854775807 := (Slc.slice HSL.out).2
  have HT := Lib.hid ((((Kept.start w).add (P := fun W => ∀ k ∈ ks, okX d k W) (fun W hb k hk => okX_below hb d k (h.2.2.2 k hk))).add (P := fun W => Slc W 5 (.slice A3 ks.length c3) ks.length (kcells ks)) (fun W hb => HSL.out.below hb)).alloc (.cells #[.int .i64 kk, .int .i64 nn, .slice A1 ms.length c1, .slice A2 ns.length c2, .slice A3 ks.length c3] 37))
  have HBX := Lib.hid (Blk.mk (heap_alloc_new w (.cells #[.int .i64 kk, .int .i64 nn, .slice A1 ms.length c1, .slice A2 ns.length c2, .slice A3 ks.length c3] 37)) : Blk _ w.heap.size 37 [.int .i64 kk, .int .i64 nn, .slice A1 ms.length c1, .slice A2 ns.length c2, .slice A3 ks.length c3])
  obtain ⟨x0, x1, x2, x3, x4⟩ := blk_cells5 HBX.out
  have HIH := Lib.hid (fun (k : XE) (V : World) (h : okX d k V) => IH k V h (by omega))
  have HDD := Lib.hid hd
  clear h IH HSL hd
  show Calls _ _ #[.agg #[.int .i64 kk, .int .i64 nn, .slice A1 ms.length c1, .slice A2 ns.length c2, .slice A3 ks.length c3]] _ _
  obtain ⟨W1, hW1⟩ : ∃ W, w.alloc (.cells #[.int .i64 kk, .int .i64 nn, .slice A1 ms.length c1, .slice A2 ns.length c2, .slice A3 ks.length c3] 37) = W := ⟨_, rfl⟩
  rw [hW1] at HT x0 x1 x2 x3 x4
  clear HBX
  go_enter Tryz.func21, Tryz.ntmps21
  go_wp2_with fail
  clear hW1 x0 x1 x2 x3 x4
  go_loopg [3, 9] ks.length (fun g y3 y9 wr => ∃ k : Nat, k + g = ks.length ∧ y9 = .int .i64 k ∧ y3 = .int .i64 ((deepsP (pesX (ks.take k)) : Nat) : Int) ∧ Kept w [fun W => Slc W 5 (.slice A3 ks.length c3) ks.length (kcells ks), fun W => ∀ k ∈ ks, okX d k W] wr)
  case atStart => exact ⟨0, by omega, rfl, by simp [pesX, deepsP], HT.out⟩
  case round =>
    obtain ⟨k, hkg, rfl, rfl, hkept⟩ := hrel
    have HTR := Lib.hid hkept
    clear hkept HT
    have HLE := Lib.hid (show deepsP (pesX (ks.take k)) ≤ d from deepsP_le _ (fun y hy => by
      rw [pesX_map] at hy
      obtain ⟨z, hz, rfl⟩ := List.mem_map.1 hy
      exact HDK.out z (List.mem_of_mem_take hz)))
    cases gk with
    | zero =>
      obtain rfl : k = ks.length := by omega
      rw [List.take_of_length_le (Nat.le_refl _)] at HLE ⊢
      have hle : deepsP (pesX ks) ≤ 1000000 := by have := HLE.out; have := HDD.out; omega
      obtain ⟨q, hq⟩ : ∃ q, deepsP (pesX ks) = q := ⟨_, rfl⟩
      have HQ := Lib.hid hq
      rw [hq] at hle ⊢
      clear hq
      go_wp2_with fail
      go_ret
      exact ⟨by rw [HQ.out, show ((1 + q : Nat) : Int) = 1 + (q : Int) by omega]; rfl, HTR.out.bel⟩
    | succ g =>
      have hlt : k < ks.length := by omega
      obtain ⟨ad, hkl, hA, e0, e1, e2, e3, e4⟩ := (Slc.slice HTR.out.p0).1.kid hlt
      subst hA
      have hal := World.block_lt_of_cell? wr _ e0
      have hq := HTR.out.p1 ks[k] (List.getElem_mem _)
      have hsn : deepsP (pesX (ks.take (k + 1))) = max (deepsP (pesX (ks.take k))) (ks[k].pe.deep) := by
        rw [List.take_succ_eq_append_getElem hlt, pesX_map, List.map_append, List.map_singleton, deepsP_snoc, pesX_map]
      have hdk := HDK.out ks[k] (List.getElem_mem _)
      have HIQ := Lib.hid (fun V (h : okX d (ks[k]'hkl) V) => HIH.out (ks[k]'hkl) V h)
      generalize ks[k] = q at *
      obtain ⟨B1, b1, B2, b2, B3, b3, hv1, hv2, hv3⟩ := okX_forms hq
      rw [hv1] at e2; rw [hv2] at e3; rw [hv3] at e4
      have hval : q.val = .agg #[.int .i64 q.kd, .int .i64 q.n, .slice B1 q.ms.length b1, .slice B2 q.ns.length b2, .slice B3 q.kids.length b3] := by unfold XE.val; rw [hv1, hv2, hv3]
      rw [hval] at HIQ
      have HQ := Lib.hid (okX_below ((Below.refl wr.heap.size wr).alloc (Nat.le_refl _) (.cells #[.int .i64 q.kd, .int .i64 q.n, .slice B1 q.ms.length b1, .slice B2 q.ns.length b2, .slice B3 q.kids.length b3] 37)) d q hq)
      have HTA := Lib.hid (HTR.out.alloc (.cells #[.int .i64 q.kd, .int .i64 q.n, .slice B1 q.ms.length b1, .slice B2 q.ns.length b2, .slice B3 q.kids.length b3] 37))
      obtain ⟨s, hs⟩ : ∃ s, deepsP (pesX (ks.take k)) = s := ⟨_, rfl⟩
      have hsle := HLE.out
      rw [hs] at hsn hsle
      rw [hs]
      obtain ⟨t, ht⟩ : ∃ t, q.pe.deep = t := ⟨_, rfl⟩
      rw [ht] at hsn hdk HIQ
      have HN := Lib.hid hsn
      obtain ⟨m, hm0⟩ : ∃ m, max s t = m := ⟨_, rfl⟩
      rw [hm0] at HN
      have hm1 : (max (s : Int) (t : Int)) = (m : Int) := by omega
      have hm2 : (if (s : Int) < (t : Int) then (t : Int) else (s : Int)) = (m : Int) := by split <;> omega
      have hm3 : (if (t : Int) < (s : Int) then (s : Int) else (t : Int)) = (m : Int) := by split <;> omega
      have hm4 : (if s < t then (t : Int) else (s : Int)) = (m : Int) := by split <;> omega
      clear hsn hdk hs hq hv1 hv2 hv3 hval HTR ht hm0 hsle HLE
      generalize q.ms.length = l1 at *
      generalize q.ns.length = l2 at *
      generalize q.kids.length = l3 at *
      generalize q.kd = qk at *
      generalize q.n = qn at *
      go_wp2_with fail
      (with_reducible refine (HIQ.out _ HQ.out).mono ?_); rintro e wq ⟨rfl, hbq⟩
      have HTA_n := Lib.hid (HTA.out.below hbq); clear HTA; have HTA := HTA_n; clear HTA_n
      clear hbq HQ
      go_wp2_with fail
      go_roundg g
      case measure => omega
      case rel => exact ⟨k + 1, by omega, by go_num, by rw [HN.out], HTA.out⟩
theorem deep_any : ∀ d, DeepSaid d
  | 0 => fun x w h _ => h.elim
  | d + 1 => deep_step d (deep_any d)
/-- May a rule have it. -/
def PE.right (x : PE) : Bool := decide (x.ty = 2) && decide (x.deep ≤ 8)
set_option maxHeartbeats 2000000 in
theorem right_x (d : Nat) (hd : d ≤ 1000000) (x : XE) (w : World) (hs : x.pe.small) (h : okX d x w) :
    Calls Tryz.prog 22 #[x.val] w fun e w' => e = .returned (.bool x.pe.right) ∧ Below w.heap.size w w' := by
  obtain ⟨A1, c1, A2, c2, A3, c3, e1, e2, e3⟩ := okX_forms h
  obtain ⟨kk, nn, mv, ms, nv, ns, kv, ks⟩ := x
  simp only [XE.mv, XE.nv, XE.kv, XE.ms, XE.ns, XE.kids] at e1 e2 e3
  subst e1; subst e2; subst e3
  have hb : Below w.heap.size w (w.alloc (.cells #[.int .i64 kk, .int .i64 nn, .slice A1 ms.length c1, .slice A2 ns.length c2, .slice A3 ks.length c3] 37)) := (Below.refl _ _).alloc (Nat.le_refl _) _
  have HB := Lib.hid hb
  have HBX := Lib.hid (Blk.mk (heap_alloc_new w (.cells #[.int .i64 kk, .int .i64 nn, .slice A1 ms.length c1, .slice A2 ns.length c2, .slice A3 ks.length c3] 37)) : Blk _ w.heap.size 37 [.int .i64 kk, .int .i64 nn, .slice A1 ms.length c1, .slice A2 ns.length c2, .slice A3 ks.length c3])
  have HOK := Lib.hid (okX_below hb d _ h)
  have HTY := Lib.hid (type_any d _ (w.alloc (.cells #[.int .i64 kk, .int .i64 nn, .slice A1 ms.length c1, .slice A2 ns.length c2, .slice A3 ks.length c3] 37)) hs HOK.out)
  have HDE := Lib.hid (fun V (hV : okX d (.mk kk nn (.slice A1 ms.length c1) ms (.slice A2 ns.length c2) ns (.slice A3 ks.length c3) ks) V) => deep_any d _ V hV hd)
  unfold XE.val XE.kd XE.n XE.mv XE.nv XE.kv at HTY HDE
  simp only at HTY HDE
  have HPR : Hid ((XE.mk kk nn (.slice A1 ms.length c1) ms (.slice A2 ns.length c2) ns (.slice A3 ks.length c3) ks).pe.right = (decide ((XE.mk kk nn (.slice A1 ms.length c1) ms (.slice A2 ns.length c2) ns (.slice A3 ks.length c3) ks).pe.ty = 2) && decide ((XE.mk kk nn (.slice A1 ms.length c1) ms (.slice A2 ns.length c2) ns (.slice A3 ks.length c3) ks).pe.deep ≤ 8))) := Lib.hid rfl
  have HDL := Lib.hid (okX_deep d _ w h)
  clear h hb hs
  show Calls _ _ #[.agg #[.int .i64 kk, .int .i64 nn, .slice A1 ms.length c1, .slice A2 ns.length c2, .slice A3 ks.length c3]] _ _
  generalize (XE.mk kk nn (.slice A1 ms.length c1) ms (.slice A2 ns.length c2) ns (.slice A3 ks.length c3) ks).pe.right = r at *
  generalize (XE.mk kk nn (.slice A1 ms.length c1) ms (.slice A2 ns.length c2) ns (.slice A3 ks.length c3) ks).pe.ty = ty at *
  generalize (XE.mk kk nn (.slice A1 ms.length c1) ms (.slice A2 ns.length c2) ns (.slice A3 ks.length c3) ks).pe.deep = dp at *
  go_enter Tryz.func22, Tryz.ntmps22
  go_upto_region 1 with fail
  generalize w.alloc (.cells #[.int .i64 kk, .int .i64 nn, .slice A1 ms.length c1, .slice A2 ns.length c2, .slice A3 ks.length c3] 37) = W1 at *
  obtain ⟨x0, x1, x2, x3, x4⟩ := blk_cells5 HBX.out
  by_cases ht : ty = 2
  · have t1 : (ty == 2) = true := by rw [ht]; rfl
    obtain ⟨g, hg⟩ : ∃ g, decide ((dp : Int) ≤ 8) = g := ⟨_, rfl⟩
    have HE := Lib.hid (show r = g by rw [HPR.out, decide_eq_true ht, ← hg, Bool.true_and]; exact decide_eq_decide.2 (by omega))
    clear ht
    go_wp2_with fail
    (with_reducible refine HTY.out.mono ?_); rintro e w2 ⟨rfl, hb2⟩
    have HB2 := Lib.hid (HB.out.trans (hb2.mono HB.out.size))
    have HX2 := Lib.hid (HBX.out.below hb2 HBX.out.lt)
    have HC := Lib.hid (HDE.out _ (okX_below hb2 d _ HOK.out))
    clear hb2 x0 x1 x2 x3 x4
    obtain ⟨x0, x1, x2, x3, x4⟩ := blk_cells5 HX2.out
    go_wp2_with fail
    (with_reducible refine HC.out.mono ?_); rintro e w3 ⟨rfl, hb3⟩
    have HB3 := Lib.hid (HB2.out.trans (hb3.mono HB2.out.size))
    clear hb3
    go_wp2_with fail
    go_ret
    exact ⟨by rw [HE.out]; rfl, HB3.out⟩
  · have t1 : (ty == 2) = false := by rw [beq_eq_false_iff_ne]; exact ht
    have HE := Lib.hid (show r = false by rw [HPR.out, decide_eq_false ht, Bool.false_and])
    clear ht
    go_wp2_with fail
    (with_reducible refine HTY.out.mono ?_); rintro e w2 ⟨rfl, hb2⟩
    have HB2 := Lib.hid (HB.out.trans (hb2.mono HB.out.size))
    clear hb2
    go_wp2_with fail
    go_ret
    exact ⟨by rw [HE.out]; rfl, HB2.out⟩
end Go.Proofs.YtlmakdclebbbkaaGreat
