/- The walk of LsetBack. -/
import Derived.Test.YtkebmdcljeaacaaCompare
import Derived.Deep.RegionHeld3
import Derived.Deep.DeepCutAuto
namespace Go.Proofs.Ytkebmdcljeaacaa
open Go.ChangeShapes Go.WideShapes Go.ChangeAt Go.RowKit
set_option linter.unusedVariables false
set_option maxRecDepth 100000
/-- Two sets of numbers, boxed. -/
structure BoxAt (w0 : World) (ka kb : KSet) (ba bb : Nat) (w : World) : Prop where
  okA : ka.ok w0.heap.size w
  okB : kb.ok w0.heap.size w
  boxA : Blk w ba 42 [.slice ka.A ka.n ka.c, .slice ka.A2 ka.n2 ka.c2]
  boxB : Blk w bb 42 [.slice kb.A kb.n kb.c, .slice kb.A2 kb.n2 kb.c2]
  bel : Below w0.heap.size w0 w
theorem BoxAt.below {w0 w w' : World} {ka kb : KSet} {ba bb : Nat} (h : BoxAt w0 ka kb ba bb w) (hb : Below w.heap.size w w') : BoxAt w0 ka kb ba bb w' :=
  ⟨h.okA.below (hb.mono h.bel.size), h.okB.below (hb.mono h.bel.size), h.boxA.below hb h.boxA.lt, h.boxB.below hb h.boxB.lt, h.bel.trans (hb.mono h.bel.size)⟩
theorem BoxAt.drewN {w0 w : World} {ka kb : KSet} {ba bb : Nat} (h : BoxAt w0 ka kb ba bb w) (n : Nat) : BoxAt w0 ka kb ba bb (w.drewN n) :=
  ⟨⟨h.okA.has_.drewN n, h.okA.hasI, h.okA.n_, h.okA.vals_.drewN n, h.okA.valsI, h.okA.n2_⟩, ⟨h.okB.has_.drewN n, h.okB.hasI, h.okB.n_, h.okB.vals_.drewN n, h.okB.valsI, h.okB.n2_⟩, h.boxA.drewN n, h.boxB.drewN n, below_drewN3 h.bel n⟩
theorem BoxAt.cells {w0 w : World} {ka kb : KSet} {ba bb : Nat} (h : BoxAt w0 ka kb ba bb w) : w.cell? ⟨ba, 0, none⟩ = some (.slice ka.A ka.n ka.c) ∧ w.cell? ⟨ba, 1, none⟩ = some (.slice ka.A2 ka.n2 ka.c2) ∧ w.cell? ⟨bb, 0, none⟩ = some (.slice kb.A kb.n kb.c) ∧ w.cell? ⟨bb, 1, none⟩ = some (.slice kb.A2 kb.n2 kb.c2) := by
  have h0 := h.boxA.cell 0
  have h1 := h.boxA.cell 1
  have h2 := h.boxB.cell 0
  have h3 := h.boxB.cell 1
  exact ⟨by simpa using h0, by simpa using h1, by simpa using h2, by simpa using h3⟩
theorem BoxAt.drew {w0 w : World} {ka kb : KSet} {ba bb : Nat} (h : BoxAt w0 ka kb ba bb w) : BoxAt w0 ka kb ba bb w.drew := h.drewN 1
/-- A list that a call made, or one like it. -/
def HasL (w : World) (v : Value) (l : List (ByteArray × ByteArray)) : Prop := ∃ A c, v = .slice A l.length c ∧ Sees w w.heap.size 2 A l.length (lbls l) ∧ l.length ≤ c ∧ c ≤ 9223372036854775807
theorem HasL.below {w w' : World} {v : Value} {l : List (ByteArray × ByteArray)} (h : HasL w v l) (hb : Below w.heap.size w w') : HasL w' v l := by
  obtain ⟨A, c, h1, h2, h3⟩ := h
  exact ⟨A, c, h1, (h2.below hb).more hb.size, h3⟩
theorem HasL.drewN {w : World} {v : Value} {l : List (ByteArray × ByteArray)} (h : HasL w v l) (n : Nat) : HasL (w.drewN n) v l := by
  obtain ⟨A, c, h1, h2, h3⟩ := h
  exact ⟨A, c, h1, h2.drewN n, h3⟩
theorem OwnAns.hasL {w w' : World} {e : Ending} {l : List (ByteArray × ByteArray)} (h : OwnAns 23 2 l.length (lbls l) w e w') : ∃ v, e = .returned v ∧ HasL w' v l ∧ Below w.heap.size w w' := by
  obtain ⟨A, c, h1, h2, h3, h4, h5⟩ := h
  exact ⟨_, h1, ⟨A, c, rfl, Sees.of_own h2, h4, h5⟩, h3⟩
theorem printNil : printL [] = [123, 125] := by decide
/-- Two lists that stay. -/
structure TwoL (w0 : World) (la lb : List (ByteArray × ByteArray)) (va vb : Value) (w : World) : Prop where
  a : HasL w va la
  b : HasL w vb lb
  bel : Below w0.heap.size w0 w
theorem TwoL.below {w0 w w' : World} {la lb : List (ByteArray × ByteArray)} {va vb : Value} (h : TwoL w0 la lb va vb w) (hb : Below w.heap.size w w') : TwoL w0 la lb va vb w' := ⟨h.a.below hb, h.b.below hb, h.bel.trans (hb.mono h.bel.size)⟩
theorem TwoL.drewN {w0 w : World} {la lb : List (ByteArray × ByteArray)} {va vb : Value} (h : TwoL w0 la lb va vb w) (n : Nat) : TwoL w0 la lb va vb (w.drewN n) := ⟨h.a.drewN n, h.b.drewN n, below_drewN3 h.bel n⟩
theorem HasL.slice {w : World} {A : Option Addr} {n c : Nat} {l : List (ByteArray × ByteArray)} (h : HasL w (.slice A n c) l) : Sees w w.heap.size 2 A n (lbls l) ∧ l.length = n ∧ n ≤ c ∧ c ≤ 9223372036854775807 := by
  obtain ⟨A', c', h1, h2, h3, h4⟩ := h
  injection h1 with h1 h5 h6
  subst h1; subst h5; subst h6
  exact ⟨h2, rfl, h3, h4⟩
theorem HasL.form {w : World} {v : Value} {l : List (ByteArray × ByteArray)} (h : HasL w v l) : ∃ A c, v = .slice A l.length c := by
  obtain ⟨A, c, h1, _⟩ := h; exact ⟨A, c, h1⟩
theorem printL_length_le {l : List (ByteArray × ByteArray)} (h : rightS l = true) : (printL l).length ≤ 500 := by
  rw [printL, if_pos h]
  have h1 := joinL_length_le l (rightS_sizes h)
  have h2 := rightS_len h
  have h3 : 76 * l.length ≤ 456 := Nat.mul_le_mul_left 76 h2
  simp only [List.length_cons, List.length_append, List.length_nil]
  omega
set_option maxHeartbeats 8000000 in
theorem lset_back (ka kb : KSet) (s : ByteArray) (w : World) (ha : ka.ok w.heap.size w) (hb : kb.ok w.heap.size w) (hs : s.size ≤ maxLen) :
    Calls Try.prog 5 #[ka.val, kb.val, .string s] w fun e w' => e = .returned (.bool true) ∧ Below w.heap.size w w' := by
  unfold maxLen at hs
  have HKA := Lib.hid (fun (W : World) (h : ka.ok w.heap.size W) (hB : w.heap.size ≤ W.heap.size) => keepset_any ka w.heap.size W h hB)
  have HKB := Lib.hid (fun (W : World) (h : kb.ok w.heap.size W) (hB : w.heap.size ≤ W.heap.size) => keepset_any kb w.heap.size W h hB)
  have HOA := Lib.hid ha; have HOB := Lib.hid hb
  clear ha hb
  unfold KSet.val at *
  go_enter Try.func5, Try.ntmps5
  go_upto_region 1 with fail
  have HZ : Hid (BoxAt w ka kb w.heap.size (w.heap.size + 1) ((w.alloc (.cells #[.slice ka.A ka.n ka.c, .slice ka.A2 ka.n2 ka.c2] 42)).alloc (.cells #[.slice kb.A kb.n kb.c, .slice kb.A2 kb.n2 kb.c2] 42))) := Lib.hid (by
    have hbl : Below w.heap.size w ((w.alloc (.cells #[.slice ka.A ka.n ka.c, .slice ka.A2 ka.n2 ka.c2] 42)).alloc (.cells #[.slice kb.A kb.n kb.c, .slice kb.A2 kb.n2 kb.c2] 42)) := ((Below.refl _ _).alloc (Nat.le_refl _) _).alloc (by simp) _
    have h2 : Blk ((w.alloc (.cells #[.slice ka.A ka.n ka.c, .slice ka.A2 ka.n2 ka.c2] 42)).alloc (.cells #[.slice kb.A kb.n kb.c, .slice kb.A2 kb.n2 kb.c2] 42)) (w.alloc (.cells #[.slice ka.A ka.n ka.c, .slice ka.A2 ka.n2 ka.c2] 42)).heap.size 42 [.slice kb.A kb.n kb.c, .slice kb.A2 kb.n2 kb.c2] := Blk.mk (heap_alloc_new _ _)
    rw [show (w.alloc (.cells #[.slice ka.A ka.n ka.c, .slice ka.A2 ka.n2 ka.c2] 42)).heap.size = w.heap.size + 1 by simp] at h2
    exact ⟨HOA.out.below hbl, HOB.out.below hbl, (Blk.mk (heap_alloc_new w _)).alloc _, h2, hbl⟩)
  obtain ⟨W, hW⟩ : ∃ W, (w.alloc (.cells #[.slice ka.A ka.n ka.c, .slice ka.A2 ka.n2 ka.c2] 42)).alloc (.cells #[.slice kb.A kb.n kb.c, .slice kb.A2 kb.n2 kb.c2] 42) = W := ⟨_, rfl⟩
  rw [hW] at HZ
  try rw [hW]
  clear hW HOA HOB
  obtain ⟨ba, hba⟩ : ∃ ba, w.heap.size = ba := ⟨_, rfl⟩
  obtain ⟨bb, hbb⟩ : ∃ bb, w.heap.size + 1 = bb := ⟨_, rfl⟩
  rw [hbb, hba] at HZ
  rw [show (⟨w.heap.size + 1, 0, none⟩ : Addr) = ⟨bb, 0, none⟩ by rw [hbb], show (⟨w.heap.size, 0, none⟩ : Addr) = ⟨ba, 0, none⟩ by rw [hba]]
  clear hba hbb
  go_cut [7, 8] (fun x7 x8 wx => TwoL w (setF ka) (setF kb) x7 x8 wx)
  case first =>
    have Z := Lib.hid HZ.out.drew
    clear HZ
    have tokA : True := trivial
    have tokB : True := trivial
    go_region_held3 (fun V => V.cell? ⟨ba, 0, none⟩ = some (.slice ka.A ka.n ka.c) ∧ V.cell? ⟨ba, 1, none⟩ = some (.slice ka.A2 ka.n2 ka.c2) ∧ V.cell? ⟨bb, 0, none⟩ = some (.slice kb.A kb.n kb.c) ∧ V.cell? ⟨bb, 1, none⟩ = some (.slice kb.A2 kb.n2 kb.c2)) (exact Z.out.cells) (first
      | (have tk := tokA; (with_reducible refine (HKA.out _ Z.out.okA Z.out.bel.size).mono ?_); rintro e wa haa; obtain ⟨va, rfl, hva, hba⟩ := haa.hasL; have HVA := Lib.hid hva; (first | (have HVB := Lib.hid (HVB.out.below hba)) | skip); have Z := Lib.hid (Z.out.below hba); clear tokA tk haa hva hba)
      | (have tk := tokB; (with_reducible refine (HKB.out _ Z.out.okB Z.out.bel.size).mono ?_); rintro e wb hbb; obtain ⟨vb, rfl, hvb, hbb2⟩ := hbb.hasL; have HVB := Lib.hid hvb; (first | (have HVA := Lib.hid (HVA.out.below hbb2)) | skip); have Z := Lib.hid (Z.out.below hbb2); clear tokB tk hbb hvb hbb2)
      | fail)
    all_goals
      go_wp2_with fail
      go_meet
      exact ⟨HVA.out, HVB.out, Z.out.bel⟩
  case rest =>
    have HT := Lib.hid hcut
    clear hcut HZ HKA HKB
    have HRA := Lib.hid (setF_right ka); have HRB := Lib.hid (setF_right kb)
    generalize setF ka = la at *
    generalize setF kb = lb at *
    obtain ⟨A, cA, rfl⟩ := HT.out.a.form
    obtain ⟨A', cB, rfl⟩ := HT.out.b.form
    have hla := rightS_len HRA.out
    have hlb := rightS_len HRB.out
    have HPA := Lib.hid (fun W (h : TwoL w la lb (.slice A la.length cA) (.slice A' lb.length cB) W) => print_any A la.length cA la _ W h.a.slice.1 (Nat.le_refl _) (by omega))
    have HPB := Lib.hid (fun W (h : TwoL w la lb (.slice A la.length cA) (.slice A' lb.length cB) W) => print_any A' lb.length cB lb _ W h.b.slice.1 (Nat.le_refl _) (by omega))
    go_wp2_with fail
    refine (HPA.out _ HT.out).mono ?_; rintro e w1 ⟨rfl, hb⟩
    have HT1 := Lib.hid (HT.out.below hb); clear hb HT
    go_wp2_with fail
    refine (HPB.out _ HT1.out).mono ?_; rintro e w2 ⟨rfl, hb⟩
    have HT2 := Lib.hid (HT1.out.below hb); clear hb HT1
    have HPP := Lib.hid (fun W => parse_any ⟨(printL la).toArray⟩ W (by have := printL_length_le HRA.out; show (printL la).toArray.size ≤ _; simp; omega))
    rw [show (⟨(printL la).toArray⟩ : ByteArray).data.toList = printL la from rfl, parseF_print HRA.out] at HPP
    go_wp2_with fail
    refine (HPP.out _).mono ?_; rintro e w3 ⟨hb, Az, cz, rfl, hown, hz1, hz2⟩
    have HT3 := Lib.hid (HT2.out.below hb)
    have HZ3 := Lib.hid (Sees.of_own hown)
    clear hb hown HT2 HPP
    have HSZ := Lib.hid (same_lbl Az A la.length cz la.length cA _ _ la la w3 HZ3.out HT3.out.a.slice.1 (by omega) (by omega))
    rw [decide_eq_true (show la = la from rfl)] at HSZ
    have HSAB := Lib.hid (fun W (h : TwoL w la lb (.slice A la.length cA) (.slice A' lb.length cB) W) => same_lbl A A' la.length cA lb.length cB _ _ la lb W h.a.slice.1 h.b.slice.1 (by omega) (by omega))
    go_wp2_with fail
    refine HSZ.out.mono ?_; rintro e w4 ⟨rfl, m4, rfl⟩
    have HT4 := Lib.hid (HT3.out.drewN m4)
    generalize w3.drewN m4 = w4 at *
    clear HSZ HZ3 HT3
    have HEQ := Lib.hid (show (printL la == printL lb) = decide (la = lb) by
      by_cases h : la = lb
      · subst h; simp
      · rw [decide_eq_false h, beq_eq_false_iff_ne]; exact fun e => h (print_inj HRA.out HRB.out e))
    have HCAB := Lib.hid (fun W (h : TwoL w la lb (.slice A la.length cA) (.slice A' lb.length cB) W) => compare_any A A' la.length cA lb.length cB _ la lb W h.a.slice.1 h.b.slice.1 (Nat.le_refl _) (by omega) (by omega))
    have HCAA := Lib.hid (fun W (h : TwoL w la lb (.slice A la.length cA) (.slice A' lb.length cB) W) => compare_any A A la.length cA la.length cA _ la la W h.a.slice.1 h.a.slice.1 (Nat.le_refl _) (by omega) (by omega))
    rw [cmp_refl] at HCAA
    have HQ := Lib.hid (show (decide (la = lb) = true → la = lb) ∧ (decide (la = lb) = false → ¬ la = lb) from ⟨of_decide_eq_true, of_decide_eq_false⟩)
    generalize decide (la = lb) = q at *
    cases q with
    | true =>
      have hab := HQ.out.1 rfl
      have HC : Hid (Lib.compareBytes (printL la) (printL lb) = 0) := Lib.hid ((congrArg (fun z => Lib.compareBytes (printL la) (printL z)) hab.symm).trans (cmp_refl (printL la)))
      have t1 : (printL la == printL lb) = true := HEQ.out
      have t2 : Op.bytesLess (printL la) (printL lb) = false := (congrArg (fun z => Op.bytesLess (printL la) (printL z)) hab.symm).trans (less_irrefl (printL la))
      have t3 : Op.bytesLess (printL lb) (printL la) = false := (congrArg (fun z => Op.bytesLess (printL z) (printL la)) hab.symm).trans (less_irrefl (printL la))
      clear hab
      rw [HC.out] at HCAB
      go_wp2_with fail
      refine (HSAB.out _ HT4.out).mono ?_; rintro e w5 ⟨rfl, m5, rfl⟩
      have HT5 := Lib.hid (HT4.out.drewN m5)
      generalize w4.drewN m5 = w5 at *
      clear HT4
      obtain ⟨t, ht⟩ : ∃ t : ByteArray, s.extract 0 (min (s.size : Int) 80).toNat = t := ⟨_, rfl⟩
      have hts : t.size ≤ 9223372036854775807 := by rw [← ht, ByteArray.size_extract]; omega
      have HPT := Lib.hid (fun W => parse_any t W hts)
      have htl : t.toList = t.data.toList := ByteArray.toList_eq t
      cases hpf : parseF t.data.toList with
      | none =>
        rw [hpf] at HPT
        have n1 : ([123, 125] == t.toList) = false := by
          rw [htl, beq_eq_false_iff_ne]
          intro e
          rw [← e, parseNil] at hpf
          cases hpf
        have n2 : (!([123, 125] == t.toList)) = true := by rw [n1]; rfl
        clear hpf htl
        go_wp2_with fail
        try rw [ht]
        refine (HPT.out _).mono ?_; rintro e w6 ⟨hb, he⟩
        simp only at he
        subst he
        have HT6 := Lib.hid (HT5.out.below hb)
        clear hb HPT HT5
        go_wp2_with fail
        refine (HCAB.out _ HT6.out).mono ?_; rintro e w7 ⟨rfl, hb⟩
        have HT7 := Lib.hid (HT6.out.below hb)
        clear hb HT6
        go_wp2_with fail
        refine (HCAA.out _ HT7.out).mono ?_; rintro e w8 ⟨rfl, hb⟩
        have HT8 := Lib.hid (HT7.out.below hb)
        clear hb HT7
        go_wp2_with fail
        refine (print_any none 0 0 [] w8.heap.size w8 Sees.nil (Nat.le_refl _) (by omega)).mono ?_; rintro e w9 ⟨rfl, hb⟩
        rw [printNil]
        have HTL := Lib.hid (HT8.out.below hb)
        clear hb HT8
        go_wp2_with fail
        refine (lset_runs _).mono ?_; rintro e w10 ⟨rfl, hbr⟩
        have HTM := Lib.hid (HTL.out.below hbr)
        clear hbr
        go_wp2_with fail
        go_ret
        exact ⟨rfl, HTM.out.bel⟩
      | some lt =>
        rw [hpf] at HPT
        obtain ⟨hrt, hpt⟩ := parseF_some hpf
        have hlt := rightS_len hrt
        have n1 : (printL lt == t.toList) = true := by rw [htl, hpt]; simp
        have hne : t.toList ≠ [] := by
          rw [htl, ← hpt, printL, if_pos hrt]
          intro e; cases e
        have n2 : t.toList.isEmpty = false := by cases hq : t.toList with | nil => exact absurd hq hne | cons => rfl
        have n3 : (!t.toList.isEmpty) = true := by rw [n2]; rfl
        clear hpf hpt hrt htl hne
        go_wp2_with fail
        try rw [ht]
        refine (HPT.out _).mono ?_; rintro e w6 ⟨hb, At, ct, rfl, hownt, ht1, ht2⟩
        have HT6 := Lib.hid (HT5.out.below hb)
        have HL6 : Hid (HasL w6 (.slice At lt.length ct) lt) := Lib.hid ⟨At, ct, rfl, Sees.of_own hownt, ht1, ht2⟩
        clear hb HPT HT5 hownt
        go_wp2_with fail
        refine (HCAB.out _ HT6.out).mono ?_; rintro e w7 ⟨rfl, hb⟩
        have HT7 := Lib.hid (HT6.out.below hb)
        have HL7 := Lib.hid (HL6.out.below hb)
        clear hb HT6 HL6
        go_wp2_with fail
        refine (HCAA.out _ HT7.out).mono ?_; rintro e w8 ⟨rfl, hb⟩
        have HT8 := Lib.hid (HT7.out.below hb)
        have HL8 := Lib.hid (HL7.out.below hb)
        clear hb HT7 HL7
        go_wp2_with fail
        refine (print_any At lt.length ct lt w8.heap.size w8 HL8.out.slice.1 (Nat.le_refl _) (by omega)).mono ?_; rintro e w9 ⟨rfl, hb⟩
        have HTL := Lib.hid (HT8.out.below hb)
        clear hb HT8 HL8
        go_wp2_with fail
        refine (lset_runs _).mono ?_; rintro e w10 ⟨rfl, hbr⟩
        have HTM := Lib.hid (HTL.out.below hbr)
        clear hbr
        go_wp2_with fail
        go_ret
        exact ⟨rfl, HTM.out.bel⟩
    | false =>
      have hab := HQ.out.2 rfl
      have hne : printL la ≠ printL lb := fun e => hab (print_inj HRA.out HRB.out e)
      have t1 : (printL la == printL lb) = false := HEQ.out
      cases t2 : Op.bytesLess (printL la) (printL lb) with
      | true =>
        have HC : Hid (Lib.compareBytes (printL la) (printL lb) = -1) := Lib.hid (by rw [cmp_less, t2]; rfl)
        clear hab hne
        rw [HC.out] at HCAB
        go_wp2_with fail
        refine (HSAB.out _ HT4.out).mono ?_; rintro e w5 ⟨rfl, m5, rfl⟩
        have HT5 := Lib.hid (HT4.out.drewN m5)
        generalize w4.drewN m5 = w5 at *
        clear HT4
        obtain ⟨t, ht⟩ : ∃ t : ByteArray, s.extract 0 (min (s.size : Int) 80).toNat = t := ⟨_, rfl⟩
        have hts : t.size ≤ 9223372036854775807 := by rw [← ht, ByteArray.size_extract]; omega
        have HPT := Lib.hid (fun W => parse_any t W hts)
        have htl : t.toList = t.data.toList := ByteArray.toList_eq t
        cases hpf : parseF t.data.toList with
        | none =>
          rw [hpf] at HPT
          have n1 : ([123, 125] == t.toList) = false := by
            rw [htl, beq_eq_false_iff_ne]
            intro e
            rw [← e, parseNil] at hpf
            cases hpf
          have n2 : (!([123, 125] == t.toList)) = true := by rw [n1]; rfl
          clear hpf htl
          go_wp2_with fail
          try rw [ht]
          refine (HPT.out _).mono ?_; rintro e w6 ⟨hb, he⟩
          simp only at he
          subst he
          have HT6 := Lib.hid (HT5.out.below hb)
          clear hb HPT HT5
          go_wp2_with fail
          refine (HCAB.out _ HT6.out).mono ?_; rintro e w7 ⟨rfl, hb⟩
          have HT7 := Lib.hid (HT6.out.below hb)
          clear hb HT6
          go_wp2_with fail
          refine (HCAA.out _ HT7.out).mono ?_; rintro e w8 ⟨rfl, hb⟩
          have HT8 := Lib.hid (HT7.out.below hb)
          clear hb HT7
          go_wp2_with fail
          refine (print_any none 0 0 [] w8.heap.size w8 Sees.nil (Nat.le_refl _) (by omega)).mono ?_; rintro e w9 ⟨rfl, hb⟩
          rw [printNil]
          have HTL := Lib.hid (HT8.out.below hb)
          clear hb HT8
          go_wp2_with fail
          refine (lset_runs _).mono ?_; rintro e w10 ⟨rfl, hbr⟩
          have HTM := Lib.hid (HTL.out.below hbr)
          clear hbr
          go_wp2_with fail
          go_ret
          exact ⟨rfl, HTM.out.bel⟩
        | some lt =>
          rw [hpf] at HPT
          obtain ⟨hrt, hpt⟩ := parseF_some hpf
          have hlt := rightS_len hrt
          have n1 : (printL lt == t.toList) = true := by rw [htl, hpt]; simp
          have hne : t.toList ≠ [] := by
            rw [htl, ← hpt, printL, if_pos hrt]
            intro e; cases e
          have n2 : t.toList.isEmpty = false := by cases hq : t.toList with | nil => exact absurd hq hne | cons => rfl
          have n3 : (!t.toList.isEmpty) = true := by rw [n2]; rfl
          clear hpf hpt hrt htl hne
          go_wp2_with fail
          try rw [ht]
          refine (HPT.out _).mono ?_; rintro e w6 ⟨hb, At, ct, rfl, hownt, ht1, ht2⟩
          have HT6 := Lib.hid (HT5.out.below hb)
          have HL6 : Hid (HasL w6 (.slice At lt.length ct) lt) := Lib.hid ⟨At, ct, rfl, Sees.of_own hownt, ht1, ht2⟩
          clear hb HPT HT5 hownt
          go_wp2_with fail
          refine (HCAB.out _ HT6.out).mono ?_; rintro e w7 ⟨rfl, hb⟩
          have HT7 := Lib.hid (HT6.out.below hb)
          have HL7 := Lib.hid (HL6.out.below hb)
          clear hb HT6 HL6
          go_wp2_with fail
          refine (HCAA.out _ HT7.out).mono ?_; rintro e w8 ⟨rfl, hb⟩
          have HT8 := Lib.hid (HT7.out.below hb)
          have HL8 := Lib.hid (HL7.out.below hb)
          clear hb HT7 HL7
          go_wp2_with fail
          refine (print_any At lt.length ct lt w8.heap.size w8 HL8.out.slice.1 (Nat.le_refl _) (by omega)).mono ?_; rintro e w9 ⟨rfl, hb⟩
          have HTL := Lib.hid (HT8.out.below hb)
          clear hb HT8 HL8
          go_wp2_with fail
          refine (lset_runs _).mono ?_; rintro e w10 ⟨rfl, hbr⟩
          have HTM := Lib.hid (HTL.out.below hbr)
          clear hbr
          go_wp2_with fail
          go_ret
          exact ⟨rfl, HTM.out.bel⟩
      | false =>
        have t3 : Op.bytesLess (printL lb) (printL la) = true := by
          rcases cmp_ne hne with h | h
          · rw [t2] at h; cases h
          · exact h
        have HC : Hid (Lib.compareBytes (printL la) (printL lb) = 1) := Lib.hid (by rw [cmp_less, t2, t3]; rfl)
        clear hab hne
        rw [HC.out] at HCAB
        go_wp2_with fail
        refine (HSAB.out _ HT4.out).mono ?_; rintro e w5 ⟨rfl, m5, rfl⟩
        have HT5 := Lib.hid (HT4.out.drewN m5)
        generalize w4.drewN m5 = w5 at *
        clear HT4
        obtain ⟨t, ht⟩ : ∃ t : ByteArray, s.extract 0 (min (s.size : Int) 80).toNat = t := ⟨_, rfl⟩
        have hts : t.size ≤ 9223372036854775807 := by rw [← ht, ByteArray.size_extract]; omega
        have HPT := Lib.hid (fun W => parse_any t W hts)
        have htl : t.toList = t.data.toList := ByteArray.toList_eq t
        cases hpf : parseF t.data.toList with
        | none =>
          rw [hpf] at HPT
          have n1 : ([123, 125] == t.toList) = false := by
            rw [htl, beq_eq_false_iff_ne]
            intro e
            rw [← e, parseNil] at hpf
            cases hpf
          have n2 : (!([123, 125] == t.toList)) = true := by rw [n1]; rfl
          clear hpf htl
          go_wp2_with fail
          try rw [ht]
          refine (HPT.out _).mono ?_; rintro e w6 ⟨hb, he⟩
          simp only at he
          subst he
          have HT6 := Lib.hid (HT5.out.below hb)
          clear hb HPT HT5
          go_wp2_with fail
          refine (HCAB.out _ HT6.out).mono ?_; rintro e w7 ⟨rfl, hb⟩
          have HT7 := Lib.hid (HT6.out.below hb)
          clear hb HT6
          go_wp2_with fail
          refine (HCAA.out _ HT7.out).mono ?_; rintro e w8 ⟨rfl, hb⟩
          have HT8 := Lib.hid (HT7.out.below hb)
          clear hb HT7
          go_wp2_with fail
          refine (print_any none 0 0 [] w8.heap.size w8 Sees.nil (Nat.le_refl _) (by omega)).mono ?_; rintro e w9 ⟨rfl, hb⟩
          rw [printNil]
          have HTL := Lib.hid (HT8.out.below hb)
          clear hb HT8
          go_wp2_with fail
          refine (lset_runs _).mono ?_; rintro e w10 ⟨rfl, hbr⟩
          have HTM := Lib.hid (HTL.out.below hbr)
          clear hbr
          go_wp2_with fail
          go_ret
          exact ⟨rfl, HTM.out.bel⟩
        | some lt =>
          rw [hpf] at HPT
          obtain ⟨hrt, hpt⟩ := parseF_some hpf
          have hlt := rightS_len hrt
          have n1 : (printL lt == t.toList) = true := by rw [htl, hpt]; simp
          have hne : t.toList ≠ [] := by
            rw [htl, ← hpt, printL, if_pos hrt]
            intro e; cases e
          have n2 : t.toList.isEmpty = false := by cases hq : t.toList with | nil => exact absurd hq hne | cons => rfl
          have n3 : (!t.toList.isEmpty) = true := by rw [n2]; rfl
          clear hpf hpt hrt htl hne
          go_wp2_with fail
          try rw [ht]
          refine (HPT.out _).mono ?_; rintro e w6 ⟨hb, At, ct, rfl, hownt, ht1, ht2⟩
          have HT6 := Lib.hid (HT5.out.below hb)
          have HL6 : Hid (HasL w6 (.slice At lt.length ct) lt) := Lib.hid ⟨At, ct, rfl, Sees.of_own hownt, ht1, ht2⟩
          clear hb HPT HT5 hownt
          go_wp2_with fail
          refine (HCAB.out _ HT6.out).mono ?_; rintro e w7 ⟨rfl, hb⟩
          have HT7 := Lib.hid (HT6.out.below hb)
          have HL7 := Lib.hid (HL6.out.below hb)
          clear hb HT6 HL6
          go_wp2_with fail
          refine (HCAA.out _ HT7.out).mono ?_; rintro e w8 ⟨rfl, hb⟩
          have HT8 := Lib.hid (HT7.out.below hb)
          have HL8 := Lib.hid (HL7.out.below hb)
          clear hb HT7 HL7
          go_wp2_with fail
          refine (print_any At lt.length ct lt w8.heap.size w8 HL8.out.slice.1 (Nat.le_refl _) (by omega)).mono ?_; rintro e w9 ⟨rfl, hb⟩
          have HTL := Lib.hid (HT8.out.below hb)
          clear hb HT8 HL8
          go_wp2_with fail
          refine (lset_runs _).mono ?_; rintro e w10 ⟨rfl, hbr⟩
          have HTM := Lib.hid (HTL.out.below hbr)
          clear hbr
          go_wp2_with fail
          go_ret
          exact ⟨rfl, HTM.out.bel⟩
end Go.Proofs.Ytkebmdcljeaacaa
