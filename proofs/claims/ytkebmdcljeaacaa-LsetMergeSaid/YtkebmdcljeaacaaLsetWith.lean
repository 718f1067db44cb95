/- The walk of LsetWith. -/
import Derived.Test.YtkebmdcljeaacaaHolds
namespace Go.Proofs.Ytkebmdcljeaacaa
open Go.ChangeShapes Go.WideShapes Go.ChangeAt Go.RowKit
set_option linter.unusedVariables false
set_option maxRecDepth 100000
/-- Lists that stay, and a block of names. -/
structure NmAt (w0 : World) (S : List (Value × List Lbl)) (bn : Nat) (w : World) : Prop where
  h : Holds w0 S w
  nm : Blk w bn 9 (strs keepNames)
section
variable {w0 w w' : World} {S : List (Value × List Lbl)} {bn : Nat}
theorem NmAt.below (h : NmAt w0 S bn w) (hb : Below w.heap.size w w') : NmAt w0 S bn w' := ⟨h.h.below hb, h.nm.below hb h.nm.lt⟩
theorem NmAt.drewN (h : NmAt w0 S bn w) (n : Nat) : NmAt w0 S bn (w.drewN n) := ⟨h.h.drewN n, h.nm.drewN n⟩
theorem NmAt.alloc (h : NmAt w0 S bn w) (o : Obj) : NmAt w0 S bn (w.alloc o) := ⟨h.h.alloc o, h.nm.alloc o⟩
theorem NmAt.add (h : NmAt w0 S bn w) {v : Value} {l : List Lbl} (hv : HasL w v l) : NmAt w0 ((v, l) :: S) bn w := ⟨h.h.add hv, h.nm⟩
theorem NmAt.get (h : NmAt w0 S bn w) {v : Value} {l : List Lbl} (hm : (v, l) ∈ S) : HasL w v l := h.h.get hm
theorem NmAt.bel (h : NmAt w0 S bn w) : Below w0.heap.size w0 w := h.h.2
end
theorem keepValue_ne {q : Nat} (h : q < 8) : (keepValues.getD q ⟨#[]⟩).toList ≠ [] := by
  have h1 := (keepValue_ok h).1
  intro e
  have h2 : (keepValues.getD q ⟨#[]⟩).size = 0 := by
    rw [ByteArray.toList_eq] at e
    have := congrArg List.length e
    simpa using this
  omega
theorem keepName_word4 {q : Nat} (h : q < 4) : wordF (keepNames.getD q ⟨#[]⟩) = true := by
  match q, h with
  | 0, _ => decide
  | 1, _ => decide
  | 2, _ => decide
  | 3, _ => decide
theorem keepNames_cell {w : World} {bn : Nat} (h : Blk w bn 9 (strs keepNames)) {q : Nat} (hq : q < 4) : w.cell? ⟨bn, q, none⟩ = some (.string (keepNames.getD q ⟨#[]⟩)) := by
  rw [h.cell q]
  match q, hq with
  | 0, _ => rfl
  | 1, _ => rfl
  | 2, _ => rfl
  | 3, _ => rfl
theorem keepValues_cell {w : World} {bn : Nat} (h : Blk w bn 9 (strs keepValues)) {q : Nat} (hq : q < 8) : w.cell? ⟨bn, q, none⟩ = some (.string (keepValues.getD q ⟨#[]⟩)) := by
  rw [h.cell q]
  match q, hq with
  | 0, _ => rfl
  | 1, _ => rfl
  | 2, _ => rfl
  | 3, _ => rfl
  | 4, _ => rfl
  | 5, _ => rfl
  | 6, _ => rfl
  | 7, _ => rfl
set_option maxHeartbeats 8000000 in
theorem lset_with (ka : KSet) (at_ v_ : Int) (AN : Option Addr) (nn cn : Nat) (ns : List ByteArray) (w : World) (ha : ka.ok w.heap.size w) (wa : I64 at_) (wv : I64 v_) (hN : Sees w w.heap.size 1 AN nn (strs ns)) (hnn : nn ≤ 9223372036854775807) :
    Calls Try.prog 6 #[ka.val, .int .i64 at_, .int .i64 v_, .slice AN nn cn] w fun e w' => e = .returned (.bool true) ∧ Below w.heap.size w w' := by
  have HOK := Lib.hid ha; have HNS := Lib.hid hN
  have WA := Lib.hid wa; have WV := Lib.hid wv
  clear ha hN wa wv
  unfold KSet.val at *
  go_enter Try.func6, Try.ntmps6
  have hb0 : Below w.heap.size w (w.alloc (.cells #[.slice ka.A ka.n ka.c, .slice ka.A2 ka.n2 ka.c2] 42)) := (Below.refl _ _).alloc (Nat.le_refl _) _
  have HK := Lib.hid (fun (W : World) (h : ka.ok w.heap.size W) (hB : w.heap.size ≤ W.heap.size) => keepset_any ka w.heap.size W h hB)
  have HOK1 := Lib.hid (HOK.out.below hb0)
  have HB0 := Lib.hid hb0
  clear hb0 HOK
  go_wp2_with fail
  refine (HK.out _ HOK1.out HB0.out.size).mono ?_; rintro e w1 hl1
  obtain ⟨A, cA, rfl, hl, hb1⟩ := ansL_of hl1
  have HS1 : Hid (Holds w [(.slice A (setF ka).length cA, setF ka)] w1) := Lib.hid ⟨fun p hp => by simp only [List.mem_singleton] at hp; subst hp; exact hl, HB0.out.trans (hb1.mono HB0.out.size)⟩
  have HR := Lib.hid (setF_right ka)
  have HNMS := Lib.hid (setF_names ka)
  have hll := setF_len ka
  clear hl1 hl hb1 HK HOK1 HB0
  generalize setF ka = l at *
  go_wp2_with fail
  (with_reducible refine (names_any _).mono ?_); rintro e w2 ⟨rfl, hw2⟩
  have HS2 : Hid (NmAt w [(.slice A l.length cA, l)] w1.heap.size w2) := Lib.hid (by rw [← hw2]; exact ⟨HS1.out.alloc _, Blk.mk (heap_alloc_new w1 _)⟩)
  clear hw2 HS1
  obtain ⟨bn, hbn⟩ : ∃ bn, w1.heap.size = bn := ⟨_, rfl⟩
  rw [hbn] at HS2
  rw [show (⟨w1.heap.size, 0, none⟩ : Addr) = ⟨bn, 0, none⟩ by rw [hbn]]
  clear hbn
  have HW1 := Lib.hid (within_any at_ 0 3 w2 WA.out (by omega) (by omega) (by omega))
  obtain ⟨ha1, ha2⟩ := nWithin_in at_ (lo := 0) (hi := 3) (by omega)
  generalize nWithin at_ 0 3 = q1 at *
  obtain ⟨q1, rfl⟩ := Int.eq_ofNat_of_zero_le ha1
  have hq1 : q1 < 4 := by omega
  have d0 := keepNames_cell HS2.out.nm hq1
  have HNW := Lib.hid (keepName_word4 hq1)
  generalize keepNames.getD q1 ⟨#[]⟩ = name at *
  clear ha1 ha2 WA
  go_wp2_with fail
  (with_reducible refine HW1.out.mono ?_); rintro e w' ⟨rfl, rfl⟩
  go_wp2_with fail
  clear d0 HW1
  go_wp2_with fail
  (with_reducible refine (values_any _).mono ?_); rintro e w3 ⟨rfl, hw3⟩
  have HV3 : Hid (Blk w3 w2.heap.size 9 (strs keepValues)) := Lib.hid (by rw [← hw3]; exact Blk.mk (heap_alloc_new w2 _))
  have HS3 : Hid (NmAt w [(.slice A l.length cA, l)] bn w3) := Lib.hid (by rw [← hw3]; exact HS2.out.alloc _)
  clear hw3 HS2
  go_wp2_with fail
  (with_reducible refine (values_any _).mono ?_); rintro e w4 ⟨rfl, hw4⟩
  have HV4 : Hid (Blk w4 w2.heap.size 9 (strs keepValues)) := Lib.hid (by rw [← hw4]; exact HV3.out.alloc _)
  have HS4 : Hid (NmAt w [(.slice A l.length cA, l)] bn w4) := Lib.hid (by rw [← hw4]; exact HS3.out.alloc _)
  clear hw4 HS3 HV3
  have HW2 := Lib.hid (within_any v_ 0 7 w4 WV.out (by omega) (by omega) (by omega))
  obtain ⟨ha1, ha2⟩ := nWithin_in v_ (lo := 0) (hi := 7) (by omega)
  generalize nWithin v_ 0 7 = q2 at *
  obtain ⟨q2, rfl⟩ := Int.eq_ofNat_of_zero_le ha1
  have hq2 : q2 < 8 := by omega
  obtain ⟨bv, hbv⟩ : ∃ bv, w2.heap.size = bv := ⟨_, rfl⟩
  rw [hbv] at HV4
  rw [show (⟨w2.heap.size, 0, none⟩ : Addr) = ⟨bv, 0, none⟩ by rw [hbv]]
  clear hbv
  have d0 := keepValues_cell HV4.out hq2
  have HVN := Lib.hid (keepValue_ne hq2)
  have HVO := Lib.hid (keepValue_ok hq2)
  generalize keepValues.getD q2 ⟨#[]⟩ = value at *
  clear ha1 ha2 WV
  go_wp2_with fail
  (with_reducible refine HW2.out.mono ?_); rintro e w' ⟨rfl, rfl⟩
  have HKN : Hid (∀ y ∈ keptL l name, y.1 ≠ name) := Lib.hid (fun y hy => (keptL_mem hy).2)
  have HX := Lib.hid (show withL l name value = putL (keptL l name) (name, value) by rw [withL, if_neg HVN.out])
  have HY := Lib.hid (show withL l name ⟨#[]⟩ = keptL l name by rw [withL, if_pos (ba_list [])])
  have HRK : Hid (rightS (keptL l name) = true) := Lib.hid (right_filter HR.out _)
  have hkl : (keptL l name).length ≤ 3 := Nat.le_trans (List.length_filter_le _ _) hll
  have HRX : Hid (rightS (putL (keptL l name) (name, value)) = true) := Lib.hid (putL_right HRK.out (by
    unfold lblOk; rw [HNW.out, decide_eq_true HVO.out.1, decide_eq_true HVO.out.2]; rfl) HKN.out (by omega))
  have HGX : Hid (getF (putL (keptL l name) (name, value)) name = value) := Lib.hid (getF_put HKN.out)
  have HGK : Hid (getF (keptL l name) name = ⟨#[]⟩) := Lib.hid (getF_none HKN.out)
  have HGO : Hid (∀ n, n ≠ name → getF (putL (keptL l name) (name, value)) n = getF l n ∧ getF (keptL l name) n = getF l n) := Lib.hid (fun n hn => ⟨(getF_put_other (x := (name, value)) hn).trans (getF_kept hn), getF_kept hn⟩)
  have HKX : Hid ((putL (keptL l name) (name, value)).filter (fun x => !hasS [name] x.1) = keptL l name) := Lib.hid (putL_kept (x := (name, value)) HKN.out)
  have HKL : Hid (l.filter (fun x => !hasS [name] x.1) = keptL l name) := Lib.hid rfl
  have hxl : (putL (keptL l name) (name, value)).length ≤ 4 := by rw [putL_length]; omega
  generalize putL (keptL l name) (name, value) = X at *
  generalize keptL l name = K at *
  clear HKN HVN HVO HNW HV4 HW2
  go_wp2_with fail
  clear d0
  (with_reducible refine (with_h (HS4.out.get (v := .slice A l.length cA) (l := l) (by simp)) (by omega) name value).mono ?_); rintro e w5 hans
  rw [HX.out] at hans
  obtain ⟨Ax, cx, rfl, hl5, hb⟩ := hans
  have HS5 := Lib.hid ((HS4.out.below hb).add hl5)
  clear hl5 hb HS4 HX
  go_wp2_with fail
  (with_reducible refine (with_h (HS5.out.get (v := .slice A l.length cA) (l := l) (by simp)) (by omega) name ⟨#[]⟩).mono ?_); rintro e w6 hans
  rw [HY.out] at hans
  obtain ⟨Ay, cy, rfl, hl6, hb⟩ := hans
  have HS6 := Lib.hid ((HS5.out.below hb).add hl6)
  clear hl6 hb HS5 HY
  have hx6 : (X.length : Int) ≤ 6 := by omega
  go_wp2_with fail
  (with_reducible refine (right_h (HS6.out.get (v := .slice Ax X.length cx) (l := X) (by simp)) (by omega)).mono ?_); rintro e w7 ⟨rfl, hb⟩
  rw [HRX.out]
  have HS7 := Lib.hid (HS6.out.below hb)
  clear hb HS6
  go_wp2_with fail
  (with_reducible refine (right_h (HS7.out.get (v := .slice Ay K.length cy) (l := K) (by simp)) (by omega)).mono ?_); rintro e w8 ⟨rfl, hb⟩
  rw [HRK.out]
  have HS8 := Lib.hid (HS7.out.below hb)
  clear hb HS7
  go_wp2_with fail
  (with_reducible refine (get_h (HS8.out.get (v := .slice Ax X.length cx) (l := X) (by simp)) (by omega) name).mono ?_); rintro e w9 ⟨rfl, hb⟩
  rw [HGX.out]
  have HS9 := Lib.hid (HS8.out.below hb)
  clear hb HS8
  go_wp2_with fail
  (with_reducible refine (get_h (HS9.out.get (v := .slice Ay K.length cy) (l := K) (by simp)) (by omega) name).mono ?_); rintro e w10 ⟨rfl, hb⟩
  rw [HGK.out]
  have HS10 := Lib.hid (HS9.out.below hb)
  clear hb HS9
  go_wp2_with fail
  go_loopg [73] 4 (fun g x73 wr => ∃ i : Nat, i + g = 4 ∧ x73 = .int .i64 i ∧ NmAt w [(.slice Ay K.length cy, K), (.slice Ax X.length cx, X), (.slice A l.length cA, l)] bn wr)
  case atStart => exact ⟨0, rfl, rfl, HS10.out⟩
  case round =>
    obtain ⟨i, hig, rfl, hnm⟩ := hrel
    have HSR := Lib.hid hnm
    clear hnm HS10
    cases gk with
    | succ g =>
      have hi4 : i < 4 := by omega
      have d0 := keepNames_cell HSR.out.nm hi4
      generalize keepNames.getD i ⟨#[]⟩ = nm at *
      by_cases he : nm = name
      · have t1 : (nm.toList == name.toList) = true := by rw [he]; simp
        clear he
        go_wp2_with fail
        go_roundg g
        case measure => omega
        case rel => exact ⟨i + 1, by omega, by go_num, HSR.out⟩
      · have t1 : (nm.toList == name.toList) = false := by rw [beq_eq_false_iff_ne]; exact fun h => he (ba_ext h)
        obtain ⟨h1, h2⟩ := HGO.out nm he
        have HG1 := Lib.hid h1; have HG2 := Lib.hid h2
        clear h1 h2 he
        go_wp2_with fail
        (with_reducible refine (get_h (HSR.out.get (v := .slice Ax X.length cx) (l := X) (by simp)) (by omega) nm).mono ?_); rintro e w11 ⟨rfl, hb⟩
        rw [HG1.out]
        have HT1 := Lib.hid (HSR.out.below hb)
        clear hb HSR d0
        go_wp2_with fail
        (with_reducible refine (get_h (HT1.out.get (v := .slice A l.length cA) (l := l) (by simp)) (by omega) nm).mono ?_); rintro e w12 ⟨rfl, hb⟩
        have HT2 := Lib.hid (HT1.out.below hb)
        clear hb HT1
        go_wp2_with fail
        (with_reducible refine (get_h (HT2.out.get (v := .slice Ay K.length cy) (l := K) (by simp)) (by omega) nm).mono ?_); rintro e w13 ⟨rfl, hb⟩
        rw [HG2.out]
        have HT3 := Lib.hid (HT2.out.below hb)
        clear hb HT2
        go_wp2_with fail
        (with_reducible refine (get_h (HT3.out.get (v := .slice A l.length cA) (l := l) (by simp)) (by omega) nm).mono ?_); rintro e w14 ⟨rfl, hb⟩
        have HT4 := Lib.hid (HT3.out.below hb)
        clear hb HT3
        go_wp2_with fail
        go_roundg g
        case measure => omega
        case rel => exact ⟨i + 1, by omega, by go_num, HT4.out⟩
    | zero =>
      obtain rfl : i = 4 := by omega
      have HRP : Hid (rightS (l.filter fun x => hasS ns x.1) = true) := Lib.hid (right_filter HR.out _)
      have HRQ : Hid (rightS (l.filter fun x => !hasS ns x.1) = true) := Lib.hid (right_filter HR.out _)
      have HLN := Lib.hid (filter_parts l (fun x => hasS ns x.1))
      have HQ0 := Lib.hid (filter_none l (fun x => hasS ns x.1))
      have HP2 := Lib.hid (filter_twice l (fun x => hasS ns x.1))
      have hpl : (l.filter fun x => hasS ns x.1).length ≤ 3 := Nat.le_trans (List.length_filter_le _ _) hll
      have hql : (l.filter fun x => !hasS ns x.1).length ≤ 3 := Nat.le_trans (List.length_filter_le _ _) hll
      go_wp2_with fail
      (with_reducible refine (keep_h (HSR.out.get (v := .slice A l.length cA) (l := l) (by simp)) (by omega) (HNS.out.below HSR.out.bel) HSR.out.bel.size hnn).mono ?_); rintro e w11 ⟨Ap, cp, rfl, hl1, hb⟩
      have HT1 := Lib.hid ((HSR.out.below hb).add hl1)
      clear hl1 hb HSR
      go_wp2_with fail
      (with_reducible refine (drop_h (HT1.out.get (v := .slice A l.length cA) (l := l) (by simp)) (by omega) (HNS.out.below HT1.out.bel) HT1.out.bel.size hnn).mono ?_); rintro e w12 ⟨Aq, cq, rfl, hl1, hb⟩
      have HT2 := Lib.hid ((HT1.out.below hb).add hl1)
      clear hl1 hb HT1
      obtain ⟨P, hP⟩ : ∃ P, l.filter (fun x => hasS ns x.1) = P := ⟨_, rfl⟩
      obtain ⟨Q, hQ⟩ : ∃ Q, l.filter (fun x => !hasS ns x.1) = Q := ⟨_, rfl⟩
      rw [hP, hQ] at HT2 HLN
      rw [hP] at HRP HP2 hpl
      rw [hQ] at HRQ HQ0 hql
      rw [hP, hQ]
      have HPE := Lib.hid hP; have HQE := Lib.hid hQ
      clear hP hQ
      have t5 : ((P.length : Int) + Q.length == l.length) = true := by rw [beq_iff_eq]; have := HLN.out; omega
      go_wp2_with fail
      (with_reducible refine (drop_h ((HT2.out.alloc _).get (v := .slice Ax X.length cx) (l := X) (by simp)) (by omega) (one_name _ _) (Nat.le_refl _) (by omega)).mono ?_); rintro e w13 hans
      rw [HKX.out] at hans
      obtain ⟨A3, c3, rfl, hl1, hb⟩ := hans
      have HT3 := Lib.hid (((HT2.out.alloc (.cells #[.string name] 9)).below hb).add hl1)
      clear hl1 hb HT2
      go_wp2_with fail
      (with_reducible refine (drop_h ((HT3.out.alloc _).get (v := .slice A l.length cA) (l := l) (by simp)) (by omega) (one_name _ _) (Nat.le_refl _) (by omega)).mono ?_); rintro e w14 hans
      rw [HKL.out] at hans
      obtain ⟨A4, c4, rfl, hl1, hb⟩ := hans
      have HT4 := Lib.hid (((HT3.out.alloc (.cells #[.string name] 9)).below hb).add hl1)
      clear hl1 hb HT3
      go_wp2_with fail
      (with_reducible refine (same_h (HT4.out.get (v := .slice A3 K.length c3) (l := K) (by simp)) (HT4.out.get (v := .slice A4 K.length c4) (l := K) (by simp)) (by omega) (by omega)).mono ?_); rintro e w15 ⟨rfl, m1, rfl⟩
      rw [decide_eq_true (show K = K from rfl)]
      have HT5 := Lib.hid (HT4.out.drewN m1)
      clear HT4
      generalize w14.drewN m1 = w15 at *
      go_wp2_with fail
      (with_reducible refine (drop_h ((HT5.out.alloc _).get (v := .slice A l.length cA) (l := l) (by simp)) (by omega) (one_name _ _) (Nat.le_refl _) (by omega)).mono ?_); rintro e w16 hans
      rw [HKL.out] at hans
      obtain ⟨A5, c5, rfl, hl1, hb⟩ := hans
      have HT6 := Lib.hid (((HT5.out.alloc (.cells #[.string name] 9)).below hb).add hl1)
      clear hl1 hb HT5
      go_wp2_with fail
      (with_reducible refine (same_h (HT6.out.get (v := .slice Ay K.length cy) (l := K) (by simp)) (HT6.out.get (v := .slice A5 K.length c5) (l := K) (by simp)) (by omega) (by omega)).mono ?_); rintro e w17 ⟨rfl, m2, rfl⟩
      rw [decide_eq_true (show K = K from rfl)]
      have HT7 := Lib.hid (HT6.out.drewN m2)
      clear HT6
      generalize w16.drewN m2 = w17 at *
      go_wp2_with fail
      (with_reducible refine (keep_h (HT7.out.get (v := .slice Aq Q.length cq) (l := Q) (by simp)) (by omega) (HNS.out.below HT7.out.bel) HT7.out.bel.size hnn).mono ?_); rintro e w18 hans
      rw [HQ0.out] at hans
      obtain ⟨A6, c6, rfl, hl1, hb⟩ := hans
      have HT8 := Lib.hid (HT7.out.below hb)
      clear hl1 hb HT7
      go_wp2_with fail
      (with_reducible refine (keep_h (HT8.out.get (v := .slice Ap P.length cp) (l := P) (by simp)) (by omega) (HNS.out.below HT8.out.bel) HT8.out.bel.size hnn).mono ?_); rintro e w19 hans
      rw [HP2.out] at hans
      obtain ⟨A7, c7, rfl, hl1, hb⟩ := hans
      have HT9 := Lib.hid ((HT8.out.below hb).add hl1)
      clear hl1 hb HT8
      go_wp2_with fail
      (with_reducible refine (same_h (HT9.out.get (v := .slice A7 P.length c7) (l := P) (by simp)) (HT9.out.get (v := .slice Ap P.length cp) (l := P) (by simp)) (by omega) (by omega)).mono ?_); rintro e w20 ⟨rfl, m3, rfl⟩
      rw [decide_eq_true (show P = P from rfl)]
      have HT10 := Lib.hid (HT9.out.drewN m3)
      clear HT9
      generalize w19.drewN m3 = w20 at *
      go_wp2_with fail
      (with_reducible refine (right_h (HT10.out.get (v := .slice Ap P.length cp) (l := P) (by simp)) (by omega)).mono ?_); rintro e w21 ⟨rfl, hb⟩
      rw [HRP.out]
      have HT11 := Lib.hid (HT10.out.below hb)
      clear hb HT10
      go_wp2_with fail
      (with_reducible refine (right_h (HT11.out.get (v := .slice Aq Q.length cq) (l := Q) (by simp)) (by omega)).mono ?_); rintro e w22 ⟨rfl, hb⟩
      rw [HRQ.out]
      have HT12 := Lib.hid (HT11.out.below hb)
      clear hb HT11
      go_wp2_with fail
      (with_reducible refine (lset_runs _).mono ?_); rintro e w23 ⟨rfl, hb⟩
      have HT13 := Lib.hid (HT12.out.below hb)
      clear hb HT12
      go_wp2_with fail
      go_ret
      exact ⟨rfl, HT13.out.bel⟩
end Go.Proofs.Ytkebmdcljeaacaa
