/- klaxonref1's Get, One, All. -/
import Derived.Test.YtfcjalojgmpnoaaMatch
import Derived.Deep.DeepCutAuto
import Derived.Deep.QuietTactic
import Derived.BigQuiet
import Derived.Lib.Strings
namespace Go.Proofs.Ytfcjalojgmpnoaa
open Go.ChangeShapes Go.WideShapes Go.ChangeAt Go.RowKit
set_option linter.unusedVariables false
set_option maxRecDepth 100000
set_option maxHeartbeats 1000000 in
theorem refGet_any (A0 : Option Addr) (n c B : Nat) (l : List Lbl) (name : ByteArray) (w : World) (h : Sees w B 2 A0 n (lbls l)) (hB : B ≤ w.heap.size) (hn : n ≤ 9223372036854775807) :
    Calls Try.prog 32 #[.slice A0 n c, .string name] w fun e w' => e = .returned (.string (getF l name)) ∧ Below w.heap.size w w' := by
  have H := Lib.hid h
  have HL := Lib.hid h.lbl_len
  clear h
  go_enter Try.func32, Try.ntmps32
  go_wp2_with fail
  go_loopg [9] n (fun g x9 wr => ∃ k : Nat, k + g = n ∧ x9 = .int .i64 k ∧ Below w.heap.size w wr ∧ ∀ x ∈ l.take k, x.1 ≠ name)
  case atStart => exact ⟨0, by omega, rfl, Below.refl _ _, (fun x hx => by simp at hx)⟩
  case round =>
    obtain ⟨k, hkg, rfl, hbel, hno⟩ := hrel
    have HB := Lib.hid hbel; have HNO := Lib.hid hno
    have hws := hbel.size
    clear hbel hno
    cases gk with
    | zero =>
      obtain rfl : k = n := by omega
      have HE := Lib.hid (show getF l name = ⟨#[]⟩ from getF_none (fun x hx => HNO.out x (by rw [List.take_of_length_le (by rw [HL.out]; exact Nat.le_refl _)]; exact hx)))
      go_wp2_with fail
      go_ret
      exact ⟨by rw [HE.out]; rfl, HB.out⟩
    | succ g =>
      have hlt : k < n := by omega
      obtain ⟨ad, hkl, rfl, c0, c1⟩ := (H.out.below (HB.out.mono hB)).lbl hlt
      have hal := World.block_lt_of_cell? wr _ c0
      have HT := Lib.hid (List.take_succ_eq_append_getElem hkl)
      have HD := Lib.hid (show l = l.take k ++ l[k] :: l.drop (k + 1) by rw [← List.drop_eq_getElem_cons hkl, List.take_append_drop])
      generalize l[k] = p at *
      obtain ⟨a, b⟩ := p
      simp only at c0 c1
      have HBA := Lib.hid (HB.out.alloc hws (.cells #[.string a, .string b] 23))
      by_cases he : a = name
      · have t1 : (a.toList == name.toList) = true := by rw [he]; simp
        have HE := Lib.hid (show getF l name = b by
          unfold getF
          rw [HD.out, List.find?_append, List.find?_eq_none.2 (fun x hx => by simpa using HNO.out x hx)]
          simp [he])
        clear HD he
        go_wp2_with fail
        go_ret
        exact ⟨by rw [HE.out]; rfl, HBA.out⟩
      · have t1 : (a.toList == name.toList) = false := by rw [beq_eq_false_iff_ne]; exact fun h => he (ba_ext h)
        have HN : Hid (∀ x ∈ l.take (k + 1), x.1 ≠ name) := Lib.hid (fun x hx => by
          rw [HT.out, List.mem_append] at hx
          rcases hx with hx | hx
          · exact HNO.out x hx
          · simp only [List.mem_singleton] at hx; subst hx; exact he)
        clear HD he HT
        go_wp2_with fail
        go_roundg g
        case measure => omega
        case rel => exact ⟨k + 1, by omega, by go_num, HBA.out, HN.out⟩
set_option maxHeartbeats 2000000 in
theorem refOne_any (A0 : Option Addr) (n c B : Nat) (l : List Lbl) (nm vl : ByteArray) (k : Int) (w : World) (h : Sees w B 2 A0 n (lbls l)) (hB : B ≤ w.heap.size) (hn : n ≤ 9223372036854775807) (hvl : vl.size ≤ 9223372036854775807) :
    Calls Try.prog 42 #[.agg #[.string nm, .string vl, .int .i64 k], .slice A0 n c] w fun e w' => e = .returned (.bool (holdsF l (nm, vl, k))) ∧ Below w.heap.size w w' := by
  have HK0 : Hid (Blk (w.alloc (.cells #[.string nm, .string vl, .int .i64 k] 56)) w.heap.size 56 [.string nm, .string vl, .int .i64 k]) := Lib.hid (Blk.mk (heap_alloc_new w _))
  have HB0 := Lib.hid ((Below.refl w.heap.size w).alloc (Nat.le_refl _) (.cells #[.string nm, .string vl, .int .i64 k] 56))
  have HG := Lib.hid (refGet_any A0 n c B l nm (w.alloc (.cells #[.string nm, .string vl, .int .i64 k] 56)) (h.alloc hB _) (by simp; omega) hn)
  clear h
  have HF : Hid (holdsF l (nm, vl, k) = if k = 1 then decide (getF l nm = vl) else if k = 2 then !decide (getF l nm = vl)
      else if k = 3 then Lib.hasPrefix (getF l nm).data.toList vl.data.toList else if k = 4 then !Lib.hasPrefix (getF l nm).data.toList vl.data.toList else false) := Lib.hid rfl
  generalize holdsF l (nm, vl, k) = r at *
  generalize getF l nm = v at *
  go_enter Try.func42, Try.ntmps42
  go_wp2_with fail
  (with_reducible refine HG.out.mono ?_); rintro e w1 ⟨rfl, hb⟩
  have HK1 := Lib.hid (HK0.out.below hb HK0.out.lt)
  have HB1 := Lib.hid (HB0.out.trans (hb.mono (by simp)))
  clear hb HK0 HB0 HG
  have HP := Lib.hid (Lib.hasPrefix_raw v vl)
  obtain ⟨q, hq⟩ : ∃ q, Lib.hasPrefix v.data.toList vl.data.toList = q := ⟨_, rfl⟩
  rw [hq] at HP HF
  clear hq
  go_upto_region 2 with fail
  go_cut [6] (fun x6 wx => x6 = .bool q ∧ Blk wx w.heap.size 56 [.string nm, .string vl, .int .i64 k] ∧ Below w.heap.size w wx)
  case first =>
    have e1 := HK1.out.cell 1
    simp only [List.getElem?_cons_zero, List.getElem?_cons_succ] at e1
    by_cases hle : vl.size ≤ v.size
    · have b1 : decide ((vl.size : Int) ≤ v.size) = true := decide_eq_true (by omega)
      have b2 : decide (vl.size ≤ v.size) = true := decide_eq_true hle
      have b3 : (vl.size : Int) ≤ v.size := by omega
      have HQ := Lib.hid (show ((v.extract 0 vl.size).toList == vl.toList) = q by have h := HP.out; rw [decide_eq_true hle, Bool.true_and] at h; exact h)
      clear HP
      obtain ⟨s, hs⟩ : ∃ s : ByteArray, v.extract 0 vl.size = s := ⟨_, rfl⟩
      rw [hs] at HQ
      have t1 : (s.toList == vl.toList) = q := HQ.out
      go_quiet (fail)
      try rw [hs]
      go_wp2_with fail
      go_meet
      exact ⟨by first | rfl | rw [← t1] | (rw [← t1, ← hs]), HK1.out.drewN _, below_drewN3 HB1.out _⟩
    · have b1 : decide ((vl.size : Int) ≤ v.size) = false := decide_eq_false (by omega)
      have b2 : decide (vl.size ≤ v.size) = false := decide_eq_false hle
      have HQ := Lib.hid (show false = q by have h := HP.out; rw [decide_eq_false hle, Bool.false_and] at h; exact h)
      clear HP
      go_quiet (fail)
      go_wp2_with fail
      go_meet
      exact ⟨by rw [← HQ.out], HK1.out.drewN _, below_drewN3 HB1.out _⟩
  case rest =>
    obtain ⟨rfl, hk2, hb2⟩ := hcut
    have HK2 := Lib.hid hk2; have HB2 := Lib.hid hb2
    have e1 := hk2.cell 1
    have e2 := hk2.cell 2
    simp only [List.getElem?_cons_zero, List.getElem?_cons_succ] at e1 e2
    clear hk2 hb2 HK1 HB1 HP
    by_cases h1 : k = 1
    · subst h1
      obtain ⟨t, ht⟩ : ∃ t, (v.toList == vl.toList) = t := ⟨_, rfl⟩
      have HR := Lib.hid (show r = t by
        rw [HF.out, if_pos rfl, ← ht]
        by_cases hv : v = vl
        · rw [decide_eq_true hv, hv]; simp
        · rw [decide_eq_false hv]; exact (beq_eq_false_iff_ne.2 (fun h => hv (ba_ext h))).symm)
      clear HF
      go_wp2_with fail
      go_ret
      exact ⟨by rw [HR.out]; rfl, HB2.out⟩
    · by_cases h2 : k = 2
      · subst h2
        by_cases hv : v = vl
        · have t1 : (v.toList == vl.toList) = true := by rw [hv]; simp
          have HR := Lib.hid (show r = false by rw [HF.out, if_neg h1, if_pos rfl, decide_eq_true hv]; rfl)
          clear HF hv
          go_wp2_with fail
          go_ret
          exact ⟨by rw [HR.out]; rfl, HB2.out⟩
        · have t1 : (v.toList == vl.toList) = false := by rw [beq_eq_false_iff_ne]; exact fun h => hv (ba_ext h)
          have HR := Lib.hid (show r = true by rw [HF.out, if_neg h1, if_pos rfl, decide_eq_false hv]; rfl)
          clear HF hv
          go_wp2_with fail
          go_ret
          exact ⟨by rw [HR.out]; rfl, HB2.out⟩
      · by_cases h3 : k = 3
        · subst h3
          have HR := Lib.hid (show r = q by rw [HF.out, if_neg h1, if_neg h2, if_pos rfl])
          clear HF
          go_wp2_with fail
          go_ret
          exact ⟨by rw [HR.out]; rfl, HB2.out⟩
        · by_cases h4 : k = 4
          · subst h4
            have HR := Lib.hid (show r = !q by rw [HF.out, if_neg h1, if_neg h2, if_neg h3, if_pos rfl])
            clear HF
            go_wp2_with fail
            go_ret
            exact ⟨by rw [HR.out]; rfl, HB2.out⟩
          · have t1 := int_ne h1; have t2 := int_ne h2; have t3 := int_ne h3; have t4 := int_ne h4
            have HR := Lib.hid (show r = false by rw [HF.out, if_neg h1, if_neg h2, if_neg h3, if_neg h4])
            clear HF
            go_wp2_with fail
            go_ret
            exact ⟨by rw [HR.out]; rfl, HB2.out⟩
set_option maxHeartbeats 2000000 in
theorem refAll_any (A0 : Option Addr) (n c B : Nat) (l : List Lbl) (A2 : Option Addr) (n2 c2 B2 : Nat) (ms : List Mtc) (w : World) (h : Sees w B 2 A0 n (lbls l)) (hB : B ≤ w.heap.size) (hn : n ≤ 9223372036854775807) (h2 : Sees w B2 3 A2 n2 (mtcs ms)) (hB2 : B2 ≤ w.heap.size) (hn2 : n2 ≤ 9223372036854775807) (hz : ∀ x ∈ ms, x.2.1.size ≤ 9223372036854775807) :
    Calls Try.prog 30 #[.slice A2 n2 c2, .slice A0 n c] w fun e w' => e = .returned (.bool (allF l ms)) ∧ Below w.heap.size w w' := by
  have H := Lib.hid h; have H2 := Lib.hid h2
  have HL := Lib.hid h2.mtc_len
  have HZ := Lib.hid hz
  clear h h2 hz
  go_enter Try.func30, Try.ntmps30
  go_wp2_with fail
  go_loopg [9] n2 (fun g x9 wr => ∃ k : Nat, k + g = n2 ∧ x9 = .int .i64 k ∧ Below w.heap.size w wr ∧ ∀ x ∈ ms.take k, holdsF l x = true)
  case atStart => exact ⟨0, by omega, rfl, Below.refl _ _, (fun x hx => by simp at hx)⟩
  case round =>
    obtain ⟨k, hkg, rfl, hbel, hno⟩ := hrel
    have HB := Lib.hid hbel; have HNO := Lib.hid hno
    have hws := hbel.size
    clear hbel hno
    cases gk with
    | zero =>
      obtain rfl : k = n2 := by omega
      have HE := Lib.hid (show allF l ms = true from List.all_eq_true.2 (fun x hx => HNO.out x (by rw [List.take_of_length_le (by rw [HL.out]; exact Nat.le_refl _)]; exact hx)))
      go_wp2_with fail
      go_ret
      exact ⟨by rw [HE.out]; rfl, HB.out⟩
    | succ g =>
      have hlt : k < n2 := by omega
      obtain ⟨ad, hkl, rfl, c0, c1, c2⟩ := (H2.out.below (HB.out.mono hB2)).mtc hlt
      have hal := World.block_lt_of_cell? wr _ c0
      have HT := Lib.hid (List.take_succ_eq_append_getElem hkl)
      have HM := Lib.hid (List.getElem_mem hkl)
      have hzk := HZ.out _ (List.getElem_mem hkl)
      generalize ms[k] = p at *
      obtain ⟨a, b, kd⟩ := p
      simp only at c0 c1 c2 hzk
      have HBA := Lib.hid (HB.out.alloc hws (.cells #[.string a, .string b, .int .i64 kd] 56))
      have HO := Lib.hid (refOne_any A0 n c B l a b kd (wr.alloc (.cells #[.string a, .string b, .int .i64 kd] 56)) (H.out.below (HBA.out.mono hB)) (Nat.le_trans hB HBA.out.size) hn hzk)
      have HR : Hid (holdsF l (a, b, kd) = false → allF l ms = false) := Lib.hid (fun h => by
        rw [allF, List.all_eq_false]; exact ⟨_, HM.out, by rw [h]; simp⟩)
      have HN : Hid (holdsF l (a, b, kd) = true → ∀ x ∈ ms.take (k + 1), holdsF l x = true) := Lib.hid (fun h x hx => by
        rw [HT.out] at hx
        rcases List.mem_append.1 hx with hx | hx
        · exact HNO.out x hx
        · rw [List.mem_singleton] at hx; rw [hx]; exact h)
      clear HT HM
      generalize holdsF l (a, b, kd) = r at *
      cases r with
      | false =>
        have HE := Lib.hid (HR.out rfl)
        clear HR HN
        go_wp2_with fail
        (with_reducible refine HO.out.mono ?_); rintro e w1 ⟨rfl, hb⟩
        have HB1 := Lib.hid (HBA.out.trans (hb.mono HBA.out.size))
        clear hb
        go_wp2_with fail
        go_ret
        exact ⟨by rw [HE.out]; rfl, HB1.out⟩
      | true =>
        have HN1 := Lib.hid (HN.out rfl)
        clear HR HN
        go_wp2_with fail
        (with_reducible refine HO.out.mono ?_); rintro e w1 ⟨rfl, hb⟩
        have HB1 := Lib.hid (HBA.out.trans (hb.mono HBA.out.size))
        clear hb
        go_wp2_with fail
        go_roundg g
        case measure => omega
        case rel => exact ⟨k + 1, by omega, by go_num, HB1.out, HN1.out⟩
end Go.Proofs.Ytfcjalojgmpnoaa
