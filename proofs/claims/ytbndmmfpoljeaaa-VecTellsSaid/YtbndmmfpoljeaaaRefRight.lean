/- Right sets: klaxonref1.RightSet. -/
import Derived.Test.YtbndmmfpoljeaaaBase
namespace Go.Proofs.Ytbndmmfpoljeaaa
open Go.ChangeShapes Go.WideShapes Go.ChangeAt Go.RowKit
set_option linter.unusedVariables false
set_option maxRecDepth 100000
set_option maxHeartbeats 2000000 in
theorem refRight_any (A : Option Addr) (n c : Nat) (l : List (ByteArray × ByteArray)) (B : Nat) (w : World) (h : Sees w B 2 A n (lbls l)) (hB : B ≤ w.heap.size) (hn : n ≤ 9223372036854775807) (hs : ∀ x ∈ l, x.1.size ≤ 9223372036854775807) :
    Calls Try.prog 75 #[.slice A n c] w fun e w' => e = .returned (.bool (rightS l)) ∧ Below w.heap.size w w' := by
  have H := Lib.hid h; clear h
  have HL := Lib.hid H.out.lbl_len
  have HSZ := Lib.hid hs; clear hs
  by_cases h6 : n ≤ 6
  · have j6 : ¬ (6 : Int) < n := by omega
    have H6 := Lib.hid h6
    go_enter Try.func75, Try.ntmps75
    go_wp2_with fail
    go_loopg [10] n (fun g x10 wr => ∃ k : Nat, k + g = n ∧ x10 = .int .i64 k ∧ rightK l k = true ∧ Below w.heap.size w wr)
    case atStart => exact ⟨0, by omega, rfl, rfl, Below.refl _ _⟩
    case round =>
      obtain ⟨k, hkg, rfl, hrk, hbel⟩ := hrel
      have HRK := Lib.hid hrk; have HB := Lib.hid hbel
      have hsz := hbel.size
      clear hrk hbel
      cases gk with
      | zero =>
        obtain rfl : k = n := by omega
        have HR := Lib.hid (rightS_yes (l := l) (by rw [HL.out]; exact H6.out) (by rw [HL.out]; exact HRK.out))
        go_wp2_with fail
        go_ret
        exact ⟨ret_yes rfl HR.out, HB.out⟩
      | succ g =>
        have hlt : k < n := by omega
        obtain ⟨ad, hkl, rfl, c0, c1⟩ := (H.out.below (HB.out.mono hB)).lbl hlt
        have hal := World.block_lt_of_cell? wr _ c0
        have HROW : Hid (lblOk l[k] = false → rightS l = false) := Lib.hid (rightS_row hkl)
        have HRISE : Hid (riseAt l k = false → rightS l = false) := Lib.hid (rightS_rise hkl)
        have HNXT : Hid (lblOk l[k] = true → riseAt l k = true → rightK l (k + 1) = true) := Lib.hid fun h1 h2 => by unfold rightK; rw [HRK.out, lblAt_get hkl, h1, h2]; rfl
        have HQ : Hid (∀ q, q + 1 = k → ∃ a2 : ByteArray, wr.cell? (ad.add (q * 2)) = some (.string a2) ∧ (!Op.bytesLess a2.toList l[k].1.toList) = !riseAt l k) := Lib.hid fun q hq => by
          obtain ⟨ad2, hql, had, d0, d1⟩ := (H.out.below (HB.out.mono hB)).lbl (show q < n by omega)
          injection had with had; subst had
          exact ⟨_, d0, by rw [riseAt_get hq hkl]⟩
        have HBA := Lib.hid (fun o : Obj => HB.out.alloc hsz o)
        have hsa := HSZ.out l[k] (List.getElem_mem _)
        clear HRK
        generalize l[k] = p at *
        obtain ⟨a, b⟩ := p
        simp only at c0 c1 hsa
        have HW := Lib.hid (fun W => refWord_any a W hsa)
        have HOK : Hid (lblOk (a, b) = (wordF a && decide (1 ≤ b.size) && decide (b.size ≤ 24))) := Lib.hid rfl
        generalize wordF a = wa at *
        cases wa with
        | false =>
          have HR := Lib.hid (HROW.out (by rw [HOK.out]; rfl))
          clear HROW HRISE HNXT HQ HOK
          go_wp2_with fail
          go_quiet ((go_at_call 86; exact calls_quiet (HW.out _)))
          go_wp2_with fail
          go_ret
          exact ⟨ret_no rfl HR.out, by first | exact HBA.out _ | exact (HBA.out _).drew | exact below_drewN3 (HBA.out _) _⟩
        | true =>
          by_cases hb1 : 1 ≤ b.size
          · have y1 : ¬ (b.size : Int) < 1 := by omega
            have y1a : decide ((b.size : Int) < 1) = false := decide_eq_false y1
            have y1b : decide (b.size < 1) = false := decide_eq_false (by omega)
            have y1c : decide (b.size = 0) = false := decide_eq_false (by omega)
            have y1d : (b.size == 0) = false := by rw [beq_eq_false_iff_ne]; omega
            by_cases hb2 : b.size ≤ 24
            · have y2 : ¬ (24 : Int) < b.size := by omega
              have y2a : decide ((24 : Int) < b.size) = false := decide_eq_false y2
              have y2b : decide (24 < b.size) = false := decide_eq_false (by omega)
              have HOK2 : Hid (lblOk (a, b) = true) := Lib.hid (by rw [HOK.out]; simp [hb1, hb2])
              clear HOK HROW hb1 hb2
              rcases Nat.eq_zero_or_pos k with hk0 | hk0
              · have z1 : ¬ (0 : Int) < k := by omega
                have z5 : ¬ 0 < k := by omega
                have z6 : decide (0 < k) = false := decide_eq_false z5
                have z8 : decide ((0 : Int) < k) = false := decide_eq_false z1
                have HN := Lib.hid (HNXT.out HOK2.out (by subst hk0; rfl))
                clear HRISE HNXT HQ hk0
                go_wp2_with fail
                go_quiet ((go_at_call 86; exact calls_quiet (HW.out _)))
                go_wp2_with fail
                go_roundg g
                case measure => omega
                case rel => exact ⟨k + 1, by omega, by first | rfl | go_num, HN.out, by first | exact HBA.out _ | exact (HBA.out _).drew | exact below_drewN3 (HBA.out _) _⟩
              · obtain ⟨q, hq⟩ : ∃ q, q + 1 = k := ⟨k - 1, by omega⟩
                obtain ⟨a2, d0, hrq⟩ := HQ.out q hq
                have hal2 := World.block_lt_of_cell? wr _ d0
                have z1 : (0 : Int) < k := by omega
                have z5 : 0 < k := by omega
                have z6 : decide (0 < k) = true := decide_eq_true z5
                have z9 : decide ((0 : Int) < k) = true := decide_eq_true z1
                have z2 : (k : Int) - 1 = q := by omega
                have z3 : (0 : Int) ≤ q := by omega
                have z4 : (q : Int) < n := by omega
                have z7 : IntKind.i64.wrap (q : Int) = q := by rw [IntKind.wrap_i64]; omega
                have z8 : q < n := by omega
                simp only at hrq
                obtain ⟨r, hr⟩ : ∃ r, riseAt l k = r := ⟨_, rfl⟩
                rw [hr] at hrq
                have HRA := Lib.hid hr
                clear hr hq HQ hk0
                cases r with
                | true =>
                  have HN := Lib.hid (HNXT.out HOK2.out HRA.out)
                  clear HNXT HRISE
                  simp only [Bool.not_true] at hrq
                  go_wp2_with fail
                  go_quiet ((go_at_call 86; exact calls_quiet (HW.out _)))
                  go_wp2_with fail
                  go_roundg g
                  case measure => omega
                  case rel => exact ⟨k + 1, by omega, by first | rfl | go_num, HN.out, by first | exact HBA.out _ | exact (HBA.out _).drew | exact below_drewN3 (HBA.out _) _⟩
                | false =>
                  have HR := Lib.hid (HRISE.out HRA.out)
                  clear HNXT HRISE
                  simp only [Bool.not_false] at hrq
                  go_wp2_with fail
                  go_quiet ((go_at_call 86; exact calls_quiet (HW.out _)))
                  go_wp2_with fail
                  go_ret
                  exact ⟨ret_no rfl HR.out, by first | exact HBA.out _ | exact (HBA.out _).drew | exact below_drewN3 (HBA.out _) _⟩
            · have y2 : (24 : Int) < b.size := by omega
              have y2a : decide ((24 : Int) < b.size) = true := decide_eq_true y2
              have y2b : decide (24 < b.size) = true := decide_eq_true (by omega)
              have HR := Lib.hid (HROW.out (by rw [HOK.out]; simp [hb2]))
              clear HROW HRISE HNXT HQ HOK hb1 hb2
              go_wp2_with fail
              go_quiet ((go_at_call 86; exact calls_quiet (HW.out _)))
              go_wp2_with fail
              go_ret
              exact ⟨ret_no rfl HR.out, by first | exact HBA.out _ | exact (HBA.out _).drew | exact below_drewN3 (HBA.out _) _⟩
          · have y1 : (b.size : Int) < 1 := by omega
            have y1a : decide ((b.size : Int) < 1) = true := decide_eq_true y1
            have y1b : decide (b.size < 1) = true := decide_eq_true (by omega)
            have y1c : decide (b.size = 0) = true := decide_eq_true (by omega)
            have y1d : (b.size == 0) = true := by rw [beq_iff_eq]; omega
            have HR := Lib.hid (HROW.out (by rw [HOK.out]; simp [hb1]))
            clear HROW HRISE HNXT HQ HOK hb1
            go_wp2_with fail
            go_quiet ((go_at_call 86; exact calls_quiet (HW.out _)))
            go_wp2_with fail
            go_ret
            exact ⟨ret_no rfl HR.out, by first | exact HBA.out _ | exact (HBA.out _).drew | exact below_drewN3 (HBA.out _) _⟩
  · have j6 : (6 : Int) < n := by omega
    have HR := Lib.hid (rightS_long (l := l) (by rw [HL.out]; exact h6))
    go_enter Try.func75, Try.ntmps75
    go_wp2_with fail
    go_ret
    exact ⟨ret_no rfl HR.out, Below.refl _ _⟩
end Go.Proofs.Ytbndmmfpoljeaaa
