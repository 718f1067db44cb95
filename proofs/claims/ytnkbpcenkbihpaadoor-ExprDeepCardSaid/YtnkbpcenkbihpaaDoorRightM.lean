/- match.Right, in a seat without match.All. -/
import Derived.Test.YtnkbpcenkbihpaaDoorBase
namespace Go.Proofs.YtnkbpcenkbihpaaDoor
open Go.ChangeShapes Go.WideShapes Go.ChangeAt Go.RowKit
set_option linter.unusedVariables false
set_option maxRecDepth 100000
theorem int_ne {a b : Int} (h : ¬ a = b) : (a == b) = false := by rw [beq_eq_false_iff_ne]; exact h
set_option maxHeartbeats 1000000 in
theorem sign_any (k : Int) (w : World) : Calls Tryd.prog 47 #[.int .i64 k] w fun e w' => e = .returned (.string (signF k)) ∧ w = w' := by
  by_cases h1 : k = 1
  · subst h1; go_enter Tryd.func47, Tryd.ntmps47
    go_wp2_with fail
    go_ret
    exact ⟨rfl, rfl⟩
  · by_cases h2 : k = 2
    · subst h2; go_enter Tryd.func47, Tryd.ntmps47
      go_wp2_with fail
      go_ret
      exact ⟨rfl, rfl⟩
    · by_cases h3 : k = 3
      · subst h3; go_enter Tryd.func47, Tryd.ntmps47
        go_wp2_with fail
        go_ret
        exact ⟨rfl, rfl⟩
      · by_cases h4 : k = 4
        · subst h4; go_enter Tryd.func47, Tryd.ntmps47
          go_wp2_with fail
          go_ret
          exact ⟨rfl, rfl⟩
        · have HS := Lib.hid (show signF k = ⟨#[]⟩ by unfold signF; rw [if_neg h1, if_neg h2, if_neg h3, if_neg h4])
          have t1 := int_ne h1; have t2 := int_ne h2; have t3 := int_ne h3; have t4 := int_ne h4
          go_enter Tryd.func47, Tryd.ntmps47
          go_wp2_with fail
          go_ret
          exact ⟨by rw [HS.out]; rfl, rfl⟩
/-- May x be a matcher. -/
def mtcOk (x : Mtc) : Bool := wordF x.1 && (decide (x.2.1.size ≤ 24) && !decide (signF x.2.2 = ⟨#[]⟩))
/-- May these be matchers. -/
def rightM (ms : List Mtc) : Bool := decide (ms.length ≤ 6) && ms.all mtcOk
theorem rightM_bad {ms : List Mtc} {x : Mtc} (hx : x ∈ ms) (h : mtcOk x = false) : rightM ms = false := by
  have : ms.all mtcOk = false := by rw [List.all_eq_false]; exact ⟨x, hx, by rw [h]; simp⟩
  rw [rightM, this, Bool.and_false]
theorem ba_empty {s : ByteArray} (h : ¬ s = ⟨#[]⟩) : s.toList ≠ [] := fun e => h (ba_ext (by rw [e]; exact (ba_list []).symm))
set_option maxHeartbeats 2000000 in
theorem rightM_any (A2 : Option Addr) (n2 c2 B2 : Nat) (ms : List Mtc) (w : World) (h2 : Sees w B2 3 A2 n2 (mtcs ms)) (hB2 : B2 ≤ w.heap.size) (hn2 : n2 ≤ 9223372036854775807) :
    Calls Tryd.prog 25 #[.slice A2 n2 c2] w fun e w' => e = .returned (.bool (rightM ms)) ∧ Below w.heap.size w w' := by
  have H2 := Lib.hid h2
  have HL := Lib.hid h2.mtc_len
  clear h2
  by_cases h6 : n2 ≤ 6
  · have j6 : ¬ (6 : Int) < n2 := by omega
    have H6 := Lib.hid h6
    go_enter Tryd.func25, Tryd.ntmps25
    go_wp2_with fail
    go_loopg [10] n2 (fun g x10 wr => ∃ k : Nat, k + g = n2 ∧ x10 = .int .i64 k ∧ Below w.heap.size w wr ∧ ∀ x ∈ ms.take k, mtcOk x = true)
    case atStart => exact ⟨0, by omega, rfl, Below.refl _ _, (fun x hx => by simp at hx)⟩
    case round =>
      obtain ⟨k, hkg, rfl, hbel, hno⟩ := hrel
      have HB := Lib.hid hbel; have HNO := Lib.hid hno
      have hws := hbel.size
      clear hbel hno
      cases gk with
      | zero =>
        obtain rfl : k = n2 := by omega
        have HE := Lib.hid (show rightM ms = true by
          have h1 : ms.all mtcOk = true := List.all_eq_true.2 (fun x hx => HNO.out x (by rw [List.take_of_length_le (by rw [HL.out]; exact Nat.le_refl _)]; exact hx))
          rw [rightM, h1, HL.out, decide_eq_true H6.out]; rfl)
        go_wp2_with fail
        go_ret
        exact ⟨by rw [HE.out]; rfl, HB.out⟩
      | succ g =>
        have hlt : k < n2 := by omega
        obtain ⟨ad, hkl, rfl, c0, c1, c2⟩ := (H2.out.below (HB.out.mono hB2)).mtc hlt
        have hal := World.block_lt_of_cell? wr _ c0
        have HT := Lib.hid (List.take_succ_eq_append_getElem hkl)
        have HM := Lib.hid (List.getElem_mem hkl)
        generalize ms[k] = p at *
        obtain ⟨a, b, kd⟩ := p
        simp only at c0 c1 c2
        have HBA := Lib.hid (HB.out.alloc hws (.cells #[.string a, .string b, .int .i64 kd] 54))
        have HR : Hid (mtcOk (a, b, kd) = false → rightM ms = false) := Lib.hid (rightM_bad HM.out)
        have HN : Hid (mtcOk (a, b, kd) = true → ∀ x ∈ ms.take (k + 1), mtcOk x = true) := Lib.hid (fun h x hx => by
          rw [HT.out] at hx
          rcases List.mem_append.1 hx with hx | hx
          · exact HNO.out x hx
          · rw [List.mem_singleton] at hx; rw [hx]; exact h)
        have HOK : Hid (mtcOk (a, b, kd) = (wordF a && (decide (b.size ≤ 24) && !decide (signF kd = ⟨#[]⟩)))) := Lib.hid rfl
        have HW := Lib.hid (fun W => word_any a W)
        have HS := Lib.hid (fun W => sign_any kd W)
        clear HT HM
        generalize wordF a = wa at *
        generalize signF kd = s at *
        cases wa with
        | false =>
          have HE := Lib.hid (HR.out (by rw [HOK.out]; rfl))
          clear HR HN HOK
          go_wp2_with fail
          (with_reducible refine (HW.out _).mono ?_); rintro e w1 ⟨rfl, rfl⟩
          go_wp2_with fail
          go_ret
          exact ⟨by rw [HE.out]; rfl, HBA.out⟩
        | true =>
          by_cases hb2 : b.size ≤ 24
          · have y2 : ¬ (24 : Int) < b.size := by omega
            by_cases hs : s = ⟨#[]⟩
            · have HE := Lib.hid (HR.out (by rw [HOK.out, decide_eq_true hs]; simp))
              subst hs
              clear HR HN HOK
              go_wp2_with fail
              (with_reducible refine (HW.out _).mono ?_); rintro e w1 ⟨rfl, rfl⟩
              go_wp2_with fail
              (with_reducible refine (HS.out _).mono ?_); rintro e w1 ⟨rfl, rfl⟩
              go_wp2_with fail
              go_ret
              exact ⟨by rw [HE.out]; rfl, HBA.out⟩
            · have HN1 := Lib.hid (HN.out (by rw [HOK.out, decide_eq_false hs, decide_eq_true hb2]; rfl))
              have t0 := ba_empty hs
              have t1 : (s.toList == []) = false := by rw [beq_eq_false_iff_ne]; exact t0
              have t2 : s.toList.isEmpty = false := by cases hq : s.toList with | nil => exact absurd hq t0 | cons x y => rfl
              clear HR HN HOK hs
              go_wp2_with fail
              (with_reducible refine (HW.out _).mono ?_); rintro e w1 ⟨rfl, rfl⟩
              go_wp2_with fail
              (with_reducible refine (HS.out _).mono ?_); rintro e w1 ⟨rfl, rfl⟩
              go_wp2_with fail
              go_roundg g
              case measure => omega
              case rel => exact ⟨k + 1, by omega, by go_num, HBA.out, HN1.out⟩
          · have y2 : (24 : Int) < b.size := by omega
            have HE := Lib.hid (HR.out (by rw [HOK.out, decide_eq_false hb2]; simp))
            clear HR HN HOK
            go_wp2_with fail
            (with_reducible refine (HW.out _).mono ?_); rintro e w1 ⟨rfl, rfl⟩
            go_wp2_with fail
            go_ret
            exact ⟨by rw [HE.out]; rfl, HBA.out⟩
  · have j6 : (6 : Int) < n2 := by omega
    have HE := Lib.hid (show rightM ms = false by rw [rightM, HL.out, decide_eq_false h6]; rfl)
    go_enter Tryd.func25, Tryd.ntmps25
    go_wp2_with fail
    go_ret
    exact ⟨by rw [HE.out]; rfl, Below.refl _ _⟩
end Go.Proofs.YtnkbpcenkbihpaaDoor
