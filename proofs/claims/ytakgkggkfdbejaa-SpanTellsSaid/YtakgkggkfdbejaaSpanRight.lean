/- Package span: Right. -/
import Derived.Test.YtakgkggkfdbejaaSpanTurn
namespace Go.Proofs.Ytakgkggkfdbejaa
open Go.ChangeShapes Go.WideShapes Go.ChangeAt Go.RowKit
set_option linter.unusedVariables false
set_option maxRecDepth 100000
def rightAt : Option Int → Int × Int → Bool
  | none, x => decide (0 ≤ x.1) && decide (x.1 ≤ x.2) && decide (x.2 < 200)
  | some e, x => decide (0 ≤ x.1) && decide (x.1 ≤ x.2) && decide (x.2 < 200) && decide (e + 2 ≤ x.1)
def rightF : Option Int → List (Int × Int) → Bool
  | _, [] => true
  | p, x :: r => rightAt p x && rightF (some x.2) r
def prevOf (zs : List (Int × Int)) : Nat → Option Int
  | 0 => none
  | j + 1 => (zs[j]?).map (·.2)
theorem rightAt_no {p : Option Int} {f t : Int} (h : ¬ (0 ≤ f ∧ f ≤ t ∧ t < 200)) : rightAt p (f, t) = false := by
  have e : (decide (0 ≤ f) && decide (f ≤ t) && decide (t < 200)) = false := by
    by_cases h1 : 0 ≤ f <;> by_cases h2 : f ≤ t <;> by_cases h3 : t < 200 <;> simp_all
  cases p with
  | none => exact e
  | some y => show (decide (0 ≤ f) && decide (f ≤ t) && decide (t < 200) && _) = false; rw [e]; rfl
theorem rightAt_none {f t : Int} (h : 0 ≤ f ∧ f ≤ t ∧ t < 200) : rightAt none (f, t) = true := by
  show (decide (0 ≤ f) && decide (f ≤ t) && decide (t < 200)) = true
  simp [h.1, h.2.1, h.2.2]
theorem rightAt_some {e f t : Int} (h : 0 ≤ f ∧ f ≤ t ∧ t < 200) : rightAt (some e) (f, t) = decide (e + 2 ≤ f) := by
  show (decide (0 ≤ f) && decide (f ≤ t) && decide (t < 200) && decide (e + 2 ≤ f)) = decide (e + 2 ≤ f)
  simp [h.1, h.2.1, h.2.2]
set_option maxHeartbeats 4000000 in
theorem right_any (A : Option Addr) (n c : Nat) (zs : List (Int × Int)) (B : Nat) (w : World) (h : Sees w B 2 A n (smps zs)) (hB : B ≤ w.heap.size) (hnc : n ≤ c) (hn : n ≤ 100000) :
    Calls Try.prog 20 #[.slice A n c] w fun e w' => e = .returned (.bool (rightF none zs)) ∧ Below w.heap.size w w' := by
  have H := Lib.hid h; clear h
  have HL := Lib.hid H.out.smp_len
  obtain ⟨tot, htot⟩ : ∃ tot, rightF none zs = tot := ⟨_, rfl⟩
  rw [htot]
  have HTOT := Lib.hid htot; clear htot
  go_enter Try.func20, Try.ntmps20
  go_wp2_with fail
  go_loopg [7] n (fun g i wr => ∃ k : Nat, k + g = n ∧ i = .int .i64 k ∧ Below w.heap.size w wr ∧ tot = rightF (prevOf zs k) (zs.drop k) ∧ ∀ e, prevOf zs k = some e → 0 ≤ e ∧ e < 200)
  case atStart => exact ⟨0, by omega, rfl, Below.refl _ _, HTOT.out.symm, fun e h => by cases h⟩
  case round =>
    obtain ⟨k, hkg, rfl, hbel, htot, hprev⟩ := hrel
    have hsz := hbel.size
    have HB := Lib.hid hbel; have HT := Lib.hid htot; have HP := Lib.hid hprev
    clear hbel htot hprev
    cases gk with
    | zero =>
      obtain rfl : k = n := by omega
      have HE := Lib.hid (show tot = true by rw [HT.out, List.drop_of_length_le (by rw [HL.out]; exact Nat.le_refl _)]; simp [rightF])
      go_wp2_with fail
      go_ret
      exact ⟨ret_bool HE.out.symm, HB.out⟩
    | succ g =>
      have hlt : k < n := by omega
      obtain ⟨ad, hkl, rfl, c0, c1⟩ := (H.out.below (HB.out.mono hB)).smp hlt
      have HDL := Lib.hid (List.drop_eq_getElem_cons hkl)
      have HPK := Lib.hid (show prevOf zs (k + 1) = some zs[k].2 by simp [prevOf, List.getElem?_eq_getElem hkl])
      have hal := World.block_lt_of_cell? wr _ c0
      generalize zs[k] = p at *
      obtain ⟨f, t⟩ := p
      simp only at c0 c1 HPK
      have HB2 := Lib.hid (HB.out.alloc hsz (.cells #[.int .i64 f, .int .i64 t] 26))
      have HT2 := Lib.hid (show tot = (rightAt (prevOf zs k) (f, t) && rightF (some t) (zs.drop (k + 1))) by rw [HT.out, HDL.out]; rfl)
      clear HT HDL
      by_cases hf : 0 ≤ f
      · have hf2 : ¬ f < 0 := by omega
        by_cases hft : f ≤ t
        · have hft2 : ¬ t < f := by omega
          by_cases ht : t < 200
          · have ht2 : ¬ (t ≥ 200) := by omega
            by_cases hk : k = 0
            · have HN := Lib.hid (show tot = rightF (prevOf zs (k + 1)) (zs.drop (k + 1)) by rw [HT2.out, HPK.out, show prevOf zs k = none by rw [hk]; rfl, rightAt_none ⟨hf, hft, ht⟩]; rfl)
              have hkn : ¬ (0 : Int) < k := by omega
              have hkn2 : ¬ 0 < k := by omega
              clear HP hk
              go_upto_region 6 with fail
              go_cut [40] (fun x wx => x = .bool false ∧ wx = (wr.alloc (.cells #[.int .i64 f, .int .i64 t] 26)).drew)
              case first =>
                go_region
                all_goals
                  go_wp2_with fail
                  go_meet
                  exact ⟨rfl, rfl⟩
              case rest =>
                obtain ⟨rfl, rfl⟩ := hcut
                go_wp2_with fail
                go_roundg g
                case measure => omega
                case rel => exact ⟨k + 1, by omega, by go_num, HB2.out.drew, HN.out, fun e he => by rw [HPK.out] at he; injection he with he; omega⟩
            · obtain ⟨j, rfl⟩ : ∃ j, k = j + 1 := ⟨k - 1, by omega⟩
              clear hk
              obtain ⟨ad', hjl, hA, _, c3⟩ := (H.out.below (HB.out.mono hB)).smp (show j < n by omega)
              injection hA with hA; subst hA
              have HPJ := Lib.hid (show prevOf zs (j + 1) = some zs[j].2 by simp [prevOf, List.getElem?_eq_getElem hjl])
              have hal2 := World.block_lt_of_cell? wr _ c3
              generalize zs[j].2 = e at *
              have he := HP.out e HPJ.out
              have hk0 : (0 : Int) ≤ j := by omega
              clear HP
              by_cases hle : e + 2 ≤ f
              · have hlt2 : decide (f < e + 2) = false := by simp; omega
                have hlt3 : ¬ f < e + 2 := by omega
                have HN := Lib.hid (show tot = rightF (prevOf zs (j + 1 + 1)) (zs.drop (j + 1 + 1)) by rw [HT2.out, HPK.out, HPJ.out, rightAt_some ⟨hf, hft, ht⟩, decide_eq_true hle]; rfl)
                go_upto_region 6 with fail
                go_cut [40] (fun x wx => x = .bool false ∧ wx = (wr.alloc (.cells #[.int .i64 f, .int .i64 t] 26)).drew)
                case first =>
                  go_region
                  all_goals
                    go_wp2_with fail
                    go_meet
                    exact ⟨rfl, rfl⟩
                case rest =>
                  obtain ⟨rfl, rfl⟩ := hcut
                  go_wp2_with fail
                  go_roundg g
                  case measure => omega
                  case rel => exact ⟨j + 1 + 1, by omega, by go_num, HB2.out.drew, HN.out, fun e he => by rw [HPK.out] at he; injection he with he; omega⟩
              · have hlt2 : decide (f < e + 2) = true := by simp; omega
                have hlt3 : f < e + 2 := by omega
                have HN := Lib.hid (show tot = false by rw [HT2.out, HPJ.out, rightAt_some ⟨hf, hft, ht⟩, decide_eq_false hle]; rfl)
                go_upto_region 6 with fail
                go_cut [40] (fun x wx => x = .bool true ∧ wx = (wr.alloc (.cells #[.int .i64 f, .int .i64 t] 26)).drew)
                case first =>
                  go_region
                  all_goals
                    go_wp2_with fail
                    go_meet
                    exact ⟨rfl, rfl⟩
                case rest =>
                  obtain ⟨rfl, rfl⟩ := hcut
                  go_wp2_with fail
                  go_ret
                  exact ⟨ret_bool HN.out.symm, HB2.out.drew⟩
          · have ht2 : t ≥ 200 := by omega
            have HN := Lib.hid (show tot = false by rw [HT2.out, rightAt_no (fun h => ht h.2.2)]; rfl)
            go_wp2_with fail
            go_ret
            exact ⟨ret_bool HN.out.symm, HB2.out⟩
        · have hft2 : t < f := by omega
          have HN := Lib.hid (show tot = false by rw [HT2.out, rightAt_no (fun h => hft h.2.1)]; rfl)
          go_wp2_with fail
          go_ret
          exact ⟨ret_bool HN.out.symm, HB2.out⟩
      · have hf2 : f < 0 := by omega
        have HN := Lib.hid (show tot = false by rw [HT2.out, rightAt_no (fun h => hf h.1)]; rfl)
        go_wp2_with fail
        go_ret
        exact ⟨ret_bool HN.out.symm, HB2.out⟩
end Go.Proofs.Ytakgkggkfdbejaa
