/- klaxonref7: okOver, reckon. -/
import Derived.Test.YtbndmmfpoljeaaaNumRef
import Derived.Test.YtbndmmfpoljeaaaBase2
namespace Go.Proofs.Ytbndmmfpoljeaaa
open Go.ChangeShapes Go.WideShapes Go.ChangeAt Go.RowKit
set_option linter.unusedVariables false
set_option maxRecDepth 100000
def okE (b : Bool) : Int := if b then 0 else 3
theorem okover_any (b : Bool) (w : World) : Calls Try.prog 73 #[.bool b] w fun e w' => e = .returned (.int .i64 (okE b)) ∧ w = w' := by
  cases b with
  | true =>
    go_enter Try.func73, Try.ntmps73
    go_wp2_with fail
    go_ret
    exact ⟨rfl, rfl⟩
  | false =>
    go_enter Try.func73, Try.ntmps73
    go_wp2_with fail
    go_ret
    exact ⟨rfl, rfl⟩
theorem nE_B (n : Int) : okE (nB n) = nE n := by
  unfold okE
  by_cases h : I64 n
  · rw [nB_in h, nE_in h]; rfl
  · rw [nB_out h, nE_out h]; rfl
/-- The reference's answer: its fault, and its number where there is none. -/
def ReckAns (k a b : Int) (w : World) (e : Ending) (w' : World) : Prop := (∃ n, e = .returned (.tuple #[.int .i64 n, .int .i64 (reckonF k a b).2]) ∧ ((reckonF k a b).2 = 0 → n = (reckonF k a b).1)) ∧ w = w'
theorem reckAns_of {k a b n er : Int} {w : World} {r : Int × Int} (h : reckonF k a b = r) (h2 : er = r.2) (h3 : r.2 = 0 → n = r.1) : ReckAns k a b w (.returned (.tuple #[.int .i64 n, .int .i64 er])) w := ⟨⟨n, by rw [h, h2], by rw [h]; exact h3⟩, rfl⟩
set_option maxHeartbeats 4000000 in
theorem reckon_r (k a b : Int) (w : World) (wa : I64 a) (wb : I64 b) (h1 : 3 ≤ k) (h2 : k ≤ 7) :
    Calls Try.prog 43 #[.int .i64 k, .int .i64 a, .int .i64 b] w (ReckAns k a b w) := by
  have HA := Lib.hid (ref_add_any a b w wa wb)
  have HM := Lib.hid (ref_mul_any a b w wa wb)
  have WA := Lib.hid wa; have WB := Lib.hid wb
  by_cases k3 : k = 3
  · have HE := Lib.hid (show reckonF k a b = (nV (a + b), nE (a + b)) by unfold reckonF; rw [if_pos k3])
    subst k3
    clear wa wb h1 h2 HM
    go_enter Try.func43, Try.ntmps43
    go_wp2_with fail
    refine HA.out.mono ?_; rintro e w' ⟨rfl, rfl⟩
    go_wp2_with fail
    refine (okover_any _ _).mono ?_; rintro e w' ⟨rfl, rfl⟩
    go_wp2_with fail
    go_ret2
    exact reckAns_of HE.out (nE_B _) (fun _ => rfl)
  by_cases k4 : k = 4
  · have HE := Lib.hid (show reckonF k a b = (nV (a - b), nE (a - b)) by unfold reckonF; rw [if_neg k3, if_pos k4])
    subst k4
    clear h1 h2 HM HA k3
    obtain ⟨X, hX⟩ : ∃ X, IntKind.i64.wrap (a - b) = X := ⟨_, rfl⟩
    have hX2 := hX
    rw [IntKind.wrap_i64] at hX2
    by_cases h : I64 (a - b)
    · have H := Lib.hid h
      unfold I64 at wa wb h
      have hx3 : X = a - b := by omega
      have HX3 := Lib.hid hx3
      by_cases hb : 0 < b
      · have hxa : X < a := by omega
        clear hX2 hx3 h wa wb
        go_enter Try.func43, Try.ntmps43
        go_wp2_with fail
        refine (okover_any _ _).mono ?_; rintro e w' ⟨rfl, rfl⟩
        go_wp2_with fail
        go_ret2
        exact reckAns_of HE.out (nE_in H.out).symm (fun _ => by rw [HX3.out]; exact (nV_in H.out).symm)
      · have hxa : ¬ X < a := by omega
        clear hX2 hx3 h wa wb
        go_enter Try.func43, Try.ntmps43
        go_wp2_with fail
        refine (okover_any _ _).mono ?_; rintro e w' ⟨rfl, rfl⟩
        go_wp2_with fail
        go_ret2
        exact reckAns_of HE.out (nE_in H.out).symm (fun _ => by rw [HX3.out]; exact (nV_in H.out).symm)
    · have H := Lib.hid h
      unfold I64 at wa wb h
      by_cases hb : 0 < b
      · have hxa : ¬ X < a := by omega
        clear hX2 h wa wb
        go_enter Try.func43, Try.ntmps43
        go_wp2_with fail
        refine (okover_any _ _).mono ?_; rintro e w' ⟨rfl, rfl⟩
        go_wp2_with fail
        go_ret2
        exact reckAns_of HE.out (nE_out H.out).symm (fun h => by rw [nE_out H.out] at h; cases h)
      · have hxa : X < a := by omega
        clear hX2 h wa wb
        go_enter Try.func43, Try.ntmps43
        go_wp2_with fail
        refine (okover_any _ _).mono ?_; rintro e w' ⟨rfl, rfl⟩
        go_wp2_with fail
        go_ret2
        exact reckAns_of HE.out (nE_out H.out).symm (fun h => by rw [nE_out H.out] at h; cases h)
  by_cases k5 : k = 5
  · have HE := Lib.hid (show reckonF k a b = (nV (a * b), nE (a * b)) by unfold reckonF; rw [if_neg k3, if_neg k4, if_pos k5])
    subst k5
    clear wa wb h1 h2 HA
    go_enter Try.func43, Try.ntmps43
    go_wp2_with fail
    refine HM.out.mono ?_; rintro e w' ⟨rfl, rfl⟩
    go_wp2_with fail
    refine (okover_any _ _).mono ?_; rintro e w' ⟨rfl, rfl⟩
    go_wp2_with fail
    go_ret2
    exact reckAns_of HE.out (nE_B _) (fun _ => rfl)
  clear HA HM
  have HEZ : Hid (b = 0 → reckonF k a b = (0, 4)) := Lib.hid (fun hb => by
    unfold reckonF divF modF; rw [if_neg k3, if_neg k4, if_neg k5, hb]; simp
    omega)
  by_cases hb : b = 0
  · have HE := Lib.hid (HEZ.out hb)
    subst hb
    clear HEZ wa wb
    rcases (show k = 6 ∨ k = 7 by omega) with rfl | rfl
    · go_enter Try.func43, Try.ntmps43
      go_wp2_with fail
      go_ret2
      exact reckAns_of HE.out rfl (fun h => by cases h)
    · go_enter Try.func43, Try.ntmps43
      go_wp2_with fail
      go_ret2
      exact reckAns_of HE.out rfl (fun h => by cases h)
  clear HEZ
  by_cases k6 : k = 6
  · have HE := Lib.hid (show reckonF k a b = (if a = -9223372036854775808 ∧ b = -1 then (0, 3) else (a.tdiv b, 0)) by unfold reckonF divF; rw [if_neg k3, if_neg k4, if_neg k5, if_pos k6, if_neg hb])
    subst k6
    by_cases hm : b = -1
    · subst hm
      by_cases ha : a = -9223372036854775808
      · subst ha
        clear wa wb
        go_enter Try.func43, Try.ntmps43
        go_wp2_with fail
        refine (okover_any _ _).mono ?_; rintro e w' ⟨rfl, rfl⟩
        go_wp2_with fail
        go_ret2
        exact reckAns_of (r := (0, 3)) (by rw [HE.out]; rfl) rfl (fun h => by cases h)
      · have hw : IntKind.i64.wrap (-a) = -a := by rw [IntKind.wrap_i64]; unfold I64 at wa; omega
        have HAN := Lib.hid ha
        have hbn : (a != -9223372036854775808) = true := by simp [ha]
        clear wa wb ha
        go_enter Try.func43, Try.ntmps43
        go_wp2_with fail
        refine (okover_any _ _).mono ?_; rintro e w' ⟨rfl, rfl⟩
        go_wp2_with fail
        go_ret2
        exact reckAns_of (r := (-a, 0)) (by rw [HE.out, if_neg (fun h => HAN.out h.1)]; simp) rfl (fun _ => rfl)
    · have HBN := Lib.hid hm
      have hw : IntKind.i64.wrap (a.tdiv b) = a.tdiv b := by have h := tdiv_in wa (fun h => hm h.2); unfold I64 at h; rw [IntKind.wrap_i64]; omega
      clear wa wb
      go_enter Try.func43, Try.ntmps43
      go_wp2_with fail
      go_ret2
      exact reckAns_of (r := (a.tdiv b, 0)) (by rw [HE.out, if_neg (fun h => HBN.out h.2)]) rfl (fun _ => rfl)
  obtain rfl : k = 7 := by omega
  have HE := Lib.hid (show reckonF 7 a b = (a.tmod b, 0) by unfold reckonF modF; simp [hb])
  by_cases hm : b = -1
  · subst hm
    clear wa wb
    go_enter Try.func43, Try.ntmps43
    go_wp2_with fail
    go_ret2
    exact reckAns_of HE.out rfl (fun _ => by simp)
  · clear wa wb
    go_enter Try.func43, Try.ntmps43
    go_wp2_with fail
    go_ret2
    exact reckAns_of HE.out rfl (fun _ => rfl)
end Go.Proofs.Ytbndmmfpoljeaaa
