/- The walk of GroupQuiet. -/
import Derived.Test.YtjcbigkmmjcmdaaGroupRuns
import Derived.Test.YtjcbigkmmjcmdaaBook
namespace Go.Proofs.Ytjcbigkmmjcmdaa
open Go.ChangeShapes Go.WideShapes Go.ChangeAt Go.RowKit
set_option linter.unusedVariables false
set_option maxRecDepth 100000
/-- The one alert. -/
def oneA (b : Bool) : List ByteArray := if b then [⟨#[97]⟩] else []
theorem new_still (wt iv rp t : Int) : (GS.new wt iv rp).tick t [] = (GS.new wt iv rp, [], false) := by simp [GS.tick, GS.new]
/-- Alerts till G, that is no later than the wait. -/
def bSt (wt iv rp G t : Int) : GS := if 1 ≤ t ∧ t ≤ wt ∧ 1 ≤ G then ⟨wt, iv, rp, 1, 0, wt, 0, []⟩ else GS.new wt iv rp
theorem bSt_step (wt iv rp G t : Int) (h0 : 0 ≤ t) (h1 : 0 ≤ G) (h2 : G ≤ wt) : (bSt wt iv rp G t).tick t (oneA (decide (t < G))) = (bSt wt iv rp G (t + 1), [], false) := by
  by_cases hc : 1 ≤ t ∧ t ≤ wt ∧ 1 ≤ G
  · have e : bSt wt iv rp G t = ⟨wt, iv, rp, 1, 0, wt, 0, []⟩ := if_pos hc
    rw [e]
    by_cases hw : t < wt
    · have e2 : bSt wt iv rp G (t + 1) = ⟨wt, iv, rp, 1, 0, wt, 0, []⟩ := if_pos (by omega)
      rw [e2]
      simp [GS.tick, GS.wakes, hw]
    · have e2 : bSt wt iv rp G (t + 1) = GS.new wt iv rp := if_neg (by omega)
      have e3 : decide (t < G) = false := decide_eq_false (by omega)
      rw [e2, e3]
      simp [GS.tick, GS.wakes, hw, oneA]
  · have e : bSt wt iv rp G t = GS.new wt iv rp := if_neg hc
    rw [e]
    by_cases hg : t < G
    · obtain rfl : t = 0 := by omega
      have e2 : bSt wt iv rp G (0 + 1) = ⟨wt, iv, rp, 1, 0, wt, 0, []⟩ := if_pos (by omega)
      have hw : 0 < wt := by omega
      rw [e2, decide_eq_true hg]
      simp [GS.tick, GS.wakes, GS.new, hw, oneA]
    · have e2 : bSt wt iv rp G (t + 1) = GS.new wt iv rp := if_neg (by omega)
      rw [e2, decide_eq_false hg]
      exact new_still wt iv rp t
/-- Alerts till the wait. -/
def cSt (wt iv rp t : Int) : GS := if 1 ≤ t ∧ t ≤ wt then ⟨wt, iv, rp, 1, 0, wt, 0, []⟩ else if wt < t ∧ t ≤ wt + iv then ⟨wt, iv, rp, 2, wt, iv, wt, [⟨#[97]⟩]⟩ else GS.new wt iv rp
theorem cSt_step (wt iv rp t : Int) (h0 : 0 ≤ t) (h1 : 0 ≤ wt) (h2 : 1 ≤ iv) :
    (cSt wt iv rp t).tick t (oneA (decide (t ≤ wt))) = (cSt wt iv rp (t + 1), oneA (decide (t = wt)), decide (t = wt) || decide (t = wt + iv)) := by
  by_cases hc : 1 ≤ t ∧ t ≤ wt
  · have e : cSt wt iv rp t = ⟨wt, iv, rp, 1, 0, wt, 0, []⟩ := if_pos hc
    rw [e, decide_eq_true hc.2]
    by_cases hw : t < wt
    · have e2 : cSt wt iv rp (t + 1) = ⟨wt, iv, rp, 1, 0, wt, 0, []⟩ := if_pos (by omega)
      rw [e2, decide_eq_false (show ¬ t = wt by omega), decide_eq_false (show ¬ t = wt + iv by omega)]
      simp [GS.tick, GS.wakes, hw, oneA]
    · obtain rfl : t = wt := by omega
      have e2 : cSt t iv rp (t + 1) = ⟨t, iv, rp, 2, t, iv, t, [⟨#[97]⟩]⟩ := by unfold cSt; rw [if_neg (by omega), if_pos (by omega)]
      rw [e2]
      simp [GS.tick, GS.wakes, GS.looks, oneA]
  · by_cases hd : wt < t ∧ t ≤ wt + iv
    · have e : cSt wt iv rp t = ⟨wt, iv, rp, 2, wt, iv, wt, [⟨#[97]⟩]⟩ := by unfold cSt; rw [if_neg hc, if_pos hd]
      rw [e, decide_eq_false (show ¬ t ≤ wt by omega), decide_eq_false (show ¬ t = wt by omega)]
      by_cases hw : t - wt < iv
      · have e2 : cSt wt iv rp (t + 1) = ⟨wt, iv, rp, 2, wt, iv, wt, [⟨#[97]⟩]⟩ := by unfold cSt; rw [if_neg (by omega), if_pos (by omega)]
        rw [e2, decide_eq_false (show ¬ t = wt + iv by omega)]
        simp [GS.tick, GS.wakes, hw, oneA]
      · have e2 : cSt wt iv rp (t + 1) = GS.new wt iv rp := by unfold cSt; rw [if_neg (by omega), if_neg (by omega)]
        rw [e2, decide_eq_true (show t = wt + iv by omega)]
        simp [GS.tick, GS.wakes, hw, oneA]
    · have e : cSt wt iv rp t = GS.new wt iv rp := by unfold cSt; rw [if_neg hc, if_neg hd]
      rw [e]
      by_cases h3 : t ≤ wt
      · obtain rfl : t = 0 := by omega
        rw [decide_eq_true h3, decide_eq_false (show ¬ (0 : Int) = wt + iv by omega)]
        by_cases hw : 0 < wt
        · have e2 : cSt wt iv rp (0 + 1) = ⟨wt, iv, rp, 1, 0, wt, 0, []⟩ := if_pos (by omega)
          rw [e2, decide_eq_false (show ¬ (0 : Int) = wt by omega)]
          simp [GS.tick, GS.wakes, GS.new, hw, oneA]
        · obtain rfl : wt = 0 := by omega
          have e2 : cSt 0 iv rp (0 + 1) = ⟨0, iv, rp, 2, 0, iv, 0, [⟨#[97]⟩]⟩ := by unfold cSt; rw [if_neg (by omega), if_pos (by omega)]
          rw [e2]
          simp [GS.tick, GS.wakes, GS.looks, GS.new, oneA]
      · have e2 : cSt wt iv rp (t + 1) = GS.new wt iv rp := by unfold cSt; rw [if_neg (by omega), if_neg (by omega)]
        rw [e2, decide_eq_false h3, decide_eq_false (show ¬ t = wt by omega), decide_eq_false (show ¬ t = wt + iv by omega)]
        exact new_still wt iv rp t
def wtF (n : Int) : Int := nWithin n 0 30
def ivF (n : Int) : Int := nWithin n 1 20
def rpF (n : Int) : Int := nWithin n 1 40
theorem timing_any (a b c : Int) (w : World) (ha : I64 a) (hb : I64 b) (hc : I64 c) : Calls Try.prog 13 #[.int .i64 a, .int .i64 b, .int .i64 c] w fun e w' => e = .returned (.agg #[.int .i64 (wtF a), .int .i64 (ivF b), .int .i64 (rpF c)]) ∧ Below w.heap.size w w' := by
  have H1 := Lib.hid (fun W => within_any a 0 30 W ha (by omega) (by omega) (by omega))
  have H2 := Lib.hid (fun W => within_any b 1 20 W hb (by omega) (by omega) (by omega))
  have H3 := Lib.hid (fun W => within_any c 1 40 W hc (by omega) (by omega) (by omega))
  rw [show nWithin a 0 30 = wtF a from rfl] at H1
  rw [show nWithin b 1 20 = ivF b from rfl] at H2
  rw [show nWithin c 1 40 = rpF c from rfl] at H3
  generalize wtF a = wt at *
  generalize ivF b = iv at *
  generalize rpF c = rp at *
  go_enter Try.func13, Try.ntmps13
  go_wp2_with fail
  (with_reducible refine (H1.out _).mono ?_); rintro e wq ⟨rfl, rfl⟩
  go_wp2_with fail
  (with_reducible refine (H2.out _).mono ?_); rintro e wq ⟨rfl, rfl⟩
  go_wp2_with fail
  (with_reducible refine (H3.out _).mono ?_); rintro e wq ⟨rfl, rfl⟩
  go_wp2_with fail
  refine bodyPost_ret (v := .agg #[.int .i64 wt, .int .i64 iv, .int .i64 rp]) (by simp [results, Try.results13, go_sem]) rfl ⟨rfl, ?_⟩
  exact (Below.refl _ _).alloc (Nat.le_refl _) _
theorem timing_ok (a b c : Int) : 0 ≤ wtF a ∧ wtF a ≤ 30 ∧ 1 ≤ ivF b ∧ ivF b ≤ 20 ∧ 1 ≤ rpF c ∧ rpF c ≤ 40 ∧ timingOk (wtF a) (ivF b) (rpF c) = true := by
  obtain ⟨h1, h2⟩ := nWithin_in a (lo := 0) (hi := 30) (by omega)
  obtain ⟨h3, h4⟩ := nWithin_in b (lo := 1) (hi := 20) (by omega)
  obtain ⟨h5, h6⟩ := nWithin_in c (lo := 1) (hi := 40) (by omega)
  refine ⟨h1, h2, h3, h4, h5, h6, ?_⟩
  unfold timingOk inB wtF ivF rpF
  simp
  omega
end Go.Proofs.Ytjcbigkmmjcmdaa
