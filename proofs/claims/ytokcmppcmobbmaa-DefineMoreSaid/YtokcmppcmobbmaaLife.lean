/- Package life: an alert's step, by plain functions. -/
import Derived.Test.YtokcmppcmobbmaaNum
import Derived.Test.YtokcmppcmobbmaaMem
import Derived.Deep.RegionWith
import Derived.Deep.QuietTactic
import Derived.BigQuiet
import Derived.Deep.DeepCutAuto
namespace Go.Proofs.Ytokcmppcmobbmaa
open Go.ChangeShapes Go.WideShapes Go.ChangeAt Go.RowKit
set_option linter.unusedVariables false

/-- The most of a step and one. -/
def mx1 (a : Int) : Int := if 1 ≤ a then a else 1
theorem mx1_pos (a : Int) : 1 ≤ mx1 a := by unfold mx1; split <;> omega
theorem mx1_in {a : Int} (h : I64 a) : I64 (mx1 a) := by unfold mx1; split; exact h; unfold I64; omega
def nLeast (step long : Int) : Int := nUp long (mx1 step)
def nMost (step keep : Int) : Int := if keep < 0 then -1 else keep / mx1 step

theorem least_any (step long : Int) (w : World) (ws : I64 step) (wl : I64 long) :
    Calls Try.prog 17 #[.int .i64 step, .int .i64 long] w fun e w' => e = .returned (.int .i64 (nLeast step long)) ∧ w = w' := by
  have hup : ∀ s w, I64 s → 1 ≤ s → Calls Try.prog 27 #[.int .i64 long, .int .i64 s] w fun e w' => e = .returned (.int .i64 (nUp long s)) ∧ w = w' := by
    intro s w hs h1
    by_cases h0 : long < 0
    · have e : nUp long s = 0 := by unfold nUp; rw [if_pos (.inl h0)]
      rw [e]; exact num_up_none long s w (.inl h0)
    · exact num_up_any long s w wl hs (by omega) h1
  have HU := Lib.hid hup; clear hup
  by_cases h1 : 1 ≤ step
  · have e : nLeast step long = nUp long step := by unfold nLeast mx1; rw [if_pos h1]
    rw [e]; have HW := Lib.hid ws; clear e ws wl
    go_enter Try.func17, Try.ntmps17
    go_wp2_with fail
    refine (HU.out step w HW.out h1).mono ?_; rintro e w' ⟨rfl, rfl⟩
    go_wp2_with fail
    go_ret
    exact ⟨rfl, rfl⟩
  · have e : nLeast step long = nUp long 1 := by unfold nLeast mx1; rw [if_neg h1]
    rw [e]; clear e ws wl
    go_enter Try.func17, Try.ntmps17
    go_wp2_with fail
    refine (HU.out 1 w (by unfold I64; omega) (by omega)).mono ?_; rintro e w' ⟨rfl, rfl⟩
    go_wp2_with fail
    go_ret
    exact ⟨rfl, rfl⟩

theorem most_any (step keep : Int) (w : World) (ws : I64 step) (wk : I64 keep) :
    Calls Try.prog 18 #[.int .i64 step, .int .i64 keep] w fun e w' => e = .returned (.int .i64 (nMost step keep)) ∧ w = w' := by
  by_cases h0 : keep < 0
  · have e : nMost step keep = -1 := by unfold nMost; rw [if_pos h0]
    rw [e]; clear ws wk e
    go_enter Try.func18, Try.ntmps18
    go_wp2
    go_ret
    exact ⟨rfl, rfl⟩
  · by_cases h1 : 1 ≤ step
    · have e : nMost step keep = keep / step := by unfold nMost mx1; rw [if_neg h0, if_pos h1]
      rw [e]; clear e
      have h2 : 0 ≤ keep / step := Int.ediv_nonneg (by omega) (by omega)
      have h3 : keep / step ≤ keep := Int.ediv_le_self _ (by omega)
      unfold I64 at ws wk
      go_enter Try.func18, Try.ntmps18
      go_wp2
      go_ret
      exact ⟨rfl, rfl⟩
    · have e : nMost step keep = keep := by unfold nMost mx1; rw [if_neg h0, if_neg h1]; omega
      rw [e]; clear e
      unfold I64 at ws wk
      go_enter Try.func18, Try.ntmps18
      go_wp2
      go_ret
      exact ⟨ret_int (by simp), rfl⟩

/-- An alert's state, the tick since which it holds, the last one at which it held. -/
structure Lf where
  st : Int
  since : Int
  last : Int
deriving DecidableEq
def Lf.val (l : Lf) : Value := .agg #[.int .i64 l.st, .int .i64 l.since, .int .i64 l.last]
def Lf.zero : Lf := ⟨0, 0, 0⟩
def Lf.held (l : Lf) (tick wait : Int) : Lf :=
  if l.st = 2 then ⟨2, l.since, tick⟩ else
  if l.st = 1 then (if wait ≤ tick - l.since then ⟨2, l.since, tick⟩ else ⟨1, l.since, tick⟩) else
  if wait ≤ 0 then ⟨2, tick, tick⟩ else ⟨1, tick, tick⟩
def Lf.next (l : Lf) (tick step long keep : Int) (holds : Bool) : Lf :=
  if holds then l.held tick (nLeast step long) else if l.st = 2 ∧ tick - l.last ≤ nMost step keep then l else .zero
/-- Ticks that an int can reckon with. -/
def Tk (a : Int) : Prop := -1099511627776 ≤ a ∧ a ≤ 1099511627776
def Lf.ok (l : Lf) : Prop := Tk l.since ∧ Tk l.last

theorem held_any (l : Lf) (tick wait : Int) (w : World) (hl : l.ok) (ht : Tk tick) :
    Calls Try.prog 16 #[l.val, .int .i64 tick, .int .i64 wait] w fun e w' => e = .returned (l.held tick wait).val ∧ Below w.heap.size w w' := by
  obtain ⟨s, i, a⟩ := l
  obtain ⟨⟨h1, h2⟩, h3, h4⟩ := hl
  obtain ⟨h5, h6⟩ := ht
  simp only at h1 h2 h3 h4
  by_cases hs : s = 2
  · subst hs
    have e : (Lf.mk 2 i a).held tick wait = ⟨2, i, tick⟩ := by simp [Lf.held]
    rw [e]; unfold Lf.val; clear e
    go_enter Try.func16, Try.ntmps16
    go_wp2
    exact bodyPost_ret (v := .agg #[.int .i64 2, .int .i64 i, .int .i64 tick]) (by simp [results, Try.results16, go_sem]) rfl ⟨rfl, by repeat (first | exact Below.refl _ _ | (refine Below.setCell ?_ (by simp) _) | (refine Below.alloc ?_ (by simp; omega) _) | (refine Below.alloc ?_ (by simp) _))⟩
  by_cases hp : s = 1
  · subst hp
    by_cases hw : wait ≤ tick - i
    · have e : (Lf.mk 1 i a).held tick wait = ⟨2, i, tick⟩ := by simp [Lf.held, hw]
      rw [e]; unfold Lf.val; clear e
      go_enter Try.func16, Try.ntmps16
      go_wp2
      exact bodyPost_ret (v := .agg #[.int .i64 2, .int .i64 i, .int .i64 tick]) (by simp [results, Try.results16, go_sem]) rfl ⟨rfl, by repeat (first | exact Below.refl _ _ | (refine Below.setCell ?_ (by simp) _) | (refine Below.alloc ?_ (by simp; omega) _) | (refine Below.alloc ?_ (by simp) _))⟩
    · have e : (Lf.mk 1 i a).held tick wait = ⟨1, i, tick⟩ := by simp [Lf.held, hw]
      rw [e]; unfold Lf.val; clear e
      go_enter Try.func16, Try.ntmps16
      go_wp2
      exact bodyPost_ret (v := .agg #[.int .i64 1, .int .i64 i, .int .i64 tick]) (by simp [results, Try.results16, go_sem]) rfl ⟨rfl, by repeat (first | exact Below.refl _ _ | (refine Below.setCell ?_ (by simp) _) | (refine Below.alloc ?_ (by simp; omega) _) | (refine Below.alloc ?_ (by simp) _))⟩
  · have hb : (s == 2) = false := by simpa using hs
    have hb2 : (s == 1) = false := by simpa using hp
    by_cases hw : wait ≤ 0
    · have e : (Lf.mk s i a).held tick wait = ⟨2, tick, tick⟩ := by simp [Lf.held, hw, hs, hp]
      rw [e]; unfold Lf.val; clear e
      go_enter Try.func16, Try.ntmps16
      go_wp2
      exact bodyPost_ret (v := .agg #[.int .i64 2, .int .i64 tick, .int .i64 tick]) (by simp [results, Try.results16, go_sem]) rfl ⟨rfl, by repeat (first | exact Below.refl _ _ | (refine Below.setCell ?_ (by simp) _) | (refine Below.alloc ?_ (by simp; omega) _) | (refine Below.alloc ?_ (by simp) _))⟩
    · have e : (Lf.mk s i a).held tick wait = ⟨1, tick, tick⟩ := by simp [Lf.held, hw, hs, hp]
      rw [e]; unfold Lf.val; clear e
      go_enter Try.func16, Try.ntmps16
      go_wp2
      exact bodyPost_ret (v := .agg #[.int .i64 1, .int .i64 tick, .int .i64 tick]) (by simp [results, Try.results16, go_sem]) rfl ⟨rfl, by repeat (first | exact Below.refl _ _ | (refine Below.setCell ?_ (by simp) _) | (refine Below.alloc ?_ (by simp; omega) _) | (refine Below.alloc ?_ (by simp) _))⟩

theorem below_drewN' {B : Nat} {a w : World} (h : Below B a w) (n : Nat) : Below B a (w.drewN n) := ⟨h.os, h.tape, h.output, h.size, h.block⟩
theorem bcell {W w1 : World} (hb : Below W.heap.size W w1) : (∀ b o, b < W.heap.size → w1.cell? ⟨b, o, none⟩ = W.cell? ⟨b, o, none⟩) ∧ (∀ b o, b < W.heap.size → w1.frozen? ⟨b, o, none⟩ = W.frozen? ⟨b, o, none⟩) :=
  ⟨fun b o h => hb.cell (p := ⟨b, o, none⟩) h, fun b o h => hb.frozen (p := ⟨b, o, none⟩) h⟩
theorem next_held (l : Lf) (tick step long keep : Int) (w : World) (hl : l.ok) (ht : Tk tick) (ws : I64 step) (wl : I64 long) :
    Calls Try.prog 9 #[l.val, .int .i64 tick, .int .i64 step, .int .i64 long, .int .i64 keep, .bool true] w fun e w' => e = .returned (l.next tick step long keep true).val ∧ Below w.heap.size w w' := by
  have e : l.next tick step long keep true = l.held tick (nLeast step long) := by simp [Lf.next]
  rw [e]; clear e
  have HL := Lib.hid hl; have HT := Lib.hid ht; have HS := Lib.hid ws; have HG := Lib.hid wl; clear hl ht ws wl
  have HC := Lib.hid fun w => held_any l tick (nLeast step long) w HL.out HT.out
  generalize l.held tick (nLeast step long) = r at *
  obtain ⟨s, i, a⟩ := l
  obtain ⟨s', i', a'⟩ := r
  simp only [Lf.val] at *
  go_enter Try.func9, Try.ntmps9
  go_wp2
  go_region_with (first
    | (go_at_call 17; refine (least_any step long _ HS.out HG.out).mono ?_; rintro e w' ⟨rfl, rfl⟩)
    | (go_at_call 16; refine (HC.out _).mono ?_; rintro e w' ⟨rfl, hb⟩; obtain ⟨hc, hf⟩ := bcell hb; simp at hc hf))
  all_goals
    go_wp2
    refine bodyPost_ret (v := .agg #[.int .i64 s', .int .i64 i', .int .i64 a']) (by simp [results, Try.results9, go_sem, hc]) rfl ⟨rfl, ?_⟩
    refine Below.setCell (Below.setCell (Below.setCell (Below.trans ?_ (hb.mono (by simp; omega))) (by simp) _) (by simp) _) (by simp) _
    repeat (first | exact Below.refl _ _ | refine Below.drew ?_ | refine Below.alloc ?_ (by simp) _ | refine Below.alloc ?_ (by simp; omega) _)
theorem next_not (l : Lf) (tick step long keep : Int) (w : World) (hl : l.ok) (ht : Tk tick) (ws : I64 step) (wk : I64 keep) :
    Calls Try.prog 9 #[l.val, .int .i64 tick, .int .i64 step, .int .i64 long, .int .i64 keep, .bool false] w fun e w' => e = .returned (l.next tick step long keep false).val ∧ Below w.heap.size w w' := by
  have HL := Lib.hid hl; have HT := Lib.hid ht; have HS := Lib.hid ws; have HG := Lib.hid wk
  obtain ⟨s, i, a⟩ := l
  obtain ⟨⟨h1, h2⟩, h3, h4⟩ := hl
  obtain ⟨h5, h6⟩ := ht
  simp only at h1 h2 h3 h4
  clear ws wk
  by_cases hs : s = 2
  · subst hs
    generalize hm : nMost step keep = m
    by_cases hk : tick - a ≤ m
    · have e : (Lf.mk 2 i a).next tick step long keep false = ⟨2, i, a⟩ := by simp [Lf.next, hm, hk]
      have HM := Lib.hid hm; clear hm
      rw [e]; simp only [Lf.val]; clear e
      have hc : Hid (∀ w, Calls Try.prog 18 #[.int .i64 step, .int .i64 keep] w fun e w' => e = .returned (.int .i64 m) ∧ w = w') := fun w => HM.out ▸ most_any step keep w HS.out HG.out
      go_enter Try.func9, Try.ntmps9
      go_wp2
      go_quiet ((go_at_call 18; exact calls_quiet (hc.out _)))
      go_wp2
      refine bodyPost_ret (v := .agg #[.int .i64 2, .int .i64 i, .int .i64 a]) (by simp [results, Try.results9, go_sem]) rfl ⟨rfl, ?_⟩
      repeat (first | exact Below.refl _ _ | refine Below.setCell ?_ (by simp) _ | refine below_drewN' ?_ _ | refine Below.drew ?_ | refine Below.alloc ?_ (by simp) _ | refine Below.alloc ?_ (by simp; omega) _)
    · have e : (Lf.mk 2 i a).next tick step long keep false = ⟨0, 0, 0⟩ := by simp [Lf.next, hm, hk, Lf.zero]
      have HM := Lib.hid hm; clear hm
      rw [e]; simp only [Lf.val]; clear e
      have hc : Hid (∀ w, Calls Try.prog 18 #[.int .i64 step, .int .i64 keep] w fun e w' => e = .returned (.int .i64 m) ∧ w = w') := fun w => HM.out ▸ most_any step keep w HS.out HG.out
      go_enter Try.func9, Try.ntmps9
      go_wp2
      go_quiet ((go_at_call 18; exact calls_quiet (hc.out _)))
      go_wp2
      refine bodyPost_ret (v := .agg #[.int .i64 0, .int .i64 0, .int .i64 0]) (by simp [results, Try.results9, go_sem]) rfl ⟨rfl, ?_⟩
      repeat (first | exact Below.refl _ _ | refine Below.setCell ?_ (by simp) _ | refine below_drewN' ?_ _ | refine Below.drew ?_ | refine Below.alloc ?_ (by simp) _ | refine Below.alloc ?_ (by simp; omega) _)
  · have hb : (s == 2) = false := by simpa using hs
    have e : (Lf.mk s i a).next tick step long keep false = ⟨0, 0, 0⟩ := by simp [Lf.next, hs, Lf.zero]
    rw [e]; simp only [Lf.val]; clear e hs
    go_enter Try.func9, Try.ntmps9
    go_wp2
    go_quiet (fail)
    go_wp2
    refine bodyPost_ret (v := .agg #[.int .i64 0, .int .i64 0, .int .i64 0]) (by simp [results, Try.results9, go_sem]) rfl ⟨rfl, ?_⟩
    repeat (first | exact Below.refl _ _ | refine Below.setCell ?_ (by simp) _ | refine below_drewN' ?_ _ | refine Below.drew ?_ | refine Below.alloc ?_ (by simp) _ | refine Below.alloc ?_ (by simp; omega) _)
theorem next_any (l : Lf) (tick step long keep : Int) (holds : Bool) (w : World) (hl : l.ok) (ht : Tk tick) (ws : I64 step) (wl : I64 long) (wk : I64 keep) :
    Calls Try.prog 9 #[l.val, .int .i64 tick, .int .i64 step, .int .i64 long, .int .i64 keep, .bool holds] w fun e w' => e = .returned (l.next tick step long keep holds).val ∧ Below w.heap.size w w' := by
  cases holds
  · exact next_not l tick step long keep w hl ht ws wk
  · exact next_held l tick step long keep w hl ht ws wl
theorem next_ok {l : Lf} {tick step long keep : Int} {holds : Bool} (hl : l.ok) (ht : Tk tick) : (l.next tick step long keep holds).ok := by
  unfold Lf.next Lf.held
  have hz : Tk 0 := ⟨by omega, by omega⟩
  obtain ⟨h1, h2⟩ := hl
  repeat' (first | exact ⟨h1, ht⟩ | exact ⟨ht, ht⟩ | exact ⟨h1, h2⟩ | exact ⟨hz, hz⟩ | split)
end Go.Proofs.Ytokcmppcmobbmaa
