/- Package series: behind, At, Last, Add. -/
import Derived.Test.YtlcpnlmfnllgmaaConcatSmp
import Derived.Test.YtlcpnlmfnllgmaaBook
import Derived.RegionTactic
import Derived.Deep.DeepCutAuto
namespace Go.Proofs.Ytlcpnlmfnllgmaa
open Go.ChangeShapes Go.WideShapes Go.ChangeAt Go.RowKit
set_option linter.unusedVariables false
set_option maxRecDepth 100000
/-- A series lies in block g, its samples in a row of their own. -/
def SerAt (ss : List (Int × Int)) (w : World) (g : Nat) (v : Value) : Prop := Blk w g 25 [v] ∧ w.ownsRow (g + 1) 30 2 v ss.length (smps ss)
theorem SerAt.below {ss : List (Int × Int)} {w w' : World} {g : Nat} {v : Value} (h : SerAt ss w g v) (hb : Below w.heap.size w w') : SerAt ss w' g v := ⟨h.1.below hb h.1.lt, own_below h.2 hb (Nat.le_refl _)⟩
theorem SerAt.drewN {ss : List (Int × Int)} {w : World} {g : Nat} {v : Value} (h : SerAt ss w g v) (m : Nat) : SerAt ss (w.drewN m) g v := h
/-- How many samples are not behind t. -/
def nBeh (ss : List (Int × Int)) (t : Int) : Nat := (ss.takeWhile fun x => decide (x.1 ≤ t)).length
theorem nBeh_of {ss : List (Int × Int)} {t : Int} {k : Nat} (hk : k ≤ ss.length) (h1 : ∀ i (h : i < ss.length), i < k → ss[i].1 ≤ t) (h2 : ∀ h : k < ss.length, t < ss[k].1) : nBeh ss t = k := by
  induction ss generalizing k with
  | nil => have : k = 0 := by simpa using hk
           subst this; rfl
  | cons x ss ih =>
    cases k with
    | zero =>
      have := h2 (by simp)
      simp only [List.getElem_cons_zero] at this
      unfold nBeh
      rw [List.takeWhile_cons_of_neg (by simp; omega)]; rfl
    | succ k =>
      have h0 := h1 0 (by simp) (by omega)
      simp only [List.getElem_cons_zero] at h0
      have := ih (k := k) (by simpa using hk) (fun i h hi => h1 (i + 1) (by rw [List.length_cons]; omega) (by omega)) (fun h => h2 (by rw [List.length_cons]; omega))
      unfold nBeh at this ⊢
      rw [List.takeWhile_cons_of_pos (by simp; omega), List.length_cons, this]
theorem nBeh_le (ss : List (Int × Int)) (t : Int) : nBeh ss t ≤ ss.length := by unfold nBeh; exact (List.takeWhile_sublist _).length_le
theorem behind_any (ss : List (Int × Int)) (g : Nat) (v : Value) (t : Int) (w : World) (h : SerAt ss w g v) (hn : ss.length ≤ 1000000) :
    Calls Try.prog 19 #[.pointer (some ⟨g, 0, none⟩), .int .i64 t] w fun e w' => e = .returned (.int .i64 (nBeh ss t)) ∧ w = w' := by
  obtain ⟨A, c, rfl, hc1, hc2⟩ := own_slice h.2
  have hc0 : w.cell? ⟨g, 0, none⟩ = some (.slice A ss.length c) := h.1.cell 0
  have hg := h.1.lt
  have HS := Lib.hid (Sees.of_own h.2)
  clear h
  generalize hm : ss.length = m at *
  have HM := Lib.hid hm; clear hm
  go_enter Try.func19, Try.ntmps19
  go_wp2_with fail
  go_loop [5] (fun x => ∃ k : Nat, k ≤ m ∧ x = .int .i64 k ∧ ∀ i (h : i < ss.length), i < k → ss[i].1 ≤ t) (fun x => m - (intOf x).toNat)
  case atStart => exact ⟨0, Nat.zero_le _, rfl, fun i h h0 => by omega⟩
  case round =>
    obtain ⟨k, hk, rfl, hall⟩ := hrel
    have HA := Lib.hid hall; clear hall
    by_cases hlt : k < m
    · obtain ⟨ad, hkl, rfl, c0, c1⟩ := HS.out.smp hlt
      have hx : Hid (ss[k].1 = ss[k].1) := rfl
      by_cases hle : ss[k].1 ≤ t
      · have hnext : Hid (∀ i (h : i < ss.length), i < k + 1 → ss[i].1 ≤ t) := fun i h hi => by
          rcases Nat.lt_or_ge i k with h1 | h1
          · exact HA.out i h h1
          · have : i = k := by omega
            subst this; exact hle
        generalize ss[k].1 = y at *
        generalize ss[k].2 = z at *
        clear hx
        go_wp2_with fail
        go_round
        case rel => exact ⟨k + 1, by omega, by go_num, hnext.out⟩
        case measure => simp [intOf]; omega
      · have hb := nBeh_of (t := t) (Nat.le_of_lt hkl) HA.out (fun h => by omega)
        have HBB := Lib.hid hb
        generalize ss[k].1 = y at *
        generalize ss[k].2 = z at *
        clear hx hb
        go_wp2_with fail
        go_ret
        exact ⟨ret_int (by rw [HBB.out]), rfl⟩
    · obtain rfl : k = m := by omega
      have hb := nBeh_of (t := t) (k := k) (by have := HM.out; omega) HA.out (fun h => by have := HM.out; omega)
      have HBB := Lib.hid hb
      clear hb
      go_wp2_with fail
      go_ret
      exact ⟨ret_int (by rw [HBB.out]), rfl⟩
/-- The value at t, looking back. -/
def atF (ss : List (Int × Int)) (t look : Int) : Int × Bool :=
  match nBeh ss t with
  | 0 => (0, false)
  | j + 1 => if (ss.getD j (0, 0)).1 ≤ t - look then (0, false) else ((ss.getD j (0, 0)).2, true)
theorem atF_zero {ss : List (Int × Int)} {t look : Int} (h : nBeh ss t = 0) : atF ss t look = (0, false) := by unfold atF; rw [h]
theorem atF_succ {ss : List (Int × Int)} {t look : Int} {j : Nat} (h : nBeh ss t = j + 1) (hj : j < ss.length) : atF ss t look = if ss[j].1 ≤ t - look then (0, false) else (ss[j].2, true) := by
  unfold atF
  rw [h]
  simp [List.getD_eq_getElem?_getD, List.getElem?_eq_getElem hj]
theorem at_any (ss : List (Int × Int)) (g : Nat) (v : Value) (t look : Int) (w : World) (h : SerAt ss w g v) (hn : ss.length ≤ 1000000) (ht : -4611686018427387904 ≤ t ∧ t ≤ 4611686018427387903) (hl : -4611686018427387904 ≤ look ∧ look ≤ 4611686018427387903) :
    Calls Try.prog 9 #[.pointer (some ⟨g, 0, none⟩), .int .i64 t, .int .i64 look] w fun e w' => e = .returned (.tuple #[.int .i64 (atF ss t look).1, .bool (atF ss t look).2]) ∧ w = w' := by
  have HB := Lib.hid (behind_any ss g v t w h hn)
  obtain ⟨A, c, rfl, hc1, hc2⟩ := own_slice h.2
  have hc0 : w.cell? ⟨g, 0, none⟩ = some (.slice A ss.length c) := h.1.cell 0
  have hg := h.1.lt
  have HS := Lib.hid (Sees.of_own h.2)
  have hle := nBeh_le ss t
  clear h
  cases hk : nBeh ss t with
  | zero =>
    rw [atF_zero hk]
    have HK := Lib.hid hk; clear hk
    rw [HK.out] at HB
    go_enter Try.func9, Try.ntmps9
    go_wp2_with fail
    refine HB.out.mono ?_; rintro e w' ⟨rfl, rfl⟩
    go_wp2_with fail
    go_ret2
    exact ⟨rfl, rfl⟩
  | succ j =>
    have hj : j < ss.length := by omega
    rw [atF_succ hk hj]
    rw [hk, show (((j + 1 : Nat)) : Int) = (j : Int) + 1 by omega] at HB
    obtain ⟨ad, hjl, rfl, c0, c1⟩ := HS.out.smp hj
    clear hk
    generalize ss[j].1 = y at *
    generalize ss[j].2 = z at *
    generalize ss.length = m at *
    have hj0 : ((j : Int) + 1 == 0) = false := by simp; omega
    by_cases hy : y ≤ t - look
    · rw [if_pos hy]
      go_enter Try.func9, Try.ntmps9
      go_wp2_with fail
      refine HB.out.mono ?_; rintro e w' ⟨rfl, rfl⟩
      go_wp2_with fail
      go_ret2
      exact ⟨rfl, rfl⟩
    · rw [if_neg hy]
      go_enter Try.func9, Try.ntmps9
      go_wp2_with fail
      refine HB.out.mono ?_; rintro e w' ⟨rfl, rfl⟩
      go_wp2_with fail
      go_ret2
      exact ⟨rfl, rfl⟩
/-- The time of the last sample. -/
def lastT (ss : List (Int × Int)) : Int := (ss.getD (ss.length - 1) (-1, 0)).1
theorem last_none (g : Nat) (v : Value) (w : World) (h : SerAt [] w g v) :
    Calls Try.prog 13 #[.pointer (some ⟨g, 0, none⟩)] w fun e w' => e = .returned (.tuple #[.agg #[.int .i64 0, .int .i64 0], .bool false]) ∧ Below w.heap.size w w' := by
  obtain ⟨A, c, rfl, hc1, hc2⟩ := own_slice h.2
  have hc0 : w.cell? ⟨g, 0, none⟩ = some (.slice A 0 c) := h.1.cell 0
  have hg := h.1.lt
  clear h
  go_enter Try.func13, Try.ntmps13
  go_wp2_with fail
  exact bodyPost_ret (v := .tuple #[.agg #[.int .i64 0, .int .i64 0], .bool false]) (by simp [results, Try.results13, go_sem]) rfl ⟨rfl, by repeat (first | exact Below.refl _ _ | refine Below.setCell ?_ (by simp) _ | refine Below.drew ?_ | refine Below.alloc ?_ (by simp) _ | refine Below.alloc ?_ (by simp; omega) _)⟩
theorem last_some (ss : List (Int × Int)) (j : Nat) (g : Nat) (v : Value) (w : World) (h : SerAt ss w g v) (hj : ss.length = j + 1) (hn : ss.length ≤ 1000000) (y z : Int) (hy : ss[j]? = some (y, z)) :
    Calls Try.prog 13 #[.pointer (some ⟨g, 0, none⟩)] w fun e w' => e = .returned (.tuple #[.agg #[.int .i64 y, .int .i64 z], .bool true]) ∧ Below w.heap.size w w' := by
  obtain ⟨A, c, rfl, hc1, hc2⟩ := own_slice h.2
  have hc0 : w.cell? ⟨g, 0, none⟩ = some (.slice A ss.length c) := h.1.cell 0
  have hg := h.1.lt
  have HS := Lib.hid (Sees.of_own h.2)
  obtain ⟨ad, hjl, rfl, c0, c1⟩ := HS.out.smp (show j < ss.length by omega)
  have hyz : ss[j] = (y, z) := by rw [List.getElem?_eq_getElem hjl] at hy; injection hy
  rw [hyz] at c0 c1
  have hal : (ad.add (j * 2)).block < w.heap.size := World.block_lt_of_cell? w _ c0
  have hjn : j ≤ 1000000 := by omega
  rw [hj] at hc0 hc1
  clear h hy hyz hjl HS hj hn
  go_enter Try.func13, Try.ntmps13
  go_wp2_with fail
  go_region
  all_goals
    go_wp2_with fail
    exact bodyPost_ret (v := .tuple #[.agg #[.int .i64 y, .int .i64 z], .bool true]) (by simp [results, Try.results13, go_sem]) rfl ⟨rfl, by repeat (first | exact Below.refl _ _ | refine Below.setCell ?_ (by simp) _ | refine Below.drew ?_ | refine Below.alloc ?_ (by simp) _ | refine Below.alloc ?_ (by simp; omega) _)⟩
end Go.Proofs.Ytlcpnlmfnllgmaa
