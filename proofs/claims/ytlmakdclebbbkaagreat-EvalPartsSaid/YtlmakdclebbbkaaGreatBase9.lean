/- Texts, merged in one. -/
import Derived.Test.YtlmakdclebbbkaaGreatBase8
import Derived.Test.YtlmakdclebbbkaaGreatBase5
import Derived.RegionTactic
import Derived.Deep.DeepCutAuto
namespace Go.Proofs.YtlmakdclebbbkaaGreat
open Go.ChangeShapes Go.WideShapes Go.ChangeAt Go.RowKit
set_option linter.unusedVariables false
set_option maxRecDepth 100000
structure SerP (ss : List (Int × Int)) (w : World) (g o : Nat) (v : Value) : Prop where
  cell : w.cell? ⟨g, o, none⟩ = some v
  fr : w.frozen? ⟨g, o, none⟩ = false
  lt : g < w.heap.size
  own : w.ownsRow 0 30 2 v ss.length (smps ss)
theorem frozen_of_block {w w' : World} {p : Addr} (h : w'.heap[p.block]? = w.heap[p.block]?) : w'.frozen? p = w.frozen? p := by simp only [World.frozen?, h]
theorem SerP.below {ss : List (Int × Int)} {w w' : World} {g o : Nat} {v : Value} (h : SerP ss w g o v) (hb : Below w.heap.size w w') : SerP ss w' g o v :=
  ⟨(hb.cell h.lt).trans h.cell, (frozen_of_block (hb.block g h.lt)).trans h.fr, Nat.lt_of_lt_of_le h.lt hb.size, own_below h.own hb (Nat.le_refl _)⟩
def nBeh (ss : List (Int × Int)) (t : Int) : Nat := (ss.takeWhile fun x => decide (x.1 ≤ t)).length
theorem nBeh_of {ss : List (Int × Int)} {t : Int} {k : Nat} (hk : k ≤ ss.length) (h1 : ∀ i (h : i < ss.length), i < k → ss[i].1 ≤ t) (h2 : ∀ h : k < ss.length, t < ss[k].1) : nBeh ss t = k := by
  induction ss generalizing k with
  | nil => have : k = 0 := by simpa using hk
           subst this; rfl
  | cons x ss ih =>
    cases k with
    | zero =>
      have := h2 (by simp)
      simp only [List.getElem_cons_zero] at this
      unfold nBeh
      rw [List.takeWhile_cons_of_neg (by simp; omega)]; rfl
    | succ k =>
      have h0 := h1 0 (by simp) (by omega)
      simp only [List.getElem_cons_zero] at h0
      have := ih (k := k) (by simpa using hk) (fun i h hi => h1 (i + 1) (by rw [List.length_cons]; omega) (by omega)) (fun h => h2 (by rw [List.length_cons]; omega))
      unfold nBeh at this ⊢
      rw [List.takeWhile_cons_of_pos (by simp; omega), List.length_cons, this]
theorem nBeh_le (ss : List (Int × Int)) (t : Int) : nBeh ss t ≤ ss.length := by unfold nBeh; exact (List.takeWhile_sublist _).length_le
theorem behind_p (ss : List (Int × Int)) (g o : Nat) (v : Value) (t : Int) (w : World) (h : SerP ss w g o v) (hn : ss.length ≤ 1000000) :
    Calls Tryz.prog 168 #[.pointer (some ⟨g, o, none⟩), .int .i64 t] w fun e w' => e = .returned (.int .i64 (nBeh ss t)) ∧ w = w' := by
  obtain ⟨A, c, rfl, hc1, hc2⟩ := own_slice h.own
  have hc0 : w.cell? ⟨g, o, none⟩ = some (.slice A ss.length c) := h.cell
  have hg := h.lt
  have HS := Lib.hid (Sees.of_own h.own)
  clear h
  generalize hm : ss.length = m at *
  have HM := Lib.hid hm; clear hm
  go_enter Tryz.func168, Tryz.ntmps168
  go_wp2_with fail
  go_loop [5] (fun x => ∃ k : Nat, k ≤ m ∧ x = .int .i64 k ∧ ∀ i (h : i < ss.length), i < k → ss[i].1 ≤ t) (fun x => m - (intOf x).toNat)
  case atStart => exact ⟨0, Nat.zero_le _, rfl, fun i h h0 => by omega⟩
  case round =>
    obtain ⟨k, hk, rfl, hall⟩ := hrel
    have HA := Lib.hid hall; clear hall
    by_cases hlt : k < m
    · obtain ⟨ad, hkl, rfl, c0, c1⟩ := HS.out.smp hlt
      have hx : Hid (ss[k].1 = ss[k].1) := rfl
      by_cases hle : ss[k].1 ≤ t
      · have hnext : Hid (∀ i (h : i < ss.length), i < k + 1 → ss[i].1 ≤ t) := fun i h hi => by
          rcases Nat.lt_or_ge i k with h1 | h1
          · exact HA.out i h h1
          · have : i = k := by omega
            subst this; exact hle
        generalize ss[k].1 = y at *
        generalize ss[k].2 = z at *
        clear hx
        go_wp2_with fail
        go_round
        case rel => exact ⟨k + 1, by omega, by go_num, hnext.out⟩
        case measure => simp [intOf]; omega
      · have hb := nBeh_of (t := t) (Nat.le_of_lt hkl) HA.out (fun h => by omega)
        have HBB := Lib.hid hb
        generalize ss[k].1 = y at *
        generalize ss[k].2 = z at *
        clear hx hb
        go_wp2_with fail
        go_ret
        exact ⟨ret_int (by rw [HBB.out]), rfl⟩
    · obtain rfl : k = m := by omega
      have hb := nBeh_of (t := t) (k := k) (by have := HM.out; omega) HA.out (fun h => by have := HM.out; omega)
      have HBB := Lib.hid hb
      clear hb
      go_wp2_with fail
      go_ret
      exact ⟨ret_int (by rw [HBB.out]), rfl⟩
def atF (ss : List (Int × Int)) (t look : Int) : Int × Bool :=
  match nBeh ss t with
  | 0 => (0, false)
  | j + 1 => if (ss.getD j (0, 0)).1 ≤ t - look then (0, false) else ((ss.getD j (0, 0)).2, true)
theorem atF_zero {ss : List (Int × Int)} {t look : Int} (h : nBeh ss t = 0) : atF ss t look = (0, false) := by unfold atF; rw [h]
theorem atF_succ {ss : List (Int × Int)} {t look : Int} {j : Nat} (h : nBeh ss t = j + 1) (hj : j < ss.length) : atF ss t look = if ss[j].1 ≤ t - look then (0, false) else (ss[j].2, true) := by
  unfold atF
  rw [h]
  simp [List.getD_eq_getElem?_getD, List.getElem?_eq_getElem hj]
theorem at_p (ss : List (Int × Int)) (g o : Nat) (v : Value) (t look : Int) (w : World) (h : SerP ss w g o v) (hn : ss.length ≤ 1000000) (ht : -4611686018427387904 ≤ t ∧ t ≤ 4611686018427387903) (hl : -4611686018427387904 ≤ look ∧ look ≤ 4611686018427387903) :
    Calls Tryz.prog 147 #[.pointer (some ⟨g, o, none⟩), .int .i64 t, .int .i64 look] w fun e w' => e = .returned (.tuple #[.int .i64 (atF ss t look).1, .bool (atF ss t look).2]) ∧ w = w' := by
  have HB := Lib.hid (behind_p ss g o v t w h hn)
  obtain ⟨A, c, rfl, hc1, hc2⟩ := own_slice h.own
  have hc0 : w.cell? ⟨g, o, none⟩ = some (.slice A ss.length c) := h.cell
  have hg := h.lt
  have HS := Lib.hid (Sees.of_own h.own)
  have hle := nBeh_le ss t
  clear h
  cases hk : nBeh ss t with
  | zero =>
    rw [atF_zero hk]
    have HK := Lib.hid hk; clear hk
    rw [HK.out] at HB
    go_enter Tryz.func147, Tryz.ntmps147
    go_wp2_with fail
    refine HB.out.mono ?_; rintro e w' ⟨rfl, rfl⟩
    go_wp2_with fail
    go_ret2
    exact ⟨rfl, rfl⟩
  | succ j =>
    have hj : j < ss.length := by omega
    rw [atF_succ hk hj]
    rw [hk, show (((j + 1 : Nat)) : Int) = (j : Int) + 1 by omega] at HB
    obtain ⟨ad, hjl, rfl, c0, c1⟩ := HS.out.smp hj
    clear hk
    generalize ss[j].1 = y at *
    generalize ss[j].2 = z at *
    generalize ss.length = m at *
    have hj0 : ((j : Int) + 1 == 0) = false := by simp; omega
    by_cases hy : y ≤ t - look
    · rw [if_pos hy]
      go_enter Tryz.func147, Tryz.ntmps147
      go_wp2_with fail
      refine HB.out.mono ?_; rintro e w' ⟨rfl, rfl⟩
      go_wp2_with fail
      go_ret2
      exact ⟨rfl, rfl⟩
    · rw [if_neg hy]
      go_enter Tryz.func147, Tryz.ntmps147
      go_wp2_with fail
      refine HB.out.mono ?_; rintro e w' ⟨rfl, rfl⟩
      go_wp2_with fail
      go_ret2
      exact ⟨rfl, rfl⟩
def lastT (ss : List (Int × Int)) : Int := (ss.getD (ss.length - 1) (-1, 0)).1
theorem lastp_none (g o : Nat) (v : Value) (w : World) (h : SerP [] w g o v) :
    Calls Tryz.prog 65 #[.pointer (some ⟨g, o, none⟩)] w fun e w' => e = .returned (.tuple #[.agg #[.int .i64 0, .int .i64 0], .bool false]) ∧ Below w.heap.size w w' := by
  obtain ⟨A, c, rfl, hc1, hc2⟩ := own_slice h.own
  have hc0 : w.cell? ⟨g, o, none⟩ = some (.slice A 0 c) := h.cell
  have hg := h.lt
  clear h
  go_enter Tryz.func65, Tryz.ntmps65
  go_wp2_with fail
  exact bodyPost_ret (v := .tuple #[.agg #[.int .i64 0, .int .i64 0], .bool false]) (by simp [results, Tryz.results65, go_sem]) rfl ⟨rfl, by repeat (first | exact Below.refl _ _ | refine Below.setCell ?_ (by simp) _ | refine Below.drew ?_ | refine Below.alloc ?_ (by simp) _ | refine Below.alloc ?_ (by simp; omega) _)⟩
theorem lastp_some (ss : List (Int × Int)) (j : Nat) (g o : Nat) (v : Value) (w : World) (h : SerP ss w g o v) (hj : ss.length = j + 1) (hn : ss.length ≤ 1000000) (y z : Int) (hy : ss[j]? = some (y, z)) :
    Calls Tryz.prog 65 #[.pointer (some ⟨g, o, none⟩)] w fun e w' => e = .returned (.tuple #[.agg #[.int .i64 y, .int .i64 z], .bool true]) ∧ Below w.heap.size w w' := by
  obtain ⟨A, c, rfl, hc1, hc2⟩ := own_slice h.own
  have hc0 : w.cell? ⟨g, o, none⟩ = some (.slice A ss.length c) := h.cell
  have hg := h.lt
  have HS := Lib.hid (Sees.of_own h.own)
  obtain ⟨ad, hjl, rfl, c0, c1⟩ := HS.out.smp (show j < ss.length by omega)
  have hyz : ss[j] = (y, z) := by rw [List.getElem?_eq_getElem hjl] at hy; injection hy
  rw [hyz] at c0 c1
  have hal : (ad.add (j * 2)).block < w.heap.size := World.block_lt_of_cell? w _ c0
  have hjn : j ≤ 1000000 := by omega
  rw [hj] at hc0 hc1
  clear h hy hyz hjl HS hj hn
  go_enter Tryz.func65, Tryz.ntmps65
  go_wp2_with fail
  go_region
  all_goals
    go_wp2_with fail
    exact bodyPost_ret (v := .tuple #[.agg #[.int .i64 y, .int .i64 z], .bool true]) (by simp [results, Tryz.results65, go_sem]) rfl ⟨rfl, by repeat (first | exact Below.refl _ _ | refine Below.setCell ?_ (by simp) _ | refine Below.drew ?_ | refine Below.alloc ?_ (by simp) _ | refine Below.alloc ?_ (by simp; omega) _)⟩
def addErr : Int → Nat → List (Int × Int) → Int
  | _, _, [] => 0
  | a, c, x :: xs => if x.1 < 0 ∨ 1099511627776 < x.1 then 1 else if x.1 ≤ a then 2 else if 200 ≤ c then 8 else addErr x.1 (c + 1) xs
section
variable {a y z : Int} {c : Nat} {xs : List (Int × Int)}
theorem addErr_form (h : y < 0 ∨ 1099511627776 < y) : addErr a c ((y, z) :: xs) = 1 := by unfold addErr; rw [if_pos h]
theorem addErr_order (h0 : ¬ y < 0) (h1 : ¬ 1099511627776 < y) (h : y ≤ a) : addErr a c ((y, z) :: xs) = 2 := by unfold addErr; rw [if_neg (by simp only; omega), if_pos h]
theorem addErr_full (h0 : ¬ y < 0) (h1 : ¬ 1099511627776 < y) (h2 : ¬ y ≤ a) (h : 200 ≤ c) : addErr a c ((y, z) :: xs) = 8 := by unfold addErr; rw [if_neg (by simp only; omega), if_neg h2, if_pos h]
theorem addErr_next (h0 : ¬ y < 0) (h1 : ¬ 1099511627776 < y) (h2 : ¬ y ≤ a) (h : ¬ 200 ≤ c) : addErr a c ((y, z) :: xs) = addErr y (c + 1) xs := by
  rw [addErr, if_neg (by simp only; omega), if_neg h2, if_neg h]
end
theorem parts_two {w : World} {A A2 : Option Addr} {n c n2 c2 : Nat} {l l2 : List (Int × Int)} {t : TypeId} (h : Sees w w.heap.size 2 A n (smps l)) (h2 : Sees w w.heap.size 2 A2 n2 (smps l2)) (hl : l.length = n) (hl2 : l2.length = n2)
    (hc : n ≤ c) (hm : c ≤ 9223372036854775807) (hc2 : n2 ≤ c2) (hm2 : c2 ≤ 9223372036854775807) :
    PartsSmp (w.alloc (.cells #[.slice A n c, .slice A2 n2 c2] t)) (w.alloc (.cells #[.slice A n c, .slice A2 n2 c2] t)).heap.size (some ⟨w.heap.size, 0, none⟩) 2 [l, l2] := by
  have hk : Blk (w.alloc (.cells #[.slice A n c, .slice A2 n2 c2] t)) w.heap.size t [.slice A n c, .slice A2 n2 c2] := Blk.mk (heap_alloc_new w _)
  refine ⟨rfl, fun j l' hj => ?_⟩
  match j, hj with
  | 0, hj =>
    injection hj with hj; subst hj
    refine ⟨_, A, n, c, rfl, by simp, ?_, (h.alloc (Nat.le_refl _) _).more (by simp), hl.symm, hc, hm⟩
    rw [add_zero']; exact hk.cell 0
  | 1, hj =>
    injection hj with hj; subst hj
    exact ⟨_, A2, n2, c2, rfl, by simp, hk.cell 1, (h2.alloc (Nat.le_refl _) _).more (by simp), hl2.symm, hc2, hm2⟩
def AddP (ss xs : List (Int × Int)) (g o : Nat) (w : World) (e : Ending) (w' : World) : Prop :=
  e = .returned (.int .i64 (addErr (lastT ss) ss.length xs)) ∧ ((addErr (lastT ss) ss.length xs ≠ 0 ∧ Below w.heap.size w w') ∨ (addErr (lastT ss) ss.length xs = 0 ∧ ∃ v' w3, Below w.heap.size w w3 ∧ w' = w3.setCell ⟨g, o, none⟩ v' ∧ w3.ownsRow w.heap.size 30 2 v' (ss ++ xs).length (smps (ss ++ xs))))
theorem addBad {ss xs : List (Int × Int)} {g o : Nat} {w w' : World} {r : Int} (h1 : addErr (lastT ss) ss.length xs = r) (hr : r ≠ 0) (h3 : Below w.heap.size w w') : AddP ss xs g o w (.returned (.int .i64 r)) w' := ⟨by rw [h1], .inl ⟨by rw [h1]; exact hr, h3⟩⟩
theorem addGood {ss xs : List (Int × Int)} {g o : Nat} {w w3 : World} {v' : Value} (h1 : addErr (lastT ss) ss.length xs = 0) (h3 : Below w.heap.size w w3) (h4 : w3.ownsRow w.heap.size 30 2 v' (ss ++ xs).length (smps (ss ++ xs))) : AddP ss xs g o w (.returned (.int .i64 0)) (w3.setCell ⟨g, o, none⟩ v') := ⟨by rw [h1], .inr ⟨h1, v', w3, h3, rfl, h4⟩⟩
set_option maxHeartbeats 4000000 in
theorem add_p (ss xs : List (Int × Int)) (g o : Nat) (v : Value) (A2 : Option Addr) (m c2 : Nat) (w : World) (h : SerP ss w g o v) (hss : ss.length ≤ 1000) (hx : Sees w w.heap.size 2 A2 m (smps xs)) (hm : m ≤ 1000) (hcc : m ≤ c2) (hcd : c2 ≤ 9223372036854775807) :
    Calls Tryz.prog 31 #[.pointer (some ⟨g, o, none⟩), .slice A2 m c2] w (AddP ss xs g o w) := by
  obtain ⟨A, c, rfl, hca, hcb⟩ := own_slice h.own
  have hg := h.lt
  have HSR := Lib.hid h
  have HXS := Lib.hid hx
  have HXL := Lib.hid hx.smp_len
  clear hx
  rcases Nat.eq_zero_or_pos ss.length with h0 | h0
  · have hnil : ss = [] := List.eq_nil_of_length_eq_zero h0
    have HL := Lib.hid (lastp_none g o (.slice A ss.length c) w (hnil ▸ h))
    have HSTART : Hid (addErr (lastT ss) ss.length xs = addErr (-1) (ss.length + 0) (xs.drop 0)) := by subst hnil; rfl
    clear h hnil h0
    go_enter Tryz.func31, Tryz.ntmps31
    go_wp2_with fail
    refine HL.out.mono ?_; rintro e w1 ⟨rfl, hb1⟩
    have hs1 := hb1.size
    have HB1 := Lib.hid ((hb1.alloc hs1 (.cells #[.int .i64 0, .int .i64 0] 30)))
    clear hb1
    go_wp2_with fail
    go_loopw [5, 20] (fun x i wr => ∃ (j : Nat) (a : Int), j ≤ m ∧ i = .int .i64 j ∧ x = .int .i64 a ∧ addErr (lastT ss) ss.length xs = addErr a (ss.length + j) (xs.drop j) ∧ Below w.heap.size w wr) (fun _ i _ => m - (intOf i).toNat)
    case atStart => exact ⟨0, _, Nat.zero_le _, rfl, rfl, HSTART.out, HB1.out⟩
    case round =>
      obtain ⟨j, a, hj, rfl, rfl, he, hbel⟩ := hrel
      have HE := Lib.hid he; have HB := Lib.hid hbel; clear he hbel
      have hsz := HB.out.size
      have HSW := Lib.hid (HSR.out.below HB.out)
      by_cases hlt : j < m
      · obtain ⟨ad, hjl, rfl, c0, c1⟩ := (HXS.out.below HB.out).smp hlt
        have hal : (ad.add (j * 2)).block < wr.heap.size := World.block_lt_of_cell? wr _ c0
        have HX := Lib.hid (show addErr a (ss.length + j) (xs.drop j) = addErr a (ss.length + j) (xs[j] :: xs.drop (j + 1)) by rw [List.drop_eq_getElem_cons hjl])
        have hc0 : wr.cell? ⟨g, o, none⟩ = some (.slice A ss.length c) := HSW.out.cell
        have hgw : g < wr.heap.size := by omega
        generalize xs[j] = p at *
        obtain ⟨y, z⟩ := p
        try simp only at c0 c1
        generalize hsl : ss.length = sl at *
        have HSL := Lib.hid hsl; clear hsl
        have HSX : Hid (∀ W, Below wr.heap.size wr W → SerP ss W g o (.slice A sl c)) := fun W h => HSW.out.below h
        have HBX : Hid (∀ W, Below wr.heap.size wr W → Below w.heap.size w W) := fun W h => HB.out.trans (h.mono hsz)
        by_cases hy0 : y < 0
        · go_wp2_with fail
          go_ret
          exact addBad (by rw [HSL.out, HE.out, HX.out, addErr_form (y := y) (.inl (by omega))]) (by omega) (HBX.out _ (by repeat (first | exact Below.refl _ _ | refine Below.setCell ?_ (by simp) _ | refine below_drewN3 ?_ _ | refine Below.drew ?_ | refine Below.alloc ?_ (by simp) _ | refine Below.alloc ?_ (by simp; omega) _)))
        by_cases hy1 : 1099511627776 < y
        · go_wp2_with fail
          go_ret
          exact addBad (by rw [HSL.out, HE.out, HX.out, addErr_form (y := y) (.inr (by omega))]) (by omega) (HBX.out _ (by repeat (first | exact Below.refl _ _ | refine Below.setCell ?_ (by simp) _ | refine below_drewN3 ?_ _ | refine Below.drew ?_ | refine Below.alloc ?_ (by simp) _ | refine Below.alloc ?_ (by simp; omega) _)))
        by_cases hya : y ≤ a
        · go_wp2_with fail
          go_ret
          exact addBad (by rw [HSL.out, HE.out, HX.out, addErr_order (y := y) (a := a) (by omega) (by omega) (by omega)]) (by omega) (HBX.out _ (by repeat (first | exact Below.refl _ _ | refine Below.setCell ?_ (by simp) _ | refine below_drewN3 ?_ _ | refine Below.drew ?_ | refine Below.alloc ?_ (by simp) _ | refine Below.alloc ?_ (by simp; omega) _)))
        by_cases hfl : (200 : Int) ≤ (sl : Int) + j
        · have hfl2 : (sl : Int) + j ≥ 200 := hfl
          go_wp2_with fail
          go_ret
          exact addBad (by rw [HSL.out, HE.out, HX.out, addErr_full (y := y) (a := a) (c := sl + j) (by omega) (by omega) (by omega) (by omega)]) (by omega) (HBX.out _ (by repeat (first | exact Below.refl _ _ | refine Below.setCell ?_ (by simp) _ | refine below_drewN3 ?_ _ | refine Below.drew ?_ | refine Below.alloc ?_ (by simp) _ | refine Below.alloc ?_ (by simp; omega) _)))
        · have hfl2 : ¬ (sl : Int) + j ≥ 200 := hfl
          go_wp2_with fail
          go_roundw
          case rel => exact ⟨j + 1, y, by omega, by go_num, rfl, by rw [HE.out, HX.out, addErr_next (y := y) (a := a) (c := sl + j) (by omega) (by omega) (by omega) (by omega)]; rfl, HBX.out _ (by repeat (first | exact Below.refl _ _ | refine Below.setCell ?_ (by simp) _ | refine below_drewN3 ?_ _ | refine Below.drew ?_ | refine Below.alloc ?_ (by simp) _ | refine Below.alloc ?_ (by simp; omega) _))⟩
          case measure => simp [intOf]; omega
      · obtain rfl : j = m := by omega
        have hz : addErr (lastT ss) ss.length xs = 0 := by rw [HE.out, List.drop_of_length_le (by rw [HXL.out]; exact Nat.le_refl _)]; rfl
        have HZ := Lib.hid hz; clear hz
        have hc0 : wr.cell? ⟨g, o, none⟩ = some (.slice A ss.length c) := HSW.out.cell
        have hgw : g < wr.heap.size := by omega
        have HS1 := Lib.hid (Sees.of_own HSW.out.own)
        have HS2 := Lib.hid ((HXS.out.below HB.out).more hsz)
        have HP := Lib.hid (parts_two (t := 86) HS1.out HS2.out rfl HXL.out hca hcb hcc hcd)
        have hb2 : Below wr.heap.size wr (wr.alloc (.cells #[.slice A ss.length c, .slice A2 j c2] 86)) := (Below.refl _ _).alloc (Nat.le_refl _) _
        have HSW2 := Lib.hid (HSW.out.below hb2)
        have HB2 := Lib.hid (HB.out.trans (hb2.mono hsz))
        have hs2 : wr.heap.size < (wr.alloc (.cells #[.slice A ss.length c, .slice A2 j c2] 86)).heap.size := by simp
        clear hb2 HS1 HS2
        go_wp2_with fail
        refine (concat_Smp _ 2 2 [ss, xs] _ HP.out (by omega) (by have := HXL.out; simp; omega)).mono ?_; rintro e w3 ⟨A3, c3, rfl, hown3, hbel3, hc3, hc4⟩
        have hfl : ([ss, xs] : List (List (Int × Int))).flatten = ss ++ xs := by simp
        rw [hfl] at hown3
        rw [hfl]
        have HSW3 := Lib.hid (HSW2.out.below hbel3)
        have hs3 := hbel3.size
        have HB3 := Lib.hid (HB2.out.trans (hbel3.mono (by omega)))
        have hk3 := HSW3.out.cell
        have hf3 := HSW3.out.fr
        have hg3 := HSW3.out.lt
        have hln : (ss ++ xs).length = ss.length + xs.length := List.length_append
        have HOW := Lib.hid (own_mono hown3 (show w.heap.size ≤ _ by have := HB2.out.size; omega))
        rw [hln] at HOW ⊢
        clear hown3 hbel3 hfl hln hc3 hc0
        go_wp2_with fail
        go_ret
        exact addGood HZ.out HB3.out (by rw [List.length_append]; exact HOW.out)
  · obtain ⟨j0, hj0⟩ : ∃ j, ss.length = j + 1 := ⟨ss.length - 1, by omega⟩
    obtain ⟨⟨y0, z0⟩, hyz⟩ : ∃ p, ss[j0]? = some p := ⟨_, List.getElem?_eq_getElem (by omega)⟩
    have HL := Lib.hid (lastp_some ss j0 g o _ w h hj0 (by omega) y0 z0 hyz)
    have hlt : lastT ss = y0 := by unfold lastT; rw [hj0, Nat.add_sub_cancel, List.getD_eq_getElem?_getD, hyz]; rfl
    have HSTART : Hid (addErr (lastT ss) ss.length xs = addErr y0 (ss.length + 0) (xs.drop 0)) := by rw [hlt]; rfl
    clear h hyz hj0 hlt h0
    go_enter Tryz.func31, Tryz.ntmps31
    go_wp2_with fail
    refine HL.out.mono ?_; rintro e w1 ⟨rfl, hb1⟩
    have hs1 := hb1.size
    have HB1 := Lib.hid ((hb1.alloc hs1 (.cells #[.int .i64 y0, .int .i64 z0] 30)))
    clear hb1
    go_wp2_with fail
    go_loopw [5, 20] (fun x i wr => ∃ (j : Nat) (a : Int), j ≤ m ∧ i = .int .i64 j ∧ x = .int .i64 a ∧ addErr (lastT ss) ss.length xs = addErr a (ss.length + j) (xs.drop j) ∧ Below w.heap.size w wr) (fun _ i _ => m - (intOf i).toNat)
    case atStart => exact ⟨0, _, Nat.zero_le _, rfl, rfl, HSTART.out, HB1.out⟩
    case round =>
      obtain ⟨j, a, hj, rfl, rfl, he, hbel⟩ := hrel
      have HE := Lib.hid he; have HB := Lib.hid hbel; clear he hbel
      have hsz := HB.out.size
      have HSW := Lib.hid (HSR.out.below HB.out)
      by_cases hlt : j < m
      · obtain ⟨ad, hjl, rfl, c0, c1⟩ := (HXS.out.below HB.out).smp hlt
        have hal : (ad.add (j * 2)).block < wr.heap.size := World.block_lt_of_cell? wr _ c0
        have HX := Lib.hid (show addErr a (ss.length + j) (xs.drop j) = addErr a (ss.length + j) (xs[j] :: xs.drop (j + 1)) by rw [List.drop_eq_getElem_cons hjl])
        have hc0 : wr.cell? ⟨g, o, none⟩ = some (.slice A ss.length c) := HSW.out.cell
        have hgw : g < wr.heap.size := by omega
        generalize xs[j] = p at *
        obtain ⟨y, z⟩ := p
        try simp only at c0 c1
        generalize hsl : ss.length = sl at *
        have HSL := Lib.hid hsl; clear hsl
        have HSX : Hid (∀ W, Below wr.heap.size wr W → SerP ss W g o (.slice A sl c)) := fun W h => HSW.out.below h
        have HBX : Hid (∀ W, Below wr.heap.size wr W → Below w.heap.size w W) := fun W h => HB.out.trans (h.mono hsz)
        by_cases hy0 : y < 0
        · go_wp2_with fail
          go_ret
          exact addBad (by rw [HSL.out, HE.out, HX.out, addErr_form (y := y) (.inl (by omega))]) (by omega) (HBX.out _ (by repeat (first | exact Below.refl _ _ | refine Below.setCell ?_ (by simp) _ | refine below_drewN3 ?_ _ | refine Below.drew ?_ | refine Below.alloc ?_ (by simp) _ | refine Below.alloc ?_ (by simp; omega) _)))
        by_cases hy1 : 1099511627776 < y
        · go_wp2_with fail
          go_ret
          exact addBad (by rw [HSL.out, HE.out, HX.out, addErr_form (y := y) (.inr (by omega))]) (by omega) (HBX.out _ (by repeat (first | exact Below.refl _ _ | refine Below.setCell ?_ (by simp) _ | refine below_drewN3 ?_ _ | refine Below.drew ?_ | refine Below.alloc ?_ (by simp) _ | refine Below.alloc ?_ (by simp; omega) _)))
        by_cases hya : y ≤ a
        · go_wp2_with fail
          go_ret
          exact addBad (by rw [HSL.out, HE.out, HX.out, addErr_order (y := y) (a := a) (by omega) (by omega) (by omega)]) (by omega) (HBX.out _ (by repeat (first | exact Below.refl _ _ | refine Below.setCell ?_ (by simp) _ | refine below_drewN3 ?_ _ | refine Below.drew ?_ | refine Below.alloc ?_ (by simp) _ | refine Below.alloc ?_ (by simp; omega) _)))
        by_cases hfl : (200 : Int) ≤ (sl : Int) + j
        · have hfl2 : (sl : Int) + j ≥ 200 := hfl
          go_wp2_with fail
          go_ret
          exact addBad (by rw [HSL.out, HE.out, HX.out, addErr_full (y := y) (a := a) (c := sl + j) (by omega) (by omega) (by omega) (by omega)]) (by omega) (HBX.out _ (by repeat (first | exact Below.refl _ _ | refine Below.setCell ?_ (by simp) _ | refine below_drewN3 ?_ _ | refine Below.drew ?_ | refine Below.alloc ?_ (by simp) _ | refine Below.alloc ?_ (by simp; omega) _)))
        · have hfl2 : ¬ (sl : Int) + j ≥ 200 := hfl
          go_wp2_with fail
          go_roundw
          case rel => exact ⟨j + 1, y, by omega, by go_num, rfl, by rw [HE.out, HX.out, addErr_next (y := y) (a := a) (c := sl + j) (by omega) (by omega) (by omega) (by omega)]; rfl, HBX.out _ (by repeat (first | exact Below.refl _ _ | refine Below.setCell ?_ (by simp) _ | refine below_drewN3 ?_ _ | refine Below.drew ?_ | refine Below.alloc ?_ (by simp) _ | refine Below.alloc ?_ (by simp; omega) _))⟩
          case measure => simp [intOf]; omega
      · obtain rfl : j = m := by omega
        have hz : addErr (lastT ss) ss.length xs = 0 := by rw [HE.out, List.drop_of_length_le (by rw [HXL.out]; exact Nat.le_refl _)]; rfl
        have HZ := Lib.hid hz; clear hz
        have hc0 : wr.cell? ⟨g, o, none⟩ = some (.slice A ss.length c) := HSW.out.cell
        have hgw : g < wr.heap.size := by omega
        have HS1 := Lib.hid (Sees.of_own HSW.out.own)
        have HS2 := Lib.hid ((HXS.out.below HB.out).more hsz)
        have HP := Lib.hid (parts_two (t := 86) HS1.out HS2.out rfl HXL.out hca hcb hcc hcd)
        have hb2 : Below wr.heap.size wr (wr.alloc (.cells #[.slice A ss.length c, .slice A2 j c2] 86)) := (Below.refl _ _).alloc (Nat.le_refl _) _
        have HSW2 := Lib.hid (HSW.out.below hb2)
        have HB2 := Lib.hid (HB.out.trans (hb2.mono hsz))
        have hs2 : wr.heap.size < (wr.alloc (.cells #[.slice A ss.length c, .slice A2 j c2] 86)).heap.size := by simp
        clear hb2 HS1 HS2
        go_wp2_with fail
        refine (concat_Smp _ 2 2 [ss, xs] _ HP.out (by omega) (by have := HXL.out; simp; omega)).mono ?_; rintro e w3 ⟨A3, c3, rfl, hown3, hbel3, hc3, hc4⟩
        have hfl : ([ss, xs] : List (List (Int × Int))).flatten = ss ++ xs := by simp
        rw [hfl] at hown3
        rw [hfl]
        have HSW3 := Lib.hid (HSW2.out.below hbel3)
        have hs3 := hbel3.size
        have HB3 := Lib.hid (HB2.out.trans (hbel3.mono (by omega)))
        have hk3 := HSW3.out.cell
        have hf3 := HSW3.out.fr
        have hg3 := HSW3.out.lt
        have hln : (ss ++ xs).length = ss.length + xs.length := List.length_append
        have HOW := Lib.hid (own_mono hown3 (show w.heap.size ≤ _ by have := HB2.out.size; omega))
        rw [hln] at HOW ⊢
        clear hown3 hbel3 hfl hln hc3 hc0
        go_wp2_with fail
        go_ret
        exact addGood HZ.out HB3.out (by rw [List.length_append]; exact HOW.out)
structure TurnS (g : Nat) (v : Value) (w w' : World) : Prop where
  os : w'.os = w.os
  tape : w'.tape = w.tape
  output : w'.output = w.output
  size : w.heap.size ≤ w'.heap.size
  block : ∀ k, k < w.heap.size → k ≠ g → some k ≠ v.ownBlock → w'.heap[k]? = w.heap[k]?
theorem TurnS.below {g B : Nat} {v : Value} {w w' : World} (h : TurnS g v w w') (hB : B ≤ g) (hv : ∀ k, v.ownBlock = some k → B ≤ k) (hs : B ≤ w.heap.size) : Below B w w' :=
  ⟨h.os, h.tape, h.output, h.size, fun k hk => h.block k (by omega) (by omega) (fun e => by have := hv k e.symm; omega)⟩
theorem TurnS.blk {g k : Nat} {v : Value} {w w' : World} {t : TypeId} {cs : List Value} (h : TurnS g v w w') (ho : Blk w k t cs) (hg : k ≠ g) (hv : v.ownBlock ≠ some k) : Blk w' k t cs :=
  (h.block k ho.lt hg (fun e => hv e.symm)).trans ho
theorem Tryz.infoI : (Tryz.prog.info? 3).map (fun i => (i.zero, i.size, i.bytes)) = some (some (.int .i64 0), 1, 8) := by kernel_rfl
def inR (f t x : Int) : List Int := if f ≤ x ∧ x ≤ t then [x] else []
def chg (look f t : Int) : List (Int × Int) → List Int
  | [] => []
  | [x] => inR f t x.1 ++ inR f t (x.1 + look)
  | x :: y :: r => inR f t x.1 ++ (if x.1 + look < y.1 then inR f t (x.1 + look) else []) ++ chg look f t (y :: r)
def NoteAns (b : Nat) (v : Value) (ts : List Int) (w : World) (e : Ending) (w' : World) : Prop :=
  ∃ v', e = .returned (.tuple #[]) ∧ Blk w' b 45 [v'] ∧ w'.ownsRow (b + 1) 3 1 v' ts.length (ints ts) ∧ TurnS b v w w'
theorem noteAns {b : Nat} {v v' : Value} {ts : List Int} {w w' : World} (h1 : Blk w' b 45 [v']) (h2 : w'.ownsRow (b + 1) 3 1 v' ts.length (ints ts)) (h3 : TurnS b v w w') : NoteAns b v ts w (.returned (.tuple #[])) w' := ⟨v', rfl, h1, h2, h3⟩
theorem note_any (x f t : Int) (b1 b2 b : Nat) (v : Value) (ts : List Int) (w : World) (h1 : w.cell? ⟨b1, 0, none⟩ = some (.int .i64 f)) (h2 : w.cell? ⟨b2, 0, none⟩ = some (.int .i64 t)) (h3 : Blk w b 45 [v])
    (h4 : w.ownsRow (b + 1) 3 1 v ts.length (ints ts)) (hn : ts.length ≤ 1000000) :
    Calls Tryz.prog 120 #[.int .i64 x, .pointer (some ⟨b1, 0, none⟩), .pointer (some ⟨b2, 0, none⟩), .pointer (some ⟨b, 0, none⟩)] w (NoteAns b v (ts ++ inR f t x) w) := by
  obtain ⟨i0, hi, hz0, hz1, hz2⟩ := info_parts Tryz.infoI
  obtain ⟨A, c, rfl, hc1, hc2⟩ := own_slice h4
  have c0 : w.cell? ⟨b, 0, none⟩ = some (.slice A ts.length c) := h3.cell 0
  have f0 : ∀ y, w.frozen? ⟨b, y, none⟩ = false := fun y => h3.frozen y
  have hb := h3.lt
  have H3 := Lib.hid h3; have H4 := Lib.hid h4; clear h3 h4
  by_cases hx : f ≤ x ∧ x ≤ t
  · have e : inR f t x = [x] := by unfold inR; rw [if_pos hx]
    rw [e]; clear e
    obtain ⟨hx1, hx2⟩ := hx
    have HAL := Lib.hid (H4.out.alloc (.cells #[.int .i64 x] 3))
    go_enter Tryz.func120, Tryz.ntmps120
    go_wp2_with (at_builtin; refine wpList_append_own _ rfl _ _ 45 rfl (b + 1) 3 i0 (.int .i64 0) 1 8 Tryz.underlying45 hi hz0 hz1 hz2 rfl (by decide) _ _ _ rfl HAL.out ⟨w.heap.size, 0, none⟩ 1 1 [.int .i64 x] rfl rfl ?c1 ?c2 ?c3 ?c4 ?c5 ?_)
    case c1 =>
      intro j u hj
      match j, hj with
      | 0, hj => simp at hj; subst hj; simp [Addr.add]
    case c2 => intro u hu; simp at hu; subst hu; rfl
    case c3 => unfold maxLen; omega
    case c4 => omega
    case c5 => simp; omega
    intro v' w1 hown' hg _
    obtain ⟨A2, c2, rfl, hc3, hc4⟩ := own_slice hown'
    have hk := (H3.out.alloc (.cells #[.int .i64 x] 3)).grown hg (fun e => by have := (H4.out.lt b e.symm).1; omega)
    have hown2 : w1.ownsRow (b + 1) 3 1 (.slice A2 (ts.length + 1) c2) (ts ++ [x]).length (ints (ts ++ [x])) := by rw [List.length_append, ints_append]; exact hown'
    have hB : Blk (w1.setCell ⟨b, 0, none⟩ (.slice A2 (ts.length + 1) c2)) b 45 [.slice A2 (ts.length + 1) c2] := hk.set 0 _
    have hO := own_far (p := ⟨b, 0, none⟩) hown2 (Nat.lt_succ_self _) (.slice A2 (ts.length + 1) c2)
    have hT : TurnS b (.slice A ts.length c) w (w1.setCell ⟨b, 0, none⟩ (.slice A2 (ts.length + 1) c2)) :=
      ⟨hg.os, hg.tape, hg.output, by have := hg.size; simp at this ⊢; omega, fun k hk1 hk2 hk3 => (Below.heap_setCell w1 ⟨b, 0, none⟩ _ k hk2).trans ((hg.block k (by simp; omega) hk3).trans (Below.heap_alloc w _ k hk1))⟩
    have d0 : w1.cell? ⟨b, 0, none⟩ = some (.slice A ts.length c) := hk.cell 0
    have df : ∀ y, w1.frozen? ⟨b, y, none⟩ = false := fun y => hk.frozen y
    have dg := hk.lt
    have HB := Lib.hid hB; have HO := Lib.hid hO; have HT := Lib.hid hT
    clear hk hown' hown2 hB hO hT hg
    go_wp2_with fail
    go_end0
    exact noteAns HB.out HO.out HT.out
  · have e : inR f t x = [] := by unfold inR; rw [if_neg hx]
    rw [e, List.append_nil]; clear e
    have HT : Hid (TurnS b (.slice A ts.length c) w w) := ⟨rfl, rfl, rfl, Nat.le_refl _, fun _ _ _ _ => rfl⟩
    by_cases hx1 : f ≤ x
    · have hx2 : ¬ x ≤ t := fun h => hx ⟨hx1, h⟩
      clear hx
      go_enter Tryz.func120, Tryz.ntmps120
      go_wp2_with fail
      go_end0
      exact noteAns H3.out H4.out HT.out
    · clear hx
      go_enter Tryz.func120, Tryz.ntmps120
      go_wp2_with fail
      go_end0
      exact noteAns H3.out H4.out HT.out

theorem inR_len (f t x : Int) : (inR f t x).length ≤ 1 := by unfold inR; split <;> simp
theorem chg_len (look f t : Int) (ss : List (Int × Int)) : (chg look f t ss).length ≤ 2 * ss.length := by
  induction ss with
  | nil => simp [chg]
  | cons x r ih =>
    have h1 := inR_len f t x.1
    have h2 := inR_len f t (x.1 + look)
    cases r with
    | nil => simp only [chg, List.length_append, List.length_cons, List.length_nil]; omega
    | cons y r =>
      simp only [chg, List.length_append, List.length_cons] at ih ⊢
      split
      · omega
      · simp only [List.length_nil]; omega
set_option maxHeartbeats 2000000 in
theorem changes_p (ss : List (Int × Int)) (g o : Nat) (v : Value) (look f t : Int) (w : World) (h : SerP ss w g o v) (hn : ss.length ≤ 1000) (hlk : -1099511627776 ≤ look ∧ look ≤ 1099511627776) (hss : ∀ x ∈ ss, 0 ≤ x.1 ∧ x.1 ≤ 1099511627776) :
    Calls Tryz.prog 72 #[.pointer (some ⟨g, o, none⟩), .int .i64 look, .int .i64 f, .int .i64 t] w (OwnAns 3 1 (chg look f t ss).length (ints (chg look f t ss)) w) := by
  obtain ⟨A, c, rfl, hca, hcb⟩ := own_slice h.own
  have hg := h.lt
  have HSS := Lib.hid hss; clear hss
  obtain ⟨w3, hw3⟩ : ∃ w3, w3 = ((w.alloc (.cells #[.int .i64 f] 3)).alloc (.cells #[.int .i64 t] 3)).alloc (.cells #[.slice none 0 0] 45) := ⟨_, rfl⟩
  obtain ⟨b, hb⟩ : ∃ b, b = w.heap.size := ⟨_, rfl⟩
  have hb3 : Below w.heap.size w w3 := by rw [hw3]; exact (((Below.refl _ _).alloc (Nat.le_refl _) _).alloc (by simp) _).alloc (by simp; omega) _
  have k1 : Blk w3 b 3 [.int .i64 f] := by
    rw [hw3, hb]
    exact ((Blk.mk (heap_alloc_new w (.cells #[.int .i64 f] 3)) : Blk _ w.heap.size 3 [.int .i64 f]).alloc _).alloc _
  have k2 : Blk w3 (b + 1) 3 [.int .i64 t] := by
    rw [hw3, hb]
    exact Blk.alloc (Blk.mk (by simpa using heap_alloc_new (w.alloc (.cells #[.int .i64 f] 3)) (.cells #[.int .i64 t] 3))) _
  have k3 : Blk w3 (b + 1 + 1) 45 [.slice none 0 0] := by
    rw [hw3, hb]
    exact Blk.mk (by simpa using heap_alloc_new ((w.alloc (.cells #[.int .i64 f] 3)).alloc (.cells #[.int .i64 t] 3)) (.cells #[.slice none 0 0] 45))
  have hS3 := h.below hb3
  have hgb : g < b := by omega
  have HF : Hid (∀ W, Below (b + 1 + 1) w3 W → W.cell? ⟨b, 0, none⟩ = some (.int .i64 f) ∧ W.cell? ⟨b + 1, 0, none⟩ = some (.int .i64 t) ∧ W.cell? ⟨g, o, none⟩ = some (.slice A ss.length c) ∧ Sees W w.heap.size 2 A ss.length (smps ss)) := fun W hW =>
    ⟨(hW.cell (p := ⟨b, 0, none⟩) (show b < b + 1 + 1 by omega)).trans (k1.cell 0), (hW.cell (p := ⟨b + 1, 0, none⟩) (show b + 1 < b + 1 + 1 by omega)).trans (k2.cell 0), (hW.cell (p := ⟨g, o, none⟩) (show g < b + 1 + 1 by omega)).trans (hS3.cell),
      ((Sees.of_own h.own).below hb3).keep fun p hp => hW.cell (by omega)⟩
  have HB3 := Lib.hid hb3; have HK3 := Lib.hid k3
  have hs3 : b + 1 + 1 < w3.heap.size := k3.lt
  have HBW := Lib.hid hb
  generalize hm : ss.length = m at *
  have HM := Lib.hid hm
  clear hm k1 k2 k3 hb3 hS3 h
  go_enter Tryz.func72, Tryz.ntmps72
  have c30 := (HF.out w3 (Below.refl _ _)).2.2.1
  rw [hw3] at c30
  go_wp2_with fail
  rw [← hb, ← hw3]
  clear hw3 c30 hb
  go_loopw [20] (fun i wr => ∃ (j : Nat) (v : Value) (ts : List Int), j ≤ m ∧ i = .int .i64 j ∧ Blk wr (b + 1 + 1) 45 [v] ∧ wr.ownsRow (b + 1 + 1 + 1) 3 1 v ts.length (ints ts) ∧ chg look f t ss = ts ++ chg look f t (ss.drop j) ∧ ts.length ≤ 2 * j ∧ Below (b + 1 + 1) w3 wr) (fun i _ => m - (intOf i).toNat)
  case atStart => exact ⟨0, _, [], Nat.zero_le _, rfl, HK3.out, by simpa [ints] using World.ownsRow_nil w3 (b + 1 + 1 + 1) 3 1, rfl, by simp, Below.refl _ _⟩
  case round =>
    obtain ⟨j, v, ts, hj, rfl, hk, ho, he, htl, hbel⟩ := hrel
    have HK := Lib.hid hk; have HO := Lib.hid ho; have HE := Lib.hid he; have HB := Lib.hid hbel
    have hsz := hk.lt
    clear hk ho he hbel
    obtain ⟨hc1, hc2, hc3, hs⟩ := HF.out wr HB.out
    by_cases hlt : j < m
    · obtain ⟨ad, hjl, rfl, c0, c1⟩ := hs.smp hlt
      have hyb := HSS.out ss[j] (List.getElem_mem _)
      have HDJ := Lib.hid (List.drop_eq_getElem_cons hjl)
      have hal : (ad.add (j * 2)).block < wr.heap.size := World.block_lt_of_cell? wr _ c0
      generalize ss[j] = p at *
      obtain ⟨y, z⟩ := p
      simp only at c0 c1 hyb
      obtain ⟨hy0, hy1⟩ := hyb
      have hl1 := inR_len f t y
      have hl2 := inR_len f t (y + look)
      have kx : Blk (wr.alloc (.cells #[.int .i64 y, .int .i64 z] 30)) wr.heap.size 30 [.int .i64 y, .int .i64 z] := Blk.mk (heap_alloc_new wr _)
      have HKX := Lib.hid kx
      have HK1 := Lib.hid (HK.out.alloc (.cells #[.int .i64 y, .int .i64 z] 30))
      have HO1 := Lib.hid (HO.out.alloc (.cells #[.int .i64 y, .int .i64 z] 30))
      have HB1 := Lib.hid (HB.out.alloc (by omega) (.cells #[.int .i64 y, .int .i64 z] 30))
      have HVX : Hid (v.ownBlock ≠ some wr.heap.size) := fun e => by have := (HO.out.lt _ e).2; omega
      obtain ⟨hd1, hd2, hd3, hds⟩ := HF.out _ HB1.out
      clear kx hs hds
      go_wp2_with fail
      refine (note_any y f t _ _ (b + 1 + 1) v ts _ hd1 hd2 HK1.out HO1.out (by omega)).mono ?_; rintro e w2 ⟨v2, rfl, hk2, ho2, ht2⟩
      have hx2 := ht2.blk HKX.out (by omega) HVX.out
      have HB2 := Lib.hid (HB1.out.trans (ht2.below (Nat.le_refl _) (fun k hk => by have := (HO1.out.lt k hk).1; omega) (by simp; omega)))
      have HK2 := Lib.hid hk2; have HO2 := Lib.hid ho2
      have hx0 : w2.cell? ⟨wr.heap.size, 0, none⟩ = some (.int .i64 y) := hx2.cell 0
      have hsz2 : b + 1 + 1 < w2.heap.size := hk2.lt
      clear hk2 ho2 ht2 hx2 hd1 hd2 hd3 hc1 hc2 hc3 c0 c1 hal
      obtain ⟨hc1, hc2, hc3, hs2⟩ := HF.out w2 HB2.out
      by_cases hlast : j + 1 = m
      · have hlb : ((j : Int) + 1 == m) = true := by simp; omega
        have HD1 := Lib.hid (show ss.drop (j + 1) = [] from List.drop_of_length_le (by rw [HM.out]; omega))
        clear hs2 hlast
        have HSTEP := Lib.hid (show chg look f t (ss.drop j) = inR f t y ++ inR f t (y + look) ++ chg look f t (ss.drop (j + 1)) from by rw [HDJ.out, HD1.out]; simp [chg])
        go_wp2_with fail
        refine (note_any (y + look) f t _ _ (b + 1 + 1) v2 (ts ++ inR f t y) w2 hc1 hc2 HK2.out HO2.out (by rw [List.length_append]; omega)).mono ?_; rintro e w4 ⟨v4, rfl, hk4, ho4, ht4⟩
        have HB4 := Lib.hid (HB2.out.trans (ht4.below (Nat.le_refl _) (fun k hk => by have := (HO2.out.lt k hk).1; omega) (by have := HK2.out.lt; omega)))
        have HK4 := Lib.hid hk4; have HO4 := Lib.hid ho4
        clear hk4 ho4 ht4
        go_wp2_with fail
        go_roundw
        case rel => exact ⟨j + 1, v4, ts ++ inR f t y ++ inR f t (y + look), by omega, by go_num, HK4.out, HO4.out, by rw [HE.out, HSTEP.out]; simp only [List.append_assoc], by rw [List.length_append, List.length_append]; omega, HB4.out⟩
        case measure => simp [intOf]; omega
      · have hlb : ((j : Int) + 1 == m) = false := by simp; omega
        obtain ⟨ad2, hjl2, hA2, c2, c3⟩ := hs2.smp (show j + 1 < m by omega)
        injection hA2 with hA2; subst hA2
        have HDJ2 := Lib.hid (List.drop_eq_getElem_cons hjl2)
        have hal2 := World.block_lt_of_cell? w2 _ c2
        have hjm : j + 1 < m := by omega
        generalize ss[j + 1] = p2 at *
        obtain ⟨y2, z2⟩ := p2
        simp only at c2 c3
        clear hs2 hlast
        by_cases hgt : y + look < y2
        · have hgt2 : y2 > y + look := hgt
          have HSTEP := Lib.hid (show chg look f t (ss.drop j) = inR f t y ++ inR f t (y + look) ++ chg look f t (ss.drop (j + 1)) from by rw [HDJ.out, HDJ2.out]; simp only [chg, if_pos hgt, List.append_assoc])
          go_wp2_with fail
          refine (note_any (y + look) f t _ _ (b + 1 + 1) v2 (ts ++ inR f t y) w2 hc1 hc2 HK2.out HO2.out (by rw [List.length_append]; omega)).mono ?_; rintro e w4 ⟨v4, rfl, hk4, ho4, ht4⟩
          have HB4 := Lib.hid (HB2.out.trans (ht4.below (Nat.le_refl _) (fun k hk => by have := (HO2.out.lt k hk).1; omega) (by have := HK2.out.lt; omega)))
          have HK4 := Lib.hid hk4; have HO4 := Lib.hid ho4
          clear hk4 ho4 ht4
          go_wp2_with fail
          go_roundw
          case rel => exact ⟨j + 1, v4, ts ++ inR f t y ++ inR f t (y + look), by omega, by go_num, HK4.out, HO4.out, by rw [HE.out, HSTEP.out]; simp only [List.append_assoc], by rw [List.length_append, List.length_append]; omega, HB4.out⟩
          case measure => simp [intOf]; omega
        · have HSTEP := Lib.hid (show chg look f t (ss.drop j) = inR f t y ++ chg look f t (ss.drop (j + 1)) from by rw [HDJ.out, HDJ2.out]; simp only [chg, if_neg hgt, List.append_nil])
          have hgt2 : ¬ y2 > y + look := hgt
          go_wp2_with fail
          go_roundw
          case rel => exact ⟨j + 1, v2, ts ++ inR f t y, by omega, by go_num, HK2.out, HO2.out, by rw [HE.out, HSTEP.out]; simp only [List.append_assoc], by rw [List.length_append]; omega, HB2.out⟩
          case measure => simp [intOf]; omega
    · obtain rfl : j = m := by omega
      have hall : chg look f t ss = ts := by rw [HE.out, List.drop_of_length_le (by rw [HM.out]; exact Nat.le_refl _)]; simp [chg]
      obtain ⟨A2, c2, rfl, hc4, hc5⟩ := own_slice HO.out
      have hv : wr.cell? ⟨b + 1 + 1, 0, none⟩ = some (.slice A2 ts.length c2) := HK.out.cell 0
      have HALL := Lib.hid hall
      clear hall hs
      go_wp2_with fail
      go_ret
      refine ownAns (A := A2) (c := c2) (by rw [HALL.out]; exact own_mono HO.out (by have := HBW.out; omega)) (HB3.out.trans (HB.out.mono (by have := HBW.out; omega))) (by rw [HALL.out]; rfl) (by rw [HALL.out]; exact hc4) hc5
end Go.Proofs.YtlmakdclebbbkaaGreat
