/- Package series: Add. -/
import Derived.Test.YtlcpnlmfnllgmaaSeries
namespace Go.Proofs.Ytlcpnlmfnllgmaa
open Go.ChangeShapes Go.WideShapes Go.ChangeAt Go.RowKit
set_option linter.unusedVariables false
set_option maxRecDepth 100000
/-- What is told of samples that are added behind time a, c samples there. -/
def addErr : Int → Nat → List (Int × Int) → Int
  | _, _, [] => 0
  | a, c, x :: xs => if x.1 < 0 ∨ 1099511627776 < x.1 then 1 else if x.1 ≤ a then 2 else if 200 ≤ c then 8 else addErr x.1 (c + 1) xs
section
variable {a y z : Int} {c : Nat} {xs : List (Int × Int)}
theorem addErr_form (h : y < 0 ∨ 1099511627776 < y) : addErr a c ((y, z) :: xs) = 1 := by unfold addErr; rw [if_pos h]
theorem addErr_order (h0 : ¬ y < 0) (h1 : ¬ 1099511627776 < y) (h : y ≤ a) : addErr a c ((y, z) :: xs) = 2 := by unfold addErr; rw [if_neg (by simp only; omega), if_pos h]
theorem addErr_full (h0 : ¬ y < 0) (h1 : ¬ 1099511627776 < y) (h2 : ¬ y ≤ a) (h : 200 ≤ c) : addErr a c ((y, z) :: xs) = 8 := by unfold addErr; rw [if_neg (by simp only; omega), if_neg h2, if_pos h]
theorem addErr_next (h0 : ¬ y < 0) (h1 : ¬ 1099511627776 < y) (h2 : ¬ y ≤ a) (h : ¬ 200 ≤ c) : addErr a c ((y, z) :: xs) = addErr y (c + 1) xs := by
  rw [addErr, if_neg (by simp only; omega), if_neg h2, if_neg h]
end
/-- But for block g all is as it was. -/
structure Only (g : Nat) (w w' : World) : Prop where
  os : w'.os = w.os
  tape : w'.tape = w.tape
  output : w'.output = w.output
  size : w.heap.size ≤ w'.heap.size
  block : ∀ k, k < w.heap.size → k ≠ g → w'.heap[k]? = w.heap[k]?
theorem Only.of_below {g : Nat} {w w' : World} (h : Below w.heap.size w w') : Only g w w' := ⟨h.os, h.tape, h.output, h.size, fun k hk _ => h.block k hk⟩
theorem Only.setCell {g : Nat} {w w' : World} (h : Only g w w') (u : Value) : Only g w (w'.setCell ⟨g, 0, none⟩ u) :=
  ⟨h.os, h.tape, h.output, by simpa using h.size, fun k hk h1 => (Below.heap_setCell w' ⟨g, 0, none⟩ u k h1).trans (h.block k hk h1)⟩
theorem Only.below {g B : Nat} {w w' : World} (h : Only g w w') (hB : B ≤ g) (hs : B ≤ w.heap.size) : Below B w w' := ⟨h.os, h.tape, h.output, h.size, fun k hk => h.block k (by omega) (by omega)⟩
theorem Only.own {g : Nat} {u : Value} {w w' : World} {base : Nat} {e : TypeId} {s n : Nat} {xs : List Value} (h : Only g w w') (ho : w.ownsRow base e s u n xs) (hg : u.ownBlock ≠ some g) : w'.ownsRow base e s u n xs := by
  refine ⟨ho.1, ?_⟩
  rcases ho.2 with h2 | ⟨k, cap, cur, rfl, hb, hh, rest⟩
  · exact .inl h2
  · refine .inr ⟨k, cap, cur, rfl, hb, ?_, rest⟩
    rw [h.block k (Array.getElem?_eq_some_iff.1 hh).1 (fun e => hg (by rw [e]; rfl))]
    exact hh
theorem below_drewN3 {B : Nat} {a w : World} (h : Below B a w) (n : Nat) : Below B a (w.drewN n) := ⟨h.os, h.tape, h.output, h.size, h.block⟩
/-- What is told of an addition, and what it leaves. -/
def AddAns (ss xs : List (Int × Int)) (g : Nat) (w : World) (e : Ending) (w' : World) : Prop :=
  ∃ v', e = .returned (.int .i64 (addErr (lastT ss) ss.length xs)) ∧ SerAt (if addErr (lastT ss) ss.length xs = 0 then ss ++ xs else ss) w' g v' ∧ Only g w w'
theorem addAns {ss xs : List (Int × Int)} {g : Nat} {w w' : World} {r : Int} {v' : Value} (h1 : addErr (lastT ss) ss.length xs = r) (h2 : SerAt (if addErr (lastT ss) ss.length xs = 0 then ss ++ xs else ss) w' g v') (h3 : Only g w w') : AddAns ss xs g w (.returned (.int .i64 r)) w' :=
  ⟨v', by rw [h1], h2, h3⟩
theorem parts_two {w : World} {A A2 : Option Addr} {n c n2 c2 : Nat} {l l2 : List (Int × Int)} {t : TypeId} (h : Sees w w.heap.size 2 A n (smps l)) (h2 : Sees w w.heap.size 2 A2 n2 (smps l2)) (hl : l.length = n) (hl2 : l2.length = n2)
    (hc : n ≤ c) (hm : c ≤ 9223372036854775807) (hc2 : n2 ≤ c2) (hm2 : c2 ≤ 9223372036854775807) :
    PartsSmp (w.alloc (.cells #[.slice A n c, .slice A2 n2 c2] t)) (w.alloc (.cells #[.slice A n c, .slice A2 n2 c2] t)).heap.size (some ⟨w.heap.size, 0, none⟩) 2 [l, l2] := by
  have hk : Blk (w.alloc (.cells #[.slice A n c, .slice A2 n2 c2] t)) w.heap.size t [.slice A n c, .slice A2 n2 c2] := Blk.mk (heap_alloc_new w _)
  refine ⟨rfl, fun j l' hj => ?_⟩
  match j, hj with
  | 0, hj =>
    injection hj with hj; subst hj
    refine ⟨_, A, n, c, rfl, by simp, ?_, (h.alloc (Nat.le_refl _) _).more (by simp), hl.symm, hc, hm⟩
    rw [add_zero']; exact hk.cell 0
  | 1, hj =>
    injection hj with hj; subst hj
    exact ⟨_, A2, n2, c2, rfl, by simp, hk.cell 1, (h2.alloc (Nat.le_refl _) _).more (by simp), hl2.symm, hc2, hm2⟩
set_option maxHeartbeats 4000000 in
theorem add_any (ss xs : List (Int × Int)) (g : Nat) (v : Value) (A2 : Option Addr) (m c2 : Nat) (w : World) (h : SerAt ss w g v) (hss : ss.length ≤ 1000) (hx : Sees w w.heap.size 2 A2 m (smps xs)) (hm : m ≤ 1000) (hcc : m ≤ c2) (hcd : c2 ≤ 9223372036854775807) :
    Calls Try.prog 5 #[.pointer (some ⟨g, 0, none⟩), .slice A2 m c2] w (AddAns ss xs g w) := by
  obtain ⟨A, c, rfl, hca, hcb⟩ := own_slice h.2
  have hg := h.1.lt
  have HSR := Lib.hid h
  have HXS := Lib.hid hx
  have HXL := Lib.hid hx.smp_len
  clear hx
  rcases Nat.eq_zero_or_pos ss.length with h0 | h0
  · have hnil : ss = [] := List.eq_nil_of_length_eq_zero h0
    have HL := Lib.hid (last_none g (.slice A ss.length c) w (hnil ▸ h))
    have HSTART : Hid (addErr (lastT ss) ss.length xs = addErr (-1) (ss.length + 0) (xs.drop 0)) := by subst hnil; rfl
    clear h hnil h0
    go_enter Try.func5, Try.ntmps5
    go_wp2_with fail
    refine HL.out.mono ?_; rintro e w1 ⟨rfl, hb1⟩
    have hs1 := hb1.size
    have HB1 := Lib.hid ((hb1.alloc hs1 (.cells #[.int .i64 0, .int .i64 0] 30)))
    clear hb1
    go_wp2_with fail
    go_loopw [5, 20] (fun x i wr => ∃ (j : Nat) (a : Int), j ≤ m ∧ i = .int .i64 j ∧ x = .int .i64 a ∧ addErr (lastT ss) ss.length xs = addErr a (ss.length + j) (xs.drop j) ∧ Below w.heap.size w wr) (fun _ i _ => m - (intOf i).toNat)
    case atStart => exact ⟨0, _, Nat.zero_le _, rfl, rfl, HSTART.out, HB1.out⟩
    case round =>
      obtain ⟨j, a, hj, rfl, rfl, he, hbel⟩ := hrel
      have HE := Lib.hid he; have HB := Lib.hid hbel; clear he hbel
      have hsz := HB.out.size
      have HSW := Lib.hid (HSR.out.below HB.out)
      have HON := Lib.hid (Only.of_below (g := g) HB.out)
      by_cases hlt : j < m
      · obtain ⟨ad, hjl, rfl, c0, c1⟩ := (HXS.out.below HB.out).smp hlt
        have hal : (ad.add (j * 2)).block < wr.heap.size := World.block_lt_of_cell? wr _ c0
        have HX := Lib.hid (show addErr a (ss.length + j) (xs.drop j) = addErr a (ss.length + j) (xs[j] :: xs.drop (j + 1)) by rw [List.drop_eq_getElem_cons hjl])
        have hc0 : wr.cell? ⟨g, 0, none⟩ = some (.slice A ss.length c) := HSW.out.1.cell 0
        have hgw : g < wr.heap.size := by omega
        generalize xs[j] = p at *
        obtain ⟨y, z⟩ := p
        try simp only at c0 c1
        generalize hsl : ss.length = sl at *
        have HSL := Lib.hid hsl; clear hsl
        have HSX : Hid (∀ W, Below wr.heap.size wr W → SerAt ss W g (.slice A sl c)) := fun W h => HSW.out.below h
        have HBX : Hid (∀ W, Below wr.heap.size wr W → Below w.heap.size w W) := fun W h => HB.out.trans (h.mono hsz)
        by_cases hy0 : y < 0
        · go_wp2_with fail
          go_ret
          exact addAns (v' := .slice A sl c) (by rw [HSL.out, HE.out, HX.out, addErr_form (y := y) (.inl (by omega))]) (by rw [HSL.out, HE.out, HX.out, addErr_form (y := y) (.inl (by omega)), if_neg (by omega)]; exact HSX.out _ (by repeat (first | exact Below.refl _ _ | refine Below.setCell ?_ (by simp) _ | refine below_drewN3 ?_ _ | refine Below.drew ?_ | refine Below.alloc ?_ (by simp) _ | refine Below.alloc ?_ (by simp; omega) _))) (Only.of_below (HBX.out _ (by repeat (first | exact Below.refl _ _ | refine Below.setCell ?_ (by simp) _ | refine below_drewN3 ?_ _ | refine Below.drew ?_ | refine Below.alloc ?_ (by simp) _ | refine Below.alloc ?_ (by simp; omega) _))))
        by_cases hy1 : 1099511627776 < y
        · go_wp2_with fail
          go_ret
          exact addAns (v' := .slice A sl c) (by rw [HSL.out, HE.out, HX.out, addErr_form (y := y) (.inr (by omega))]) (by rw [HSL.out, HE.out, HX.out, addErr_form (y := y) (.inr (by omega)), if_neg (by omega)]; exact HSX.out _ (by repeat (first | exact Below.refl _ _ | refine Below.setCell ?_ (by simp) _ | refine below_drewN3 ?_ _ | refine Below.drew ?_ | refine Below.alloc ?_ (by simp) _ | refine Below.alloc ?_ (by simp; omega) _))) (Only.of_below (HBX.out _ (by repeat (first | exact Below.refl _ _ | refine Below.setCell ?_ (by simp) _ | refine below_drewN3 ?_ _ | refine Below.drew ?_ | refine Below.alloc ?_ (by simp) _ | refine Below.alloc ?_ (by simp; omega) _))))
        by_cases hya : y ≤ a
        · go_wp2_with fail
          go_ret
          exact addAns (v' := .slice A sl c) (by rw [HSL.out, HE.out, HX.out, addErr_order (y := y) (a := a) (by omega) (by omega) (by omega)]) (by rw [HSL.out, HE.out, HX.out, addErr_order (y := y) (a := a) (by omega) (by omega) (by omega), if_neg (by omega)]; exact HSX.out _ (by repeat (first | exact Below.refl _ _ | refine Below.setCell ?_ (by simp) _ | refine below_drewN3 ?_ _ | refine Below.drew ?_ | refine Below.alloc ?_ (by simp) _ | refine Below.alloc ?_ (by simp; omega) _))) (Only.of_below (HBX.out _ (by repeat (first | exact Below.refl _ _ | refine Below.setCell ?_ (by simp) _ | refine below_drewN3 ?_ _ | refine Below.drew ?_ | refine Below.alloc ?_ (by simp) _ | refine Below.alloc ?_ (by simp; omega) _))))
        by_cases hfl : (200 : Int) ≤ (sl : Int) + j
        · have hfl2 : (sl : Int) + j ≥ 200 := hfl
          go_wp2_with fail
          go_ret
          exact addAns (v' := .slice A sl c) (by rw [HSL.out, HE.out, HX.out, addErr_full (y := y) (a := a) (c := sl + j) (by omega) (by omega) (by omega) (by omega)]) (by rw [HSL.out, HE.out, HX.out, addErr_full (y := y) (a := a) (c := sl + j) (by omega) (by omega) (by omega) (by omega), if_neg (by omega)]; exact HSX.out _ (by repeat (first | exact Below.refl _ _ | refine Below.setCell ?_ (by simp) _ | refine below_drewN3 ?_ _ | refine Below.drew ?_ | refine Below.alloc ?_ (by simp) _ | refine Below.alloc ?_ (by simp; omega) _))) (Only.of_below (HBX.out _ (by repeat (first | exact Below.refl _ _ | refine Below.setCell ?_ (by simp) _ | refine below_drewN3 ?_ _ | refine Below.drew ?_ | refine Below.alloc ?_ (by simp) _ | refine Below.alloc ?_ (by simp; omega) _))))
        · have hfl2 : ¬ (sl : Int) + j ≥ 200 := hfl
          go_wp2_with fail
          go_roundw
          case rel => exact ⟨j + 1, y, by omega, by go_num, rfl, by rw [HE.out, HX.out, addErr_next (y := y) (a := a) (c := sl + j) (by omega) (by omega) (by omega) (by omega)]; rfl, HBX.out _ (by repeat (first | exact Below.refl _ _ | refine Below.setCell ?_ (by simp) _ | refine below_drewN3 ?_ _ | refine Below.drew ?_ | refine Below.alloc ?_ (by simp) _ | refine Below.alloc ?_ (by simp; omega) _))⟩
          case measure => simp [intOf]; omega
      · obtain rfl : j = m := by omega
        have hz : addErr (lastT ss) ss.length xs = 0 := by rw [HE.out, List.drop_of_length_le (by rw [HXL.out]; exact Nat.le_refl _)]; rfl
        have HZ := Lib.hid hz; clear hz
        have hc0 : wr.cell? ⟨g, 0, none⟩ = some (.slice A ss.length c) := HSW.out.1.cell 0
        have hgw : g < wr.heap.size := by omega
        have HS1 := Lib.hid (Sees.of_own HSW.out.2)
        have HS2 := Lib.hid ((HXS.out.below HB.out).more hsz)
        have HP := Lib.hid (parts_two (t := 23) HS1.out HS2.out rfl HXL.out hca hcb hcc hcd)
        have hb2 : Below wr.heap.size wr (wr.alloc (.cells #[.slice A ss.length c, .slice A2 j c2] 23)) := (Below.refl _ _).alloc (Nat.le_refl _) _
        have HSW2 := Lib.hid (HSW.out.below hb2)
        have HB2 := Lib.hid (HB.out.trans (hb2.mono hsz))
        have hs2 : wr.heap.size < (wr.alloc (.cells #[.slice A ss.length c, .slice A2 j c2] 23)).heap.size := by simp
        clear hb2 HS1 HS2 HON
        go_wp2_with fail
        refine (concat_Smp _ 2 2 [ss, xs] _ HP.out (by omega) (by have := HXL.out; simp; omega)).mono ?_; rintro e w3 ⟨A3, c3, rfl, hown3, hbel3, hc3, hc4⟩
        have hfl : ([ss, xs] : List (List (Int × Int))).flatten = ss ++ xs := by simp
        rw [hfl] at hown3
        rw [hfl]
        have HSW3 := Lib.hid (HSW2.out.below hbel3)
        have hs3 := hbel3.size
        have HB3 := Lib.hid (HB2.out.trans (hbel3.mono (by omega)))
        have hk3 : w3.cell? ⟨g, 0, none⟩ = some (.slice A ss.length c) := HSW3.out.1.cell 0
        have hf3 : w3.frozen? ⟨g, 0, none⟩ = false := HSW3.out.1.frozen 0
        have hg3 := HSW3.out.1.lt
        have hat : SerAt (ss ++ xs) (w3.setCell ⟨g, 0, none⟩ (.slice A3 (ss ++ xs).length c3)) g (.slice A3 (ss ++ xs).length c3) :=
          ⟨HSW3.out.1.set 0 _, own_far (base := g + 1) (p := ⟨g, 0, none⟩) (own_mono hown3 (by omega)) (Nat.lt_succ_self _) _⟩
        have HAT := Lib.hid hat
        have HON := Lib.hid ((Only.of_below (g := g) HB3.out).setCell (.slice A3 (ss ++ xs).length c3))
        have hln : (ss ++ xs).length = ss.length + xs.length := List.length_append
        rw [hln] at HAT HON ⊢
        clear hown3 hbel3 hat hfl hln hc3 hc0
        go_wp2_with fail
        go_ret
        exact addAns (by rw [HZ.out]) (by rw [HZ.out, if_pos rfl]; exact HAT.out) HON.out
  · obtain ⟨j0, hj0⟩ : ∃ j, ss.length = j + 1 := ⟨ss.length - 1, by omega⟩
    obtain ⟨⟨y0, z0⟩, hyz⟩ : ∃ p, ss[j0]? = some p := ⟨_, List.getElem?_eq_getElem (by omega)⟩
    have HL := Lib.hid (last_some ss j0 g _ w h hj0 (by omega) y0 z0 hyz)
    have hlt : lastT ss = y0 := by unfold lastT; rw [hj0, Nat.add_sub_cancel, List.getD_eq_getElem?_getD, hyz]; rfl
    have HSTART : Hid (addErr (lastT ss) ss.length xs = addErr y0 (ss.length + 0) (xs.drop 0)) := by rw [hlt]; rfl
    clear h hyz hj0 hlt h0
    go_enter Try.func5, Try.ntmps5
    go_wp2_with fail
    refine HL.out.mono ?_; rintro e w1 ⟨rfl, hb1⟩
    have hs1 := hb1.size
    have HB1 := Lib.hid ((hb1.alloc hs1 (.cells #[.int .i64 y0, .int .i64 z0] 30)))
    clear hb1
    go_wp2_with fail
    go_loopw [5, 20] (fun x i wr => ∃ (j : Nat) (a : Int), j ≤ m ∧ i = .int .i64 j ∧ x = .int .i64 a ∧ addErr (lastT ss) ss.length xs = addErr a (ss.length + j) (xs.drop j) ∧ Below w.heap.size w wr) (fun _ i _ => m - (intOf i).toNat)
    case atStart => exact ⟨0, _, Nat.zero_le _, rfl, rfl, HSTART.out, HB1.out⟩
    case round =>
      obtain ⟨j, a, hj, rfl, rfl, he, hbel⟩ := hrel
      have HE := Lib.hid he; have HB := Lib.hid hbel; clear he hbel
      have hsz := HB.out.size
      have HSW := Lib.hid (HSR.out.below HB.out)
      have HON := Lib.hid (Only.of_below (g := g) HB.out)
      by_cases hlt : j < m
      · obtain ⟨ad, hjl, rfl, c0, c1⟩ := (HXS.out.below HB.out).smp hlt
        have hal : (ad.add (j * 2)).block < wr.heap.size := World.block_lt_of_cell? wr _ c0
        have HX := Lib.hid (show addErr a (ss.length + j) (xs.drop j) = addErr a (ss.length + j) (xs[j] :: xs.drop (j + 1)) by rw [List.drop_eq_getElem_cons hjl])
        have hc0 : wr.cell? ⟨g, 0, none⟩ = some (.slice A ss.length c) := HSW.out.1.cell 0
        have hgw : g < wr.heap.size := by omega
        generalize xs[j] = p at *
        obtain ⟨y, z⟩ := p
        try simp only at c0 c1
        generalize hsl : ss.length = sl at *
        have HSL := Lib.hid hsl; clear hsl
        have HSX : Hid (∀ W, Below wr.heap.size wr W → SerAt ss W g (.slice A sl c)) := fun W h => HSW.out.below h
        have HBX : Hid (∀ W, Below wr.heap.size wr W → Below w.heap.size w W) := fun W h => HB.out.trans (h.mono hsz)
        by_cases hy0 : y < 0
        · go_wp2_with fail
          go_ret
          exact addAns (v' := .slice A sl c) (by rw [HSL.out, HE.out, HX.out, addErr_form (y := y) (.inl (by omega))]) (by rw [HSL.out, HE.out, HX.out, addErr_form (y := y) (.inl (by omega)), if_neg (by omega)]; exact HSX.out _ (by repeat (first | exact Below.refl _ _ | refine Below.setCell ?_ (by simp) _ | refine below_drewN3 ?_ _ | refine Below.drew ?_ | refine Below.alloc ?_ (by simp) _ | refine Below.alloc ?_ (by simp; omega) _))) (Only.of_below (HBX.out _ (by repeat (first | exact Below.refl _ _ | refine Below.setCell ?_ (by simp) _ | refine below_drewN3 ?_ _ | refine Below.drew ?_ | refine Below.alloc ?_ (by simp) _ | refine Below.alloc ?_ (by simp; omega) _))))
        by_cases hy1 : 1099511627776 < y
        · go_wp2_with fail
          go_ret
          exact addAns (v' := .slice A sl c) (by rw [HSL.out, HE.out, HX.out, addErr_form (y := y) (.inr (by omega))]) (by rw [HSL.out, HE.out, HX.out, addErr_form (y := y) (.inr (by omega)), if_neg (by omega)]; exact HSX.out _ (by repeat (first | exact Below.refl _ _ | refine Below.setCell ?_ (by simp) _ | refine below_drewN3 ?_ _ | refine Below.drew ?_ | refine Below.alloc ?_ (by simp) _ | refine Below.alloc ?_ (by simp; omega) _))) (Only.of_below (HBX.out _ (by repeat (first | exact Below.refl _ _ | refine Below.setCell ?_ (by simp) _ | refine below_drewN3 ?_ _ | refine Below.drew ?_ | refine Below.alloc ?_ (by simp) _ | refine Below.alloc ?_ (by simp; omega) _))))
        by_cases hya : y ≤ a
        · go_wp2_with fail
          go_ret
          exact addAns (v' := .slice A sl c) (by rw [HSL.out, HE.out, HX.out, addErr_order (y := y) (a := a) (by omega) (by omega) (by omega)]) (by rw [HSL.out, HE.out, HX.out, addErr_order (y := y) (a := a) (by omega) (by omega) (by omega), if_neg (by omega)]; exact HSX.out _ (by repeat (first | exact Below.refl _ _ | refine Below.setCell ?_ (by simp) _ | refine below_drewN3 ?_ _ | refine Below.drew ?_ | refine Below.alloc ?_ (by simp) _ | refine Below.alloc ?_ (by simp; omega) _))) (Only.of_below (HBX.out _ (by repeat (first | exact Below.refl _ _ | refine Below.setCell ?_ (by simp) _ | refine below_drewN3 ?_ _ | refine Below.drew ?_ | refine Below.alloc ?_ (by simp) _ | refine Below.alloc ?_ (by simp; omega) _))))
        by_cases hfl : (200 : Int) ≤ (sl : Int) + j
        · have hfl2 : (sl : Int) + j ≥ 200 := hfl
          go_wp2_with fail
          go_ret
          exact addAns (v' := .slice A sl c) (by rw [HSL.out, HE.out, HX.out, addErr_full (y := y) (a := a) (c := sl + j) (by omega) (by omega) (by omega) (by omega)]) (by rw [HSL.out, HE.out, HX.out, addErr_full (y := y) (a := a) (c := sl + j) (by omega) (by omega) (by omega) (by omega), if_neg (by omega)]; exact HSX.out _ (by repeat (first | exact Below.refl _ _ | refine Below.setCell ?_ (by simp) _ | refine below_drewN3 ?_ _ | refine Below.drew ?_ | refine Below.alloc ?_ (by simp) _ | refine Below.alloc ?_ (by simp; omega) _))) (Only.of_below (HBX.out _ (by repeat (first | exact Below.refl _ _ | refine Below.setCell ?_ (by simp) _ | refine below_drewN3 ?_ _ | refine Below.drew ?_ | refine Below.alloc ?_ (by simp) _ | refine Below.alloc ?_ (by simp; omega) _))))
        · have hfl2 : ¬ (sl : Int) + j ≥ 200 := hfl
          go_wp2_with fail
          go_roundw
          case rel => exact ⟨j + 1, y, by omega, by go_num, rfl, by rw [HE.out, HX.out, addErr_next (y := y) (a := a) (c := sl + j) (by omega) (by omega) (by omega) (by omega)]; rfl, HBX.out _ (by repeat (first | exact Below.refl _ _ | refine Below.setCell ?_ (by simp) _ | refine below_drewN3 ?_ _ | refine Below.drew ?_ | refine Below.alloc ?_ (by simp) _ | refine Below.alloc ?_ (by simp; omega) _))⟩
          case measure => simp [intOf]; omega
      · obtain rfl : j = m := by omega
        have hz : addErr (lastT ss) ss.length xs = 0 := by rw [HE.out, List.drop_of_length_le (by rw [HXL.out]; exact Nat.le_refl _)]; rfl
        have HZ := Lib.hid hz; clear hz
        have hc0 : wr.cell? ⟨g, 0, none⟩ = some (.slice A ss.length c) := HSW.out.1.cell 0
        have hgw : g < wr.heap.size := by omega
        have HS1 := Lib.hid (Sees.of_own HSW.out.2)
        have HS2 := Lib.hid ((HXS.out.below HB.out).more hsz)
        have HP := Lib.hid (parts_two (t := 23) HS1.out HS2.out rfl HXL.out hca hcb hcc hcd)
        have hb2 : Below wr.heap.size wr (wr.alloc (.cells #[.slice A ss.length c, .slice A2 j c2] 23)) := (Below.refl _ _).alloc (Nat.le_refl _) _
        have HSW2 := Lib.hid (HSW.out.below hb2)
        have HB2 := Lib.hid (HB.out.trans (hb2.mono hsz))
        have hs2 : wr.heap.size < (wr.alloc (.cells #[.slice A ss.length c, .slice A2 j c2] 23)).heap.size := by simp
        clear hb2 HS1 HS2 HON
        go_wp2_with fail
        refine (concat_Smp _ 2 2 [ss, xs] _ HP.out (by omega) (by have := HXL.out; simp; omega)).mono ?_; rintro e w3 ⟨A3, c3, rfl, hown3, hbel3, hc3, hc4⟩
        have hfl : ([ss, xs] : List (List (Int × Int))).flatten = ss ++ xs := by simp
        rw [hfl] at hown3
        rw [hfl]
        have HSW3 := Lib.hid (HSW2.out.below hbel3)
        have hs3 := hbel3.size
        have HB3 := Lib.hid (HB2.out.trans (hbel3.mono (by omega)))
        have hk3 : w3.cell? ⟨g, 0, none⟩ = some (.slice A ss.length c) := HSW3.out.1.cell 0
        have hf3 : w3.frozen? ⟨g, 0, none⟩ = false := HSW3.out.1.frozen 0
        have hg3 := HSW3.out.1.lt
        have hat : SerAt (ss ++ xs) (w3.setCell ⟨g, 0, none⟩ (.slice A3 (ss ++ xs).length c3)) g (.slice A3 (ss ++ xs).length c3) :=
          ⟨HSW3.out.1.set 0 _, own_far (base := g + 1) (p := ⟨g, 0, none⟩) (own_mono hown3 (by omega)) (Nat.lt_succ_self _) _⟩
        have HAT := Lib.hid hat
        have HON := Lib.hid ((Only.of_below (g := g) HB3.out).setCell (.slice A3 (ss ++ xs).length c3))
        have hln : (ss ++ xs).length = ss.length + xs.length := List.length_append
        rw [hln] at HAT HON ⊢
        clear hown3 hbel3 hat hfl hln hc3 hc0
        go_wp2_with fail
        go_ret
        exact addAns (by rw [HZ.out]) (by rw [HZ.out, if_pos rfl]; exact HAT.out) HON.out
end Go.Proofs.Ytlcpnlmfnllgmaa
