/- Package series: Add, and where its list lies; ahead, All, Cut, Between; Same of samples. -/
import Derived.Test.YtlcpnlmfnllgmaaSeriesAdd
import Derived.Test.YtlcpnlmfnllgmaaBookInt
namespace Go.Proofs.Ytlcpnlmfnllgmaa
open Go.ChangeShapes Go.WideShapes Go.ChangeAt Go.RowKit
set_option linter.unusedVariables false
set_option maxRecDepth 100000
/-- As 'AddAns'; the list lies where it lay, or in new memory. -/
def AddAns2 (ss xs : List (Int × Int)) (g : Nat) (v : Value) (w : World) (e : Ending) (w' : World) : Prop :=
  ∃ v', (v' = v ∨ ∀ k, v'.ownBlock = some k → w.heap.size ≤ k) ∧ e = .returned (.int .i64 (addErr (lastT ss) ss.length xs)) ∧ SerAt (if addErr (lastT ss) ss.length xs = 0 then ss ++ xs else ss) w' g v' ∧ Only g w w'
theorem addAns2 {ss xs : List (Int × Int)} {g : Nat} {v : Value} {w w' : World} {r : Int} {v' : Value} (h0 : v' = v ∨ ∀ k, v'.ownBlock = some k → w.heap.size ≤ k) (h1 : addErr (lastT ss) ss.length xs = r) (h2 : SerAt (if addErr (lastT ss) ss.length xs = 0 then ss ++ xs else ss) w' g v') (h3 : Only g w w') : AddAns2 ss xs g v w (.returned (.int .i64 r)) w' :=
  ⟨v', h0, by rw [h1], h2, h3⟩
set_option maxHeartbeats 4000000 in
theorem add_all (ss xs : List (Int × Int)) (g : Nat) (v : Value) (A2 : Option Addr) (m c2 : Nat) (w : World) (h : SerAt ss w g v) (hss : ss.length ≤ 1000) (hx : Sees w w.heap.size 2 A2 m (smps xs)) (hm : m ≤ 1000) (hcc : m ≤ c2) (hcd : c2 ≤ 9223372036854775807) :
    Calls Try.prog 5 #[.pointer (some ⟨g, 0, none⟩), .slice A2 m c2] w (AddAns2 ss xs g v w) := by
  obtain ⟨A, c, rfl, hca, hcb⟩ := own_slice h.2
  have hg := h.1.lt
  have HSR := Lib.hid h
  have HXS := Lib.hid hx
  have HXL := Lib.hid hx.smp_len
  clear hx
  rcases Nat.eq_zero_or_pos ss.length with h0 | h0
  · have hnil : ss = [] := List.eq_nil_of_length_eq_zero h0
    have HL := Lib.hid (last_none g (.slice A ss.length c) w (hnil ▸ h))
    have HSTART : Hid (addErr (lastT ss) ss.length xs = addErr (-1) (ss.length + 0) (xs.drop 0)) := by subst hnil; rfl
    clear h hnil h0
    go_enter Try.func5, Try.ntmps5
    go_wp2_with fail
    refine HL.out.mono ?_; rintro e w1 ⟨rfl, hb1⟩
    have hs1 := hb1.size
    have HB1 := Lib.hid ((hb1.alloc hs1 (.cells #[.int .i64 0, .int .i64 0] 30)))
    clear hb1
    go_wp2_with fail
    go_loopw [5, 20] (fun x i wr => ∃ (j : Nat) (a : Int), j ≤ m ∧ i = .int .i64 j ∧ x = .int .i64 a ∧ addErr (lastT ss) ss.length xs = addErr a (ss.length + j) (xs.drop j) ∧ Below w.heap.size w wr) (fun _ i _ => m - (intOf i).toNat)
    case atStart => exact ⟨0, _, Nat.zero_le _, rfl, rfl, HSTART.out, HB1.out⟩
    case round =>
      obtain ⟨j, a, hj, rfl, rfl, he, hbel⟩ := hrel
      have HE := Lib.hid he; have HB := Lib.hid hbel; clear he hbel
      have hsz := HB.out.size
      have HSW := Lib.hid (HSR.out.below HB.out)
      have HON := Lib.hid (Only.of_below (g := g) HB.out)
      by_cases hlt : j < m
      · obtain ⟨ad, hjl, rfl, c0, c1⟩ := (HXS.out.below HB.out).smp hlt
        have hal : (ad.add (j * 2)).block < wr.heap.size := World.block_lt_of_cell? wr _ c0
        have HX := Lib.hid (show addErr a (ss.length + j) (xs.drop j) = addErr a (ss.length + j) (xs[j] :: xs.drop (j + 1)) by rw [List.drop_eq_getElem_cons hjl])
        have hc0 : wr.cell? ⟨g, 0, none⟩ = some (.slice A ss.length c) := HSW.out.1.cell 0
        have hgw : g < wr.heap.size := by omega
        generalize xs[j] = p at *
        obtain ⟨y, z⟩ := p
        try simp only at c0 c1
        generalize hsl : ss.length = sl at *
        have HSL := Lib.hid hsl; clear hsl
        have HSX : Hid (∀ W, Below wr.heap.size wr W → SerAt ss W g (.slice A sl c)) := fun W h => HSW.out.below h
        have HBX : Hid (∀ W, Below wr.heap.size wr W → Below w.heap.size w W) := fun W h => HB.out.trans (h.mono hsz)
        by_cases hy0 : y < 0
        · go_wp2_with fail
          go_ret
          exact addAns2 (v' := .slice A sl c) (.inl rfl) (by rw [HSL.out, HE.out, HX.out, addErr_form (y := y) (.inl (by omega))]) (by rw [HSL.out, HE.out, HX.out, addErr_form (y := y) (.inl (by omega)), if_neg (by omega)]; exact HSX.out _ (by repeat (first | exact Below.refl _ _ | refine Below.setCell ?_ (by simp) _ | refine below_drewN3 ?_ _ | refine Below.drew ?_ | refine Below.alloc ?_ (by simp) _ | refine Below.alloc ?_ (by simp; omega) _))) (Only.of_below (HBX.out _ (by repeat (first | exact Below.refl _ _ | refine Below.setCell ?_ (by simp) _ | refine below_drewN3 ?_ _ | refine Below.drew ?_ | refine Below.alloc ?_ (by simp) _ | refine Below.alloc ?_ (by simp; omega) _))))
        by_cases hy1 : 1099511627776 < y
        · go_wp2_with fail
          go_ret
          exact addAns2 (v' := .slice A sl c) (.inl rfl) (by rw [HSL.out, HE.out, HX.out, addErr_form (y := y) (.inr (by omega))]) (by rw [HSL.out, HE.out, HX.out, addErr_form (y := y) (.inr (by omega)), if_neg (by omega)]; exact HSX.out _ (by repeat (first | exact Below.refl _ _ | refine Below.setCell ?_ (by simp) _ | refine below_drewN3 ?_ _ | refine Below.drew ?_ | refine Below.alloc ?_ (by simp) _ | refine Below.alloc ?_ (by simp; omega) _))) (Only.of_below (HBX.out _ (by repeat (first | exact Below.refl _ _ | refine Below.setCell ?_ (by simp) _ | refine below_drewN3 ?_ _ | refine Below.drew ?_ | refine Below.alloc ?_ (by simp) _ | refine Below.alloc ?_ (by simp; omega) _))))
        by_cases hya : y ≤ a
        · go_wp2_with fail
          go_ret
          exact addAns2 (v' := .slice A sl c) (.inl rfl) (by rw [HSL.out, HE.out, HX.out, addErr_order (y := y) (a := a) (by omega) (by omega) (by omega)]) (by rw [HSL.out, HE.out, HX.out, addErr_order (y := y) (a := a) (by omega) (by omega) (by omega), if_neg (by omega)]; exact HSX.out _ (by repeat (first | exact Below.refl _ _ | refine Below.setCell ?_ (by simp) _ | refine below_drewN3 ?_ _ | refine Below.drew ?_ | refine Below.alloc ?_ (by simp) _ | refine Below.alloc ?_ (by simp; omega) _))) (Only.of_below (HBX.out _ (by repeat (first | exact Below.refl _ _ | refine Below.setCell ?_ (by simp) _ | refine below_drewN3 ?_ _ | refine Below.drew ?_ | refine Below.alloc ?_ (by simp) _ | refine Below.alloc ?_ (by simp; omega) _))))
        by_cases hfl : (200 : Int) ≤ (sl : Int) + j
        · have hfl2 : (sl : Int) + j ≥ 200 := hfl
          go_wp2_with fail
          go_ret
          exact addAns2 (v' := .slice A sl c) (.inl rfl) (by rw [HSL.out, HE.out, HX.out, addErr_full (y := y) (a := a) (c := sl + j) (by omega) (by omega) (by omega) (by omega)]) (by rw [HSL.out, HE.out, HX.out, addErr_full (y := y) (a := a) (c := sl + j) (by omega) (by omega) (by omega) (by omega), if_neg (by omega)]; exact HSX.out _ (by repeat (first | exact Below.refl _ _ | refine Below.setCell ?_ (by simp) _ | refine below_drewN3 ?_ _ | refine Below.drew ?_ | refine Below.alloc ?_ (by simp) _ | refine Below.alloc ?_ (by simp; omega) _))) (Only.of_below (HBX.out _ (by repeat (first | exact Below.refl _ _ | refine Below.setCell ?_ (by simp) _ | refine below_drewN3 ?_ _ | refine Below.drew ?_ | refine Below.alloc ?_ (by simp) _ | refine Below.alloc ?_ (by simp; omega) _))))
        · have hfl2 : ¬ (sl : Int) + j ≥ 200 := hfl
          go_wp2_with fail
          go_roundw
          case rel => exact ⟨j + 1, y, by omega, by go_num, rfl, by rw [HE.out, HX.out, addErr_next (y := y) (a := a) (c := sl + j) (by omega) (by omega) (by omega) (by omega)]; rfl, HBX.out _ (by repeat (first | exact Below.refl _ _ | refine Below.setCell ?_ (by simp) _ | refine below_drewN3 ?_ _ | refine Below.drew ?_ | refine Below.alloc ?_ (by simp) _ | refine Below.alloc ?_ (by simp; omega) _))⟩
          case measure => simp [intOf]; omega
      · obtain rfl : j = m := by omega
        have hz : addErr (lastT ss) ss.length xs = 0 := by rw [HE.out, List.drop_of_length_le (by rw [HXL.out]; exact Nat.le_refl _)]; rfl
        have HZ := Lib.hid hz; clear hz
        have hc0 : wr.cell? ⟨g, 0, none⟩ = some (.slice A ss.length c) := HSW.out.1.cell 0
        have hgw : g < wr.heap.size := by omega
        have HS1 := Lib.hid (Sees.of_own HSW.out.2)
        have HS2 := Lib.hid ((HXS.out.below HB.out).more hsz)
        have HP := Lib.hid (parts_two (t := 23) HS1.out HS2.out rfl HXL.out hca hcb hcc hcd)
        have hb2 : Below wr.heap.size wr (wr.alloc (.cells #[.slice A ss.length c, .slice A2 j c2] 23)) := (Below.refl _ _).alloc (Nat.le_refl _) _
        have HSW2 := Lib.hid (HSW.out.below hb2)
        have HB2 := Lib.hid (HB.out.trans (hb2.mono hsz))
        have hs2 : wr.heap.size < (wr.alloc (.cells #[.slice A ss.length c, .slice A2 j c2] 23)).heap.size := by simp
        clear hb2 HS1 HS2 HON
        go_wp2_with fail
        refine (concat_Smp _ 2 2 [ss, xs] _ HP.out (by omega) (by have := HXL.out; simp; omega)).mono ?_; rintro e w3 ⟨A3, c3, rfl, hown3, hbel3, hc3, hc4⟩
        have hfl : ([ss, xs] : List (List (Int × Int))).flatten = ss ++ xs := by simp
        rw [hfl] at hown3
        rw [hfl]
        have HSW3 := Lib.hid (HSW2.out.below hbel3)
        have hs3 := hbel3.size
        have HB3 := Lib.hid (HB2.out.trans (hbel3.mono (by omega)))
        have hk3 : w3.cell? ⟨g, 0, none⟩ = some (.slice A ss.length c) := HSW3.out.1.cell 0
        have hf3 : w3.frozen? ⟨g, 0, none⟩ = false := HSW3.out.1.frozen 0
        have hg3 := HSW3.out.1.lt
        have hat : SerAt (ss ++ xs) (w3.setCell ⟨g, 0, none⟩ (.slice A3 (ss ++ xs).length c3)) g (.slice A3 (ss ++ xs).length c3) :=
          ⟨HSW3.out.1.set 0 _, own_far (base := g + 1) (p := ⟨g, 0, none⟩) (own_mono hown3 (by omega)) (Nat.lt_succ_self _) _⟩
        have HFR := Lib.hid (fun (k : Nat) (hk : Value.ownBlock (.slice A3 (ss ++ xs).length c3) = some k) => Nat.le_trans hsz (Nat.le_trans (Nat.le_of_lt hs2) (hown3.lt k hk).1))
        have HAT := Lib.hid hat
        have HON := Lib.hid ((Only.of_below (g := g) HB3.out).setCell (.slice A3 (ss ++ xs).length c3))
        have hln : (ss ++ xs).length = ss.length + xs.length := List.length_append
        rw [hln] at HAT HON HFR ⊢
        clear hown3 hbel3 hat hfl hln hc3 hc0
        go_wp2_with fail
        go_ret
        exact addAns2 (.inr HFR.out) (by rw [HZ.out]) (by rw [HZ.out, if_pos rfl]; exact HAT.out) HON.out
  · obtain ⟨j0, hj0⟩ : ∃ j, ss.length = j + 1 := ⟨ss.length - 1, by omega⟩
    obtain ⟨⟨y0, z0⟩, hyz⟩ : ∃ p, ss[j0]? = some p := ⟨_, List.getElem?_eq_getElem (by omega)⟩
    have HL := Lib.hid (last_some ss j0 g _ w h hj0 (by omega) y0 z0 hyz)
    have hlt : lastT ss = y0 := by unfold lastT; rw [hj0, Nat.add_sub_cancel, List.getD_eq_getElem?_getD, hyz]; rfl
    have HSTART : Hid (addErr (lastT ss) ss.length xs = addErr y0 (ss.length + 0) (xs.drop 0)) := by rw [hlt]; rfl
    clear h hyz hj0 hlt h0
    go_enter Try.func5, Try.ntmps5
    go_wp2_with fail
    refine HL.out.mono ?_; rintro e w1 ⟨rfl, hb1⟩
    have hs1 := hb1.size
    have HB1 := Lib.hid ((hb1.alloc hs1 (.cells #[.int .i64 y0, .int .i64 z0] 30)))
    clear hb1
    go_wp2_with fail
    go_loopw [5, 20] (fun x i wr => ∃ (j : Nat) (a : Int), j ≤ m ∧ i = .int .i64 j ∧ x = .int .i64 a ∧ addErr (lastT ss) ss.length xs = addErr a (ss.length + j) (xs.drop j) ∧ Below w.heap.size w wr) (fun _ i _ => m - (intOf i).toNat)
    case atStart => exact ⟨0, _, Nat.zero_le _, rfl, rfl, HSTART.out, HB1.out⟩
    case round =>
      obtain ⟨j, a, hj, rfl, rfl, he, hbel⟩ := hrel
      have HE := Lib.hid he; have HB := Lib.hid hbel; clear he hbel
      have hsz := HB.out.size
      have HSW := Lib.hid (HSR.out.below HB.out)
      have HON := Lib.hid (Only.of_below (g := g) HB.out)
      by_cases hlt : j < m
      · obtain ⟨ad, hjl, rfl, c0, c1⟩ := (HXS.out.below HB.out).smp hlt
        have hal : (ad.add (j * 2)).block < wr.heap.size := World.block_lt_of_cell? wr _ c0
        have HX := Lib.hid (show addErr a (ss.length + j) (xs.drop j) = addErr a (ss.length + j) (xs[j] :: xs.drop (j + 1)) by rw [List.drop_eq_getElem_cons hjl])
        have hc0 : wr.cell? ⟨g, 0, none⟩ = some (.slice A ss.length c) := HSW.out.1.cell 0
        have hgw : g < wr.heap.size := by omega
        generalize xs[j] = p at *
        obtain ⟨y, z⟩ := p
        try simp only at c0 c1
        generalize hsl : ss.length = sl at *
        have HSL := Lib.hid hsl; clear hsl
        have HSX : Hid (∀ W, Below wr.heap.size wr W → SerAt ss W g (.slice A sl c)) := fun W h => HSW.out.below h
        have HBX : Hid (∀ W, Below wr.heap.size wr W → Below w.heap.size w W) := fun W h => HB.out.trans (h.mono hsz)
        by_cases hy0 : y < 0
        · go_wp2_with fail
          go_ret
          exact addAns2 (v' := .slice A sl c) (.inl rfl) (by rw [HSL.out, HE.out, HX.out, addErr_form (y := y) (.inl (by omega))]) (by rw [HSL.out, HE.out, HX.out, addErr_form (y := y) (.inl (by omega)), if_neg (by omega)]; exact HSX.out _ (by repeat (first | exact Below.refl _ _ | refine Below.setCell ?_ (by simp) _ | refine below_drewN3 ?_ _ | refine Below.drew ?_ | refine Below.alloc ?_ (by simp) _ | refine Below.alloc ?_ (by simp; omega) _))) (Only.of_below (HBX.out _ (by repeat (first | exact Below.refl _ _ | refine Below.setCell ?_ (by simp) _ | refine below_drewN3 ?_ _ | refine Below.drew ?_ | refine Below.alloc ?_ (by simp) _ | refine Below.alloc ?_ (by simp; omega) _))))
        by_cases hy1 : 1099511627776 < y
        · go_wp2_with fail
          go_ret
          exact addAns2 (v' := .slice A sl c) (.inl rfl) (by rw [HSL.out, HE.out, HX.out, addErr_form (y := y) (.inr (by omega))]) (by rw [HSL.out, HE.out, HX.out, addErr_form (y := y) (.inr (by omega)), if_neg (by omega)]; exact HSX.out _ (by repeat (first | exact Below.refl _ _ | refine Below.setCell ?_ (by simp) _ | refine below_drewN3 ?_ _ | refine Below.drew ?_ | refine Below.alloc ?_ (by simp) _ | refine Below.alloc ?_ (by simp; omega) _))) (Only.of_below (HBX.out _ (by repeat (first | exact Below.refl _ _ | refine Below.setCell ?_ (by simp) _ | refine below_drewN3 ?_ _ | refine Below.drew ?_ | refine Below.alloc ?_ (by simp) _ | refine Below.alloc ?_ (by simp; omega) _))))
        by_cases hya : y ≤ a
        · go_wp2_with fail
          go_ret
          exact addAns2 (v' := .slice A sl c) (.inl rfl) (by rw [HSL.out, HE.out, HX.out, addErr_order (y := y) (a := a) (by omega) (by omega) (by omega)]) (by rw [HSL.out, HE.out, HX.out, addErr_order (y := y) (a := a) (by omega) (by omega) (by omega), if_neg (by omega)]; exact HSX.out _ (by repeat (first | exact Below.refl _ _ | refine Below.setCell ?_ (by simp) _ | refine below_drewN3 ?_ _ | refine Below.drew ?_ | refine Below.alloc ?_ (by simp) _ | refine Below.alloc ?_ (by simp; omega) _))) (Only.of_below (HBX.out _ (by repeat (first | exact Below.refl _ _ | refine Below.setCell ?_ (by simp) _ | refine below_drewN3 ?_ _ | refine Below.drew ?_ | refine Below.alloc ?_ (by simp) _ | refine Below.alloc ?_ (by simp; omega) _))))
        by_cases hfl : (200 : Int) ≤ (sl : Int) + j
        · have hfl2 : (sl : Int) + j ≥ 200 := hfl
          go_wp2_with fail
          go_ret
          exact addAns2 (v' := .slice A sl c) (.inl rfl) (by rw [HSL.out, HE.out, HX.out, addErr_full (y := y) (a := a) (c := sl + j) (by omega) (by omega) (by omega) (by omega)]) (by rw [HSL.out, HE.out, HX.out, addErr_full (y := y) (a := a) (c := sl + j) (by omega) (by omega) (by omega) (by omega), if_neg (by omega)]; exact HSX.out _ (by repeat (first | exact Below.refl _ _ | refine Below.setCell ?_ (by simp) _ | refine below_drewN3 ?_ _ | refine Below.drew ?_ | refine Below.alloc ?_ (by simp) _ | refine Below.alloc ?_ (by simp; omega) _))) (Only.of_below (HBX.out _ (by repeat (first | exact Below.refl _ _ | refine Below.setCell ?_ (by simp) _ | refine below_drewN3 ?_ _ | refine Below.drew ?_ | refine Below.alloc ?_ (by simp) _ | refine Below.alloc ?_ (by simp; omega) _))))
        · have hfl2 : ¬ (sl : Int) + j ≥ 200 := hfl
          go_wp2_with fail
          go_roundw
          case rel => exact ⟨j + 1, y, by omega, by go_num, rfl, by rw [HE.out, HX.out, addErr_next (y := y) (a := a) (c := sl + j) (by omega) (by omega) (by omega) (by omega)]; rfl, HBX.out _ (by repeat (first | exact Below.refl _ _ | refine Below.setCell ?_ (by simp) _ | refine below_drewN3 ?_ _ | refine Below.drew ?_ | refine Below.alloc ?_ (by simp) _ | refine Below.alloc ?_ (by simp; omega) _))⟩
          case measure => simp [intOf]; omega
      · obtain rfl : j = m := by omega
        have hz : addErr (lastT ss) ss.length xs = 0 := by rw [HE.out, List.drop_of_length_le (by rw [HXL.out]; exact Nat.le_refl _)]; rfl
        have HZ := Lib.hid hz; clear hz
        have hc0 : wr.cell? ⟨g, 0, none⟩ = some (.slice A ss.length c) := HSW.out.1.cell 0
        have hgw : g < wr.heap.size := by omega
        have HS1 := Lib.hid (Sees.of_own HSW.out.2)
        have HS2 := Lib.hid ((HXS.out.below HB.out).more hsz)
        have HP := Lib.hid (parts_two (t := 23) HS1.out HS2.out rfl HXL.out hca hcb hcc hcd)
        have hb2 : Below wr.heap.size wr (wr.alloc (.cells #[.slice A ss.length c, .slice A2 j c2] 23)) := (Below.refl _ _).alloc (Nat.le_refl _) _
        have HSW2 := Lib.hid (HSW.out.below hb2)
        have HB2 := Lib.hid (HB.out.trans (hb2.mono hsz))
        have hs2 : wr.heap.size < (wr.alloc (.cells #[.slice A ss.length c, .slice A2 j c2] 23)).heap.size := by simp
        clear hb2 HS1 HS2 HON
        go_wp2_with fail
        refine (concat_Smp _ 2 2 [ss, xs] _ HP.out (by omega) (by have := HXL.out; simp; omega)).mono ?_; rintro e w3 ⟨A3, c3, rfl, hown3, hbel3, hc3, hc4⟩
        have hfl : ([ss, xs] : List (List (Int × Int))).flatten = ss ++ xs := by simp
        rw [hfl] at hown3
        rw [hfl]
        have HSW3 := Lib.hid (HSW2.out.below hbel3)
        have hs3 := hbel3.size
        have HB3 := Lib.hid (HB2.out.trans (hbel3.mono (by omega)))
        have hk3 : w3.cell? ⟨g, 0, none⟩ = some (.slice A ss.length c) := HSW3.out.1.cell 0
        have hf3 : w3.frozen? ⟨g, 0, none⟩ = false := HSW3.out.1.frozen 0
        have hg3 := HSW3.out.1.lt
        have hat : SerAt (ss ++ xs) (w3.setCell ⟨g, 0, none⟩ (.slice A3 (ss ++ xs).length c3)) g (.slice A3 (ss ++ xs).length c3) :=
          ⟨HSW3.out.1.set 0 _, own_far (base := g + 1) (p := ⟨g, 0, none⟩) (own_mono hown3 (by omega)) (Nat.lt_succ_self _) _⟩
        have HFR := Lib.hid (fun (k : Nat) (hk : Value.ownBlock (.slice A3 (ss ++ xs).length c3) = some k) => Nat.le_trans hsz (Nat.le_trans (Nat.le_of_lt hs2) (hown3.lt k hk).1))
        have HAT := Lib.hid hat
        have HON := Lib.hid ((Only.of_below (g := g) HB3.out).setCell (.slice A3 (ss ++ xs).length c3))
        have hln : (ss ++ xs).length = ss.length + xs.length := List.length_append
        rw [hln] at HAT HON HFR ⊢
        clear hown3 hbel3 hat hfl hln hc3 hc0
        go_wp2_with fail
        go_ret
        exact addAns2 (.inr HFR.out) (by rw [HZ.out]) (by rw [HZ.out, if_pos rfl]; exact HAT.out) HON.out
/-- How many samples are ahead of t. -/
def nAhd (ss : List (Int × Int)) (t : Int) : Nat := (ss.takeWhile fun x => decide (x.1 < t)).length
theorem nAhd_of {ss : List (Int × Int)} {t : Int} {k : Nat} (hk : k ≤ ss.length) (h1 : ∀ i (h : i < ss.length), i < k → ss[i].1 < t) (h2 : ∀ h : k < ss.length, t ≤ ss[k].1) : nAhd ss t = k := by
  induction ss generalizing k with
  | nil => have : k = 0 := by simpa using hk
           subst this; rfl
  | cons x ss ih =>
    cases k with
    | zero =>
      have := h2 (by simp)
      simp only [List.getElem_cons_zero] at this
      unfold nAhd
      rw [List.takeWhile_cons_of_neg (by simp; omega)]; rfl
    | succ k =>
      have h0 := h1 0 (by simp) (by omega)
      simp only [List.getElem_cons_zero] at h0
      have := ih (k := k) (by simpa using hk) (fun i h hi => h1 (i + 1) (by rw [List.length_cons]; omega) (by omega)) (fun h => h2 (by rw [List.length_cons]; omega))
      unfold nAhd at this ⊢
      rw [List.takeWhile_cons_of_pos (by simp; omega), List.length_cons, this]
theorem nAhd_le (ss : List (Int × Int)) (t : Int) : nAhd ss t ≤ ss.length := by unfold nAhd; exact (List.takeWhile_sublist _).length_le
theorem ahead_any (ss : List (Int × Int)) (g : Nat) (v : Value) (t : Int) (w : World) (h : SerAt ss w g v) (hn : ss.length ≤ 1000000) :
    Calls Try.prog 17 #[.pointer (some ⟨g, 0, none⟩), .int .i64 t] w fun e w' => e = .returned (.int .i64 (nAhd ss t)) ∧ w = w' := by
  obtain ⟨A, c, rfl, hc1, hc2⟩ := own_slice h.2
  have hc0 : w.cell? ⟨g, 0, none⟩ = some (.slice A ss.length c) := h.1.cell 0
  have hg := h.1.lt
  have HS := Lib.hid (Sees.of_own h.2)
  clear h
  generalize hm : ss.length = m at *
  have HM := Lib.hid hm; clear hm
  go_enter Try.func17, Try.ntmps17
  go_wp2_with fail
  go_loop [5] (fun x => ∃ k : Nat, k ≤ m ∧ x = .int .i64 k ∧ ∀ i (h : i < ss.length), i < k → ss[i].1 < t) (fun x => m - (intOf x).toNat)
  case atStart => exact ⟨0, Nat.zero_le _, rfl, fun i h h0 => by omega⟩
  case round =>
    obtain ⟨k, hk, rfl, hall⟩ := hrel
    have HA := Lib.hid hall; clear hall
    by_cases hlt : k < m
    · obtain ⟨ad, hkl, rfl, c0, c1⟩ := HS.out.smp hlt
      have hx : Hid (ss[k].1 = ss[k].1) := rfl
      by_cases hle : ss[k].1 < t
      · have hnext : Hid (∀ i (h : i < ss.length), i < k + 1 → ss[i].1 < t) := fun i h hi => by
          rcases Nat.lt_or_ge i k with h1 | h1
          · exact HA.out i h h1
          · have : i = k := by omega
            subst this; exact hle
        generalize ss[k].1 = y at *
        generalize ss[k].2 = z at *
        clear hx
        go_wp2_with fail
        go_round
        case rel => exact ⟨k + 1, by omega, by go_num, hnext.out⟩
        case measure => simp [intOf]; omega
      · have hb := nAhd_of (t := t) (Nat.le_of_lt hkl) HA.out (fun h => by omega)
        have HBB := Lib.hid hb
        generalize ss[k].1 = y at *
        generalize ss[k].2 = z at *
        clear hx hb
        go_wp2_with fail
        go_ret
        exact ⟨ret_int (by rw [HBB.out]), rfl⟩
    · obtain rfl : k = m := by omega
      have hb := nAhd_of (t := t) (k := k) (by have := HM.out; omega) HA.out (fun h => by have := HM.out; omega)
      have HBB := Lib.hid hb
      clear hb
      go_wp2_with fail
      go_ret
      exact ⟨ret_int (by rw [HBB.out]), rfl⟩
@[go_sem] theorem eq_smp (a b c d : Int) (w : World) : (Op.equalIn 10000 30 (.agg #[.int .i64 a, .int .i64 b]) (.agg #[.int .i64 c, .int .i64 d])).run Try.prog w = .ok (a == c && b == d) w := by
  have u3 := Try.underlying3
  have a3 := Try.isAgg3
  have z3 := Try.sizeOf3
  have hS : Try.prog.underlying 30 = some (.struct (Try.prog.fieldsOf 30)) := by kernel_rfl
  have hp : Try.prog.stoodInHeld 30 = false := by kernel_rfl
  rw [show (10000 : Nat) = 9999 + 1 from rfl, run_equalIn_agg w 9999 30 _ _ hS hp]
  simp only [Program.fieldsOf, Try.underlying30]
  go_simp
  by_cases h1 : a = c <;> by_cases h2 : b = d <;> simp [h1, h2]
theorem take_eq_snoc2 {zs ys : List (Int × Int)} {k : Nat} (h1 : k < zs.length) (h2 : k < ys.length) (h : zs.take k = ys.take k) (he : zs[k] = ys[k]) : zs.take (k + 1) = ys.take (k + 1) := by
  rw [List.take_succ_eq_append_getElem h1, List.take_succ_eq_append_getElem h2, h, he]
theorem same_smp (A A2 : Option Addr) (n c n2 c2 B B2 : Nat) (zs ys : List (Int × Int)) (w : World) (h : Sees w B 2 A n (smps zs)) (h2 : Sees w B2 2 A2 n2 (smps ys)) (hn : n ≤ 9223372036854775807) (hn2 : n2 ≤ 9223372036854775807) :
    Calls Try.prog 11 #[.slice A n c, .slice A2 n2 c2] w fun e w' => e = .returned (.bool (decide (zs = ys))) ∧ ∃ m, w' = w.drewN m := by
  have H := Lib.hid h; clear h
  have H2 := Lib.hid h2; clear h2
  have HL := Lib.hid H.out.smp_len
  have HL2 := Lib.hid H2.out.smp_len
  by_cases hnn : n = n2
  · subst hnn
    go_enter Try.func11, Try.ntmps11
    go_wp2
    go_loopw [5] (fun i wr => ∃ k m : Nat, k ≤ n ∧ i = .int .i64 k ∧ wr = w.drewN m ∧ zs.take k = ys.take k) (fun i _ => n - (intOf i).toNat)
    case atStart => exact ⟨0, 0, Nat.zero_le _, rfl, rfl, rfl⟩
    case round =>
      obtain ⟨k, m, hk, rfl, rfl, ht⟩ := hrel
      have HT := Lib.hid ht; clear ht
      by_cases hlt : k < n
      · obtain ⟨ad, hkl, rfl, hc, hd⟩ := H.out.smp hlt
        obtain ⟨ad2, hkl2, rfl, hc2, hd2⟩ := H2.out.smp hlt
        have hq := Lib.hid (take_eq_snoc2 hkl hkl2 HT.out)
        have hne : Hid (zs[k] ≠ ys[k] → zs ≠ ys) := fun h e => h (by subst e; rfl)
        generalize zs[k] = x at *
        generalize ys[k] = y at *
        obtain ⟨x1, x2⟩ := x
        obtain ⟨y1, y2⟩ := y
        simp only at hc hd hc2 hd2
        by_cases hxy : x1 = y1 ∧ x2 = y2
        · obtain ⟨rfl, rfl⟩ := hxy
          have he1 : (x1 == x1) = true := by simp
          have he2 : (x2 == x2) = true := by simp
          have he3 : (x1 != x1) = false := by simp
          have he4 : (x2 != x2) = false := by simp
          go_wp2
          go_quiet (fail)
          go_wp2
          go_roundw
          case rel => exact ⟨k + 1, _, by omega, by go_num, rfl, hq.out (by simp)⟩
          case measure => simp [intOf]; omega
        · have hz := Lib.hid (hne.out (fun h => hxy (by injection h with h1 h2; exact ⟨h1, h2⟩)))
          by_cases h1 : x1 = y1
          · subst h1
            have he1 : (x1 == x1) = true := by simp
            have he2 : (x2 == y2) = false := by simpa using fun h => hxy ⟨rfl, h⟩
            clear hxy
            go_wp2
            go_quiet (fail)
            go_wp2
            go_ret
            exact ⟨ret_bool (decide_eq_false hz.out).symm, _, World.drewN_drewN _ _ _⟩
          · have he1 : (x1 == y1) = false := by simpa using h1
            clear hxy h1
            go_wp2
            go_quiet (fail)
            go_wp2
            go_ret
            exact ⟨ret_bool (decide_eq_false hz.out).symm, _, World.drewN_drewN _ _ _⟩
      · obtain rfl : k = n := by omega
        have he : zs = ys := by
          have := HT.out; rwa [List.take_of_length_le (by rw [HL.out]; omega), List.take_of_length_le (by rw [HL2.out]; omega)] at this
        have HE := Lib.hid (decide_eq_true he); clear he
        go_wp2
        go_ret
        exact ⟨ret_bool HE.out.symm, m, rfl⟩
  · have hz : zs ≠ ys := fun e => hnn (by rw [← HL.out, ← HL2.out, e])
    have hb : ((n : Int) == n2) = false := beq_eq_false_iff_ne.2 (by omega)
    have HE := Lib.hid (decide_eq_false hz); clear hz
    go_enter Try.func11, Try.ntmps11
    go_wp2
    go_ret
    exact ⟨ret_bool HE.out.symm, 0, rfl⟩

theorem all_any (ss : List (Int × Int)) (g : Nat) (v : Value) (w : World) (h : SerAt ss w g v) (hn : ss.length ≤ 1000000) :
    Calls Try.prog 14 #[.pointer (some ⟨g, 0, none⟩)] w (OwnAns 30 2 ss.length (smps ss) w) := by
  obtain ⟨A, c, rfl, hc1, hc2⟩ := own_slice h.2
  have hc0 : w.cell? ⟨g, 0, none⟩ = some (.slice A ss.length c) := h.1.cell 0
  have hg := h.1.lt
  have HS := Lib.hid (Sees.of_own h.2)
  clear h
  go_enter Try.func14, Try.ntmps14
  go_wp2_with fail
  refine (clone_Smp A ss.length c ss _ w HS.out (Nat.le_refl _) rfl hn).mono ?_
  rintro e w1 ⟨A1, c1, rfl, hown, hbel, hc3, hc4⟩
  have HO := Lib.hid hown; have HB := Lib.hid hbel; clear hown hbel
  go_wp2_with fail
  go_ret
  exact ownAns HO.out HB.out rfl hc3 hc4
def CutAns (ss : List (Int × Int)) (k : Nat) (g : Nat) (w : World) (e : Ending) (w' : World) : Prop :=
  ∃ v', e = .returned (.int .i64 k) ∧ SerAt (ss.drop k) w' g v' ∧ Only g w w'
theorem cut_any (ss : List (Int × Int)) (g : Nat) (v : Value) (t : Int) (w : World) (h : SerAt ss w g v) (hn : ss.length ≤ 1000000) :
    Calls Try.prog 7 #[.pointer (some ⟨g, 0, none⟩), .int .i64 t] w (CutAns ss (nAhd ss t) g w) := by
  have HB := Lib.hid (ahead_any ss g v t w h hn)
  obtain ⟨A, c, rfl, hc1, hc2⟩ := own_slice h.2
  have hc0 : w.cell? ⟨g, 0, none⟩ = some (.slice A ss.length c) := h.1.cell 0
  have hg := h.1.lt
  have hle := nAhd_le ss t
  generalize nAhd ss t = k at *
  have hS := (Sees.of_own h.2).drop hle hc1
  obtain ⟨X, hX⟩ : ∃ X, (if c = k then A else Option.map (fun x => x.add (k * 2)) A) = X := ⟨_, rfl⟩
  rw [hX] at hS
  have hdl : (smps ss).drop (k * 2) = smps (ss.drop k) := by
    have e : smps ss = smps (ss.take k) ++ smps (ss.drop k) := by rw [← smps_append, List.take_append_drop]
    have hl : (smps (ss.take k)).length = k * 2 := by rw [smps_length, List.length_take]; omega
    rw [e, ← hl, List.drop_left]
  rw [hdl] at hS
  have HS := Lib.hid hS
  have HK := Lib.hid h
  have hkc : k ≤ c := by omega
  have hlen : (ss.drop k).length = ss.length - k := List.length_drop
  have HLN := Lib.hid hlen
  clear h hS hdl hlen
  go_enter Try.func7, Try.ntmps7
  go_wp2_with fail
  refine HB.out.mono ?_; rintro e w' ⟨rfl, rfl⟩
  go_wp2_with fail
  refine (clone_Smp X (ss.length - k) (c - k) (ss.drop k) _ w HS.out (Nat.le_refl _) HLN.out (by omega)).mono ?_
  rintro e w1 ⟨A1, c1, rfl, hown, hbel, hc3, hc4⟩
  have HK1 := HK.out.below hbel
  have hsz := hbel.size
  have k0 : w1.cell? ⟨g, 0, none⟩ = some (.slice A ss.length c) := HK1.1.cell 0
  have kf : w1.frozen? ⟨g, 0, none⟩ = false := HK1.1.frozen 0
  have kg := HK1.1.lt
  have hat : SerAt (ss.drop k) (w1.setCell ⟨g, 0, none⟩ (.slice A1 (ss.length - k) c1)) g (.slice A1 (ss.length - k) c1) :=
    ⟨HK1.1.set 0 _, own_far (base := g + 1) (p := ⟨g, 0, none⟩) (by rw [HLN.out]; exact own_mono hown (by omega)) (Nat.lt_succ_self _) _⟩
  have HA := Lib.hid hat
  have HON := Lib.hid ((Only.of_below (g := g) hbel).setCell (.slice A1 (ss.length - k) c1))
  clear hX hown hbel HK1 hat hc3
  go_wp2_with fail
  go_ret
  exact ⟨_, rfl, HA.out, HON.out⟩
theorem between_any (ss : List (Int × Int)) (g : Nat) (v : Value) (f t : Int) (w : World) (h : SerAt ss w g v) (hn : ss.length ≤ 1000000) :
    Calls Try.prog 12 #[.pointer (some ⟨g, 0, none⟩), .int .i64 f, .int .i64 t] w (OwnAns 30 2 (nBeh ss t - nAhd ss f) (smps ((ss.take (nBeh ss t)).drop (nAhd ss f))) w) := by
  have HB := Lib.hid (ahead_any ss g v f w h hn)
  have HB2 := Lib.hid (behind_any ss g v t w h hn)
  obtain ⟨A, c, rfl, hc1, hc2⟩ := own_slice h.2
  have hc0 : w.cell? ⟨g, 0, none⟩ = some (.slice A ss.length c) := h.1.cell 0
  have hg := h.1.lt
  have hle := nAhd_le ss f
  have hle2 := nBeh_le ss t
  generalize nAhd ss f = k at *
  generalize nBeh ss t = e at *
  by_cases hke : e ≤ k
  · have hnil : (ss.take e).drop k = [] := List.drop_of_length_le (by rw [List.length_take]; omega)
    have hz : e - k = 0 := by omega
    rw [hnil, hz]
    have HO := Lib.hid (show w.ownsRow w.heap.size 30 2 (.slice none 0 0) 0 (smps []) by simpa [smps] using World.ownsRow_nil w w.heap.size 30 2)
    have hge : (k : Int) ≥ e := by omega
    clear h hnil hz
    go_enter Try.func12, Try.ntmps12
    go_wp2_with fail
    refine HB.out.mono ?_; rintro e w' ⟨rfl, rfl⟩
    go_wp2_with fail
    refine HB2.out.mono ?_; rintro e w' ⟨rfl, rfl⟩
    go_wp2_with fail
    go_ret
    exact ownAns HO.out (Below.refl _ _) rfl (Nat.le_refl _) (by omega)
  · have hS0 := (Sees.of_own h.2).take hle2
    have htl : (smps ss).take (e * 2) = smps (ss.take e) := by
      have e1 : smps ss = smps (ss.take e) ++ smps (ss.drop e) := by rw [← smps_append, List.take_append_drop]
      have hl : (smps (ss.take e)).length = e * 2 := by rw [smps_length, List.length_take]; omega
      rw [e1, ← hl, List.take_left]
    rw [htl] at hS0
    have hS := hS0.drop (k := k) (cap := c) (by omega) (by omega)
    rw [if_neg (show ¬ c = k by omega)] at hS
    have hdl : (smps (ss.take e)).drop (k * 2) = smps ((ss.take e).drop k) := by
      have e1 : smps (ss.take e) = smps ((ss.take e).take k) ++ smps ((ss.take e).drop k) := by rw [← smps_append, List.take_append_drop]
      have hl : (smps ((ss.take e).take k)).length = k * 2 := by rw [smps_length, List.length_take, List.length_take]; omega
      rw [e1, ← hl, List.drop_left]
    rw [hdl] at hS
    have HS := Lib.hid hS
    have hkc : k ≤ c := by omega
    have hec : e ≤ c := by omega
    have hke2 : k ≤ e := by omega
    have hlt : ¬ (k : Int) ≥ e := by omega
    have hlen : ((ss.take e).drop k).length = e - k := by rw [List.length_drop, List.length_take]; omega
    have HLN := Lib.hid hlen
    clear h hS hdl hlen hS0 htl
    go_enter Try.func12, Try.ntmps12
    go_wp2_with fail
    refine HB.out.mono ?_; rintro e w' ⟨rfl, rfl⟩
    go_wp2_with fail
    refine HB2.out.mono ?_; rintro e w' ⟨rfl, rfl⟩
    go_wp2_with fail
    refine (clone_Smp (Option.map (fun x => x.add (k * 2)) A) (e - k) (c - k) ((ss.take e).drop k) _ w HS.out (Nat.le_refl _) HLN.out (by omega)).mono ?_
    rintro e w1 ⟨A1, c1, rfl, hown, hbel, hc3, hc4⟩
    have HO := Lib.hid hown; have HBL := Lib.hid hbel; clear hown hbel
    go_wp2_with fail
    go_ret
    exact ownAns HO.out HBL.out rfl hc3 hc4
end Go.Proofs.Ytlcpnlmfnllgmaa
