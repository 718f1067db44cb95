/- What StoreCopies needs: places of a store's own sets, its cut, its copy's growth. -/
import Derived.Test.YthbinnbnmckmfaaStoTwo
import Derived.Test.YthbinnbnmckmfaaStoreCut
import Derived.Test.YthbinnbnmckmfaaStoreSets
namespace Go.Proofs.Ythbinnbnmckmfaa
open Go.ChangeShapes Go.WideShapes Go.ChangeAt Go.RowKit
set_option linter.unusedVariables false
set_option maxRecDepth 100000
theorem place_self {D : List SK} (hs : D.Pairwise fun x y => Op.bytesLess (printL x.1) (printL y.1) = true) {i : Nat} (hi : i < D.length) : placeN D (printL D[i].1) = i ∧ placeB D (printL D[i].1) = true := by
  have h1 : placeN D (printL D[i].1) = i := placeN_of (Nat.le_of_lt hi) (fun j hj hji => List.pairwise_iff_getElem.1 hs j i hj hi hji) (fun _ => less_irrefl _)
  exact ⟨h1, by rw [placeB_of h1 hi]; simp⟩
theorem smpF_self {D : List SK} (hs : D.Pairwise fun x y => Op.bytesLess (printL x.1) (printL y.1) = true) {i : Nat} (hi : i < D.length) : smpF D (printL D[i].1) = D[i].2 := by
  obtain ⟨h1, h2⟩ := place_self hs hi
  unfold smpF; rw [h2, if_pos rfl, h1, List.getD_eq_getElem?_getD, List.getElem?_eq_getElem hi]; rfl
/-- The last time. -/
def endX : Int × Int := (1099511627776, 0)
/-- The copy, behind i of its series. -/
def capD (D : List SK) (i : Nat) : List SK := (D.take i).map (fun x => (x.1, x.2 ++ [endX])) ++ D.drop i
theorem capD_len (D : List SK) (i : Nat) : (capD D i).length = D.length := by simp [capD]; omega
theorem capD_get {D : List SK} {i : Nat} (hi : i < D.length) : (capD D i)[i]'(by rw [capD_len]; exact hi) = D[i] := by
  unfold capD
  rw [List.getElem_append_right (by simp; omega)]
  simp [List.length_take, Nat.min_eq_left (Nat.le_of_lt hi)]
theorem capD_set {D : List SK} {i : Nat} (hi : i < D.length) : (capD D i).set i (D[i].1, D[i].2 ++ [endX]) = capD D (i + 1) := by
  unfold capD
  rw [List.set_append_right _ _ (by simp; omega)]
  rw [show i - ((D.take i).map fun x => (x.1, x.2 ++ [endX])).length = 0 by simp; omega, List.drop_eq_getElem_cons hi, List.set_cons_zero, List.take_succ_eq_append_getElem hi, List.map_append]
  simp
theorem cap_put {D : List SK} {i : Nat} (hc : DOk (capD D i)) (hD : DOk D) (hi : i < D.length) (hl : D[i].2.length ≤ 20) (ht : ∀ y ∈ D[i].2, y.1 ≤ 240) :
    putE (capD D i) D[i].1 endX = 0 ∧ putS (capD D i) D[i].1 endX = capD D (i + 1) ∧ placeB (capD D i) (printL D[i].1) = true := by
  have hil : i < (capD D i).length := by rw [capD_len]; exact hi
  obtain ⟨h1, h2⟩ := place_self hc.sorted hil
  rw [capD_get hi] at h1 h2
  have hgd : (capD D i).getD i ([], []) = D[i] := by rw [List.getD_eq_getElem?_getD, List.getElem?_eq_getElem hil, capD_get hi]; rfl
  have hE : putE (capD D i) D[i].1 endX = 0 := by
    unfold putE
    rw [if_neg (by
      rintro (h | h | h)
      · rw [(hD.row _ (List.getElem_mem hi)).1] at h; cases h
      · simp [endX] at h
      · simp [endX] at h), h2, if_pos rfl, h1, hgd]
    have hlast : lastT D[i].2 ≤ 240 := by
      unfold lastT
      rw [List.getD_eq_getElem?_getD]
      cases hq : D[i].2[D[i].2.length - 1]? with
      | none => simp
      | some p =>
        have := ht p (List.mem_of_getElem? hq)
        simpa using this
    unfold endX
    rw [addErr_next (by omega) (by omega) (by omega) (by omega)]; rfl
  refine ⟨hE, ?_, h2⟩
  unfold putS
  rw [if_pos hE]
  unfold putD
  rw [h2, if_pos rfl, h1, hgd, capD_set hi]
theorem capD_zero (D : List SK) : capD D 0 = D := by simp [capD]
/-- So many samples are in the first i series. -/
def smpN (D : List SK) (i : Nat) : Nat := ((D.take i).map fun x => x.2.length).sum
theorem smpN_more {D : List SK} {i : Nat} (hi : i < D.length) : smpN D (i + 1) = smpN D i + D[i].2.length := by
  unfold smpN; rw [List.take_succ_eq_append_getElem hi, List.map_append, List.sum_append]; simp
theorem smpN_le {D : List SK} (h : ∀ x ∈ D, x.2.length ≤ 200) : ∀ i, smpN D i ≤ 200 * i
  | 0 => by simp [smpN]
  | i + 1 => by
    have ih := smpN_le h i
    rcases Nat.lt_or_ge i D.length with hi | hi
    · rw [smpN_more hi]; have := h _ (List.getElem_mem hi); omega
    · have : smpN D (i + 1) = smpN D i := by unfold smpN; rw [List.take_of_length_le (by omega), List.take_of_length_le hi]
      omega
theorem nAhd_all {ss : List (Int × Int)} {t : Int} (h : ∀ y ∈ ss, y.1 < t) : nAhd ss t = ss.length := by
  unfold nAhd
  induction ss with
  | nil => rfl
  | cons x ss ih =>
    rw [List.takeWhile_cons_of_pos (by simpa using h x List.mem_cons_self), List.length_cons, List.length_cons, ih fun y hy => h y (List.mem_cons_of_mem _ hy)]
theorem cut_all {D : List SK} (hD : DOk D) : goneS D 2199023255552 = smpN D D.length ∧ cutS D 2199023255552 = [] := by
  have key : ∀ x ∈ D, nAhd x.2 2199023255552 = x.2.length := fun x hx => nAhd_all fun y hy => by have := ((hD.row x hx).2.2 y hy).2; omega
  refine ⟨?_, ?_⟩
  · unfold goneS smpN
    rw [List.take_of_length_le (Nat.le_refl _)]
    exact congrArg List.sum (List.map_congr_left key)
  · unfold cutS
    rw [List.flatMap_eq_nil_iff]
    intro x hx
    unfold cutOne
    rw [key x hx, List.drop_of_length_le (Nat.le_refl _)]; rfl
/-- What a fill puts in is short and early. -/
def Early (D : List SK) : Prop := ∀ x ∈ D, x.2.length ≤ 20 ∧ ∀ y ∈ x.2, y.1 ≤ 240
theorem fill_early (k : KStore) : ∀ i, i ≤ min k.qs.length 5 → DOk (fillUp k i).2 ∧ Early (fillUp k i).2
  | 0, _ => ⟨DOk.nil, fun x hx => by simp [fillUp] at hx⟩
  | i + 1, hi => by
    obtain ⟨h1, h2⟩ := fill_early k i (by omega)
    obtain ⟨i1, i2, i3⟩ := fillUp_inv k i
    have hiq : i < k.qs.length := by omega
    have hrs : rightS (setOf k i) = true := by unfold setOf; rw [dif_pos hiq]; exact fSet_right _ _
    unfold fillUp
    split
    · exact ⟨h1, h2⟩
    · next hc =>
      simp only [Bool.or_eq_true, decide_eq_true_eq, not_or] at hc
      have hir : i < k.rs.length := by omega
      have hx : xsOf k i = samplesOf 0 (k.rs[i].zs.take 20) := by unfold xsOf; rw [dif_pos hir]
      have hxl : (xsOf k i).length ≤ 20 := by rw [hx, samplesOf_length, List.length_take]; omega
      have hri : Rises 0 240 (xsOf k i) := by rw [hx]; exact samplesOf_rises 0 _ 240 (by rw [List.length_take]; omega)
      have hB := placeB_no h1 hrs (fun x hx e => by
        have h3 := i1 x hx
        rw [e] at h3
        exact hc.1 (List.any_eq_true.2 ⟨_, h3, by simp⟩))
      have hput := (puts_fresh hrs hB (by omega) hri (by omega) (by omega) _ (Nat.le_refl _)).1
      rw [List.take_of_length_le (Nat.le_refl _)] at hput
      have hdok : ∀ (xs : List (Int × Int)) (D : List SK), DOk D → DOk (putsD D (setOf k i) xs) := by
        intro xs
        induction xs with
        | nil => exact fun D h => h
        | cons y ys ih => exact fun D h => ih _ (h.put _ _)
      refine ⟨hdok _ _ h1, ?_⟩
      show Early (putsD (fillUp k i).2 (setOf k i) (xsOf k i))
      rw [hput]
      split
      · exact h2
      · intro x hx
        unfold insD at hx
        rcases List.mem_append.1 hx with hx | hx
        · exact h2 x (List.mem_of_mem_take hx)
        · rcases List.mem_cons.1 hx with rfl | hx
          · exact ⟨hxl, fun y hy => by
              obtain ⟨q, hq, rfl⟩ := List.getElem_of_mem hy
              exact (rises_get hri q hq).2⟩
          · exact h2 x (List.mem_of_mem_drop hx)
theorem fillF_early (k : KStore) : Early (fillF k) := (fill_early k _ (Nat.le_refl _)).2
theorem own_set_some {w : World} {base : Nat} {e : TypeId} {size n : Nat} {v : Value} {xs : List Value} (h : w.ownsRow base e size v n xs) (b o : Nat) (u : Value) : ∃ xs', (w.setCell ⟨b, o, none⟩ u).ownsRow base e size v n xs' := by
  rcases h.2 with ⟨rfl, rfl⟩ | ⟨g, cap, cur, rfl, hb, hh, hnc, hcm, hs, ht⟩
  · exact ⟨xs, h.1, .inl ⟨rfl, rfl⟩⟩
  · by_cases hg : g = b
    · subst hg
      have hx : (cur.setIfInBounds o u).toList.take (n * size) = (cur.setIfInBounds o u).toList.take (n * size) := rfl
      refine ⟨(cur.setIfInBounds o u).toList.take (n * size), ⟨by rw [List.length_take]; simp [hs, Nat.min_eq_left hnc], .inr ⟨g, cap, cur.setIfInBounds o u, rfl, hb, ?_, hnc, hcm, by simpa using hs, rfl⟩⟩⟩
      simp [World.setCell, Array.getElem?_modify, hh]
    · exact ⟨xs, own_same h fun k hk _ => Below.heap_setCell w _ _ k (fun e => by
        have e : k = b := e
        simp [Value.ownBlock] at hk; omega)⟩
theorem own_cells {w : World} {base : Nat} {e : TypeId} {size n : Nat} {v : Value} {xs : List Value} (h : w.ownsRow base e size v n xs) (hn : 0 < n) (hs : 0 < size) : ∃ g c, v = .slice (some ⟨g, 0, none⟩) n c ∧ base ≤ g ∧ g < w.heap.size ∧ (∀ o, w.frozen? ⟨g, o, none⟩ = false) ∧ ∀ o, o < n * size → ∃ u, w.cell? ⟨g, o, none⟩ = some u := by
  rcases h.2 with ⟨rfl, hx⟩ | ⟨g, cap, cur, hv, hb, hh, hnc, hcm, hss, ht⟩
  · have := h.1; rw [hx] at this; have := Nat.mul_pos hn hs; simp at *; omega
  · refine ⟨g, cap, hv, hb, (Array.getElem?_eq_some_iff.1 hh).1, fun o => by simp [World.frozen?, hh], fun o ho => ?_⟩
    subst hv
    have ho2 : o < xs.length := by rw [h.1]; exact ho
    have h1 := h.cells (g := g) rfl o xs[o] (List.getElem?_eq_getElem ho2)
    have ea : (⟨g, 0, none⟩ : Addr).add o = ⟨g, o, none⟩ := by unfold Addr.add; split <;> simp_all
    exact ⟨_, ea ▸ h1⟩
end Go.Proofs.Ythbinnbnmckmfaa
