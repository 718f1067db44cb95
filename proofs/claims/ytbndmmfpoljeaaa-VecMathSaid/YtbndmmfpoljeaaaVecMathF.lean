/- What VecMath wants of a vector. No program in it. -/
import Derived.Test.YtbndmmfpoljeaaaVecStart
namespace Go.Proofs.Ytbndmmfpoljeaaa
open Go.ChangeShapes Go.WideShapes Go.ChangeAt Go.RowKit
set_option linter.unusedVariables false
set_option linter.unusedSimpArgs false
set_option maxRecDepth 100000
theorem total_out {f : Pt → Option (List Lbl × (Int × Int))} {g : Pt → Pt} : ∀ {ps : List Pt}, (∀ p ∈ ps, f p = some ((g p).1, ((g p).2, 0))) → outF f ps = ps.map g ∧ errF f ps = 0
  | [], _ => ⟨rfl, rfl⟩
  | p :: ps, h => by
    obtain ⟨h1, h2⟩ := total_out (f := f) (g := g) (ps := ps) fun q hq => h q (List.mem_cons_of_mem _ hq)
    have e := h p List.mem_cons_self
    refine ⟨?_, ?_⟩
    · unfold outF at h1 ⊢
      rw [List.filterMap_cons, e, List.map_cons, ← h1]; rfl
    · rw [errF_cons, e]; simp [h2]
theorem total_res {f : Pt → Option (List Lbl × (Int × Int))} {g : Pt → Pt} {ps : List Pt} (h : ∀ p ∈ ps, f p = some ((g p).1, ((g p).2, 0))) : resF f ps = (sortP (ps.map g), 0) := by
  obtain ⟨h1, h2⟩ := total_out h
  unfold resF; rw [h1, h2]; rfl
theorem bare_bare (l : List Lbl) : bareL (bareL l) = bareL l := by unfold bareL; rw [List.filter_filter]; simp
theorem keyT_bare (l : List Lbl) : keyT (bareL l) = keyT l := by unfold keyT; rw [bare_bare]
theorem reck3 {a b : Int} (h : I64 (a + b)) : reckonF 3 a b = (a + b, 0) := by show (nV (a + b), nE (a + b)) = _; rw [nV_in h, nE_in h]
theorem reck4 {a b : Int} (h : I64 (a - b)) : reckonF 4 a b = (a - b, 0) := by show (nV (a - b), nE (a - b)) = _; rw [nV_in h, nE_in h]
theorem reck5 {a b : Int} (h : I64 (a * b)) : reckonF 5 a b = (a * b, 0) := by show (nV (a * b), nE (a * b)) = _; rw [nV_in h, nE_in h]
theorem find_own {ps : List Pt} (hn : (keysP ps).Nodup) {p q : Pt} (hp : p ∈ ps) (hk : keyT q.1 = keyT p.1) : ∃ i, findP ps q = some i ∧ valP ps i = p.2 := by
  unfold findP
  have hl : (keysP ps).length = ps.length := by simp [keysP]
  rw [hk, ← hl, placeN_idx _ _ _ (Nat.le_refl _), List.take_length]
  cases e : idxG (keysP ps) (keyT p.1) with
  | none => rw [idxG_none] at e; exact absurd (keysP_self hp) e
  | some i =>
    obtain ⟨h1, h2⟩ := idxG_some e
    refine ⟨(i : Int), rfl, ?_⟩
    obtain ⟨j, hj, rfl⟩ := List.getElem_of_mem hp
    have hij : i = j := by
      have hkj : (keysP ps)[j]? = some (keyT ps[j].1) := by unfold keysP; rw [List.getElem?_map, List.getElem?_eq_getElem hj]; rfl
      exact (List.getElem?_inj h1 hn).1 (h2.trans hkj.symm)
    subst hij
    unfold valP
    rw [show ((i : Int)).toNat = i by omega, List.getElem?_eq_getElem hj]; rfl
/-- Sorting by sets, values turned. -/
theorem sortP_map {l : List Pt} {g : Pt → Pt} (h : ∀ p, (g p).1 = p.1) : sortP (l.map g) = (sortP l).map g := by
  unfold sortP
  rw [sortK_map]
  congr 1
  congr 1
  funext p; rw [h]
theorem sortP_bare {l : List Pt} (g : Pt → Int) : sortP (l.map fun p => (bareL p.1, g p)) = (sortK (fun p : Pt => printL (bareL p.1)) l).map fun p => (bareL p.1, g p) := by
  unfold sortP; rw [sortK_map]
theorem mul_small {v m : Int} (h1 : -9 ≤ v) (h2 : v ≤ 20) (h3 : -50 ≤ m) (h4 : m ≤ 50) : -1000 ≤ v * m ∧ v * m ≤ 1000 := by
  rcases Int.le_total 0 v with h | h
  · have a := Int.mul_le_mul_of_nonneg_left h3 h
    have b := Int.mul_le_mul_of_nonneg_left h4 h
    omega
  · have hn : 0 ≤ -v := by omega
    have a := Int.mul_le_mul_of_nonneg_left h3 hn
    have b := Int.mul_le_mul_of_nonneg_left h4 hn
    rw [Int.neg_mul] at a b
    rw [Int.neg_mul] at a b
    omega
structure MathF (ps : List Pt) (k m : Int) (Ls Lb Ly Lz L0 : List Pt) (er : Int) : Prop where
  rs : mathR 3 ps ps = (Ls, 0)
  rd : mathR 4 Ls ps = (Lb, 0)
  rt : scaleR 5 2 false ps = (Ls, 0)
  rb : scaleR 3 0 false ps = (Lb, 0)
  tb : twiceF (keysP Lb) = false
  ry : scaleR k m true ps = (Ly, 0)
  rz : scaleR k m false ps = (Lz, 0)
  r0 : scaleR 6 0 false ps = (L0, er)
  e0 : (er == 4) = decide (0 < ps.length)
  nb : Lb.length = ps.length
  ns : Ls.length = ps.length
  ny : Ly.length = ps.length
  nz : Lz.length = ps.length
  fs : Fine Ls
  fb : Fine Lb
  name : ∀ p ∈ Lb, ∀ x ∈ p.1, x.1 ≠ nameB
  rise : ∀ (i : Nat) (p q : Pt), Lb[i]? = some p → Lb[i + 1]? = some q → Op.bytesLess (printL p.1) (printL q.1) = true
  yz : ∀ (i : Nat) (p q : Pt), Ly[i]? = some p → Lz[i]? = some q → (k ≠ 4 → p.2 = q.2) ∧ (k = 4 → p.2 = -q.2) ∧ -5000 ≤ q.2 ∧ q.2 ≤ 5000
theorem mathF_of {ps : List Pt} (hp : VecOk ps) {k m : Int} (hk : k = 3 ∨ k = 4 ∨ k = 5) (hm : -50 ≤ m ∧ m ≤ 50) (h : twiceF (keysP ps) = false) : ∃ Ls Lb Ly Lz L0 er, MathF ps k m Ls Lb Ly Lz L0 er := by
  have hn := (twice_iff _).1 h
  have hv := hp.vals
  have rs : mathR 3 ps ps = (sortP (ps.map fun p => (bareL p.1, p.2 + p.2)), 0) := by
    unfold mathR; rw [h]
    refine total_res (g := fun p => (bareL p.1, p.2 + p.2)) fun p hp2 => ?_
    obtain ⟨i, h1, h2⟩ := find_own hn hp2 (q := p) rfl
    have := hv p hp2
    unfold mathF; rw [h1]; simp only [Option.map_some]; rw [h2, reck3 (by unfold I64; omega)]
  have rt : scaleR 5 2 false ps = (sortP (ps.map fun p => (bareL p.1, p.2 + p.2)), 0) := by
    unfold scaleR; rw [h]
    refine total_res (g := fun p => (bareL p.1, p.2 + p.2)) fun p hp2 => ?_
    have := hv p hp2
    unfold scaleF
    rw [if_neg (by simp), reck5 (by unfold I64; omega), show p.2 * 2 = p.2 + p.2 by omega]
  have rb : scaleR 3 0 false ps = (sortP (ps.map fun p => (bareL p.1, p.2)), 0) := by
    unfold scaleR; rw [h]
    refine total_res (g := fun p => (bareL p.1, p.2)) fun p hp2 => ?_
    have := hv p hp2
    unfold scaleF
    rw [if_neg (by simp), reck3 (by unfold I64; omega), Int.add_zero]
  have hkS : ∀ g : Pt → Int, keysP (ps.map fun p => (bareL p.1, g p)) = keysP ps := fun g => by
    unfold keysP; rw [List.map_map]; exact List.map_congr_left fun p _ => keyT_bare p.1
  have htS : ∀ g : Pt → Int, twiceF (keysP (sortP (ps.map fun p => (bareL p.1, g p)))) = false := fun g => by
    rw [twice_perm (keysP_sort _), hkS]; exact h
  have rd : mathR 4 (sortP (ps.map fun p => (bareL p.1, p.2 + p.2))) ps = (sortP (ps.map fun p => (bareL p.1, p.2)), 0) := by
    unfold mathR; rw [htS, h]
    have e : (if (false || false) = true then (([] : List Pt), (5 : Int)) else resF (mathF 4 ps) (sortP (ps.map fun p => (bareL p.1, p.2 + p.2)))) = resF (mathF 4 ps) (sortP (ps.map fun p => (bareL p.1, p.2 + p.2))) := rfl
    rw [e, total_res (g := fun x => (x.1, x.2 / 2)) fun x hx => ?_]
    · rw [sortP_map (g := fun x : Pt => (x.1, x.2 / 2)) (fun _ => rfl), sortP_twice, ← sortP_map (g := fun x : Pt => (x.1, x.2 / 2)) (fun _ => rfl), List.map_map]
      have e2 : (ps.map ((fun x : Pt => (x.1, x.2 / 2)) ∘ fun p => (bareL p.1, p.2 + p.2))) = ps.map fun p => (bareL p.1, p.2) := List.map_congr_left fun p _ => by
        show (bareL p.1, (p.2 + p.2) / 2) = _
        rw [show (p.2 + p.2) / 2 = p.2 by omega]
      rw [e2]
    · rw [sortP_mem, List.mem_map] at hx
      obtain ⟨p, hp2, rfl⟩ := hx
      obtain ⟨i, h1, h2⟩ := find_own hn hp2 (q := (bareL p.1, p.2 + p.2)) (keyT_bare p.1)
      have := hv p hp2
      unfold mathF; rw [h1]; simp only [Option.map_some]; rw [h2, reck4 (by unfold I64; omega), bare_bare, show p.2 + p.2 - p.2 = (p.2 + p.2) / 2 by omega]
  have hsc : ∀ first : Bool, ∃ r : Int → Int, (∀ p ∈ ps, (if first = true then reckonF k m p.2 else reckonF k p.2 m) = (r p.2, 0)) ∧ (∀ v, -9 ≤ v → v ≤ 20 → r v = if k = 3 then v + m else if k = 4 then (if first = true then m - v else v - m) else v * m) := fun first => by
    refine ⟨fun v => if k = 3 then v + m else if k = 4 then (if first = true then m - v else v - m) else v * m, fun p hp2 => ?_, fun _ _ _ => rfl⟩
    have hb := hv p hp2
    have hmul := mul_small hb.1 hb.2 hm.1 hm.2
    have hmul2 : m * p.2 = p.2 * m := Int.mul_comm _ _
    rcases hk with rfl | rfl | rfl
    · cases first with
      | true => rw [if_pos rfl, reck3 (by unfold I64; omega)]; simp [Int.add_comm]
      | false => rw [if_neg (by simp), reck3 (by unfold I64; omega)]; simp
    · cases first with
      | true => rw [if_pos rfl, reck4 (by unfold I64; omega)]; simp
      | false => rw [if_neg (by simp), reck4 (by unfold I64; omega)]; simp
    · cases first with
      | true => rw [if_pos rfl, reck5 (by unfold I64; omega), hmul2]; simp
      | false => rw [if_neg (by simp), reck5 (by unfold I64; omega)]; simp
  obtain ⟨ry, hy, hyv⟩ := hsc true
  obtain ⟨rz, hz, hzv⟩ := hsc false
  have r1 : scaleR k m true ps = (sortP (ps.map fun p => (bareL p.1, ry p.2)), 0) := by
    unfold scaleR; rw [h]
    refine total_res (g := fun p => (bareL p.1, ry p.2)) fun p hp2 => ?_
    unfold scaleF; rw [hy p hp2]
  have r2 : scaleR k m false ps = (sortP (ps.map fun p => (bareL p.1, rz p.2)), 0) := by
    unfold scaleR; rw [h]
    refine total_res (g := fun p => (bareL p.1, rz p.2)) fun p hp2 => ?_
    unfold scaleF; rw [hz p hp2]
  have hfine : ∀ g : Pt → Int, (∀ p ∈ ps, I64 (g p)) → Fine (sortP (ps.map fun p => (bareL p.1, g p))) := fun g hg => Fine.sort ⟨fun x hx => by
    rw [List.mem_map] at hx; obtain ⟨p, hp2, rfl⟩ := hx
    have := bare_len p.1; have := hp.few p hp2; simp only; omega, fun x hx => by
    rw [List.mem_map] at hx; obtain ⟨p, hp2, rfl⟩ := hx
    exact hg p hp2⟩
  have r0 : ∃ L0 er, scaleR 6 0 false ps = (L0, er) ∧ (er == 4) = decide (0 < ps.length) := by
    unfold scaleR; rw [h]
    cases ps with
    | nil => exact ⟨_, _, rfl, rfl⟩
    | cons p ps =>
      have e : errF (scaleF 6 0 false) (p :: ps) = 4 := by
        rw [errF_cons]; rfl
      refine ⟨[], 4, ?_, by simp⟩
      rw [if_neg (by simp)]
      unfold resF; rw [e]; rfl
  obtain ⟨L0, er, r00, r01⟩ := r0
  refine ⟨_, _, _, _, L0, er, rs, rd, rt, rb, htS _, r1, r2, r00, r01, ?_, ?_, ?_, ?_, ?_, ?_, ?_, ?_, ?_⟩
  · rw [sortP_len, List.length_map]
  · rw [sortP_len, List.length_map]
  · rw [sortP_len, List.length_map]
  · rw [sortP_len, List.length_map]
  · exact hfine (fun p => p.2 + p.2) fun p hp2 => by have := hv p hp2; unfold I64; omega
  · exact hfine (fun p => p.2) fun p hp2 => by have := hv p hp2; unfold I64; omega
  · intro x hx y hy
    rw [sortP_mem, List.mem_map] at hx
    obtain ⟨p, hp2, rfl⟩ := hx
    have := (List.mem_filter.1 hy).2
    intro e
    rw [e, hasS_one] at this
    simp at this
  · intro i p q h1 h2
    have hs := sortK_sorted (fun q : Pt => printL q.1) (ps.map fun p => (bareL p.1, p.2))
    obtain ⟨hi1, rfl⟩ := List.getElem?_eq_some_iff.1 h1
    obtain ⟨hi2, rfl⟩ := List.getElem?_eq_some_iff.1 h2
    have hle := List.pairwise_iff_getElem.1 hs i (i + 1) hi1 hi2 (by omega)
    have hkn : (keysP (sortP (ps.map fun p => (bareL p.1, p.2)))).Nodup := (twice_iff _).1 (htS _)
    have hkp : ∀ x ∈ sortP (ps.map fun p => (bareL p.1, p.2)), printL x.1 = keyT x.1 := fun x hx => by
      rw [sortP_mem, List.mem_map] at hx
      obtain ⟨p, _, rfl⟩ := hx
      show printL (bareL p.1) = keyT (bareL p.1)
      unfold keyT; rw [bare_bare]
    have hne : printL (sortP (ps.map fun p => (bareL p.1, p.2)))[i].1 ≠ printL (sortP (ps.map fun p => (bareL p.1, p.2)))[i + 1].1 := by
      rw [hkp _ (List.getElem_mem _), hkp _ (List.getElem_mem _)]
      have h3 := List.pairwise_iff_getElem.1 hkn i (i + 1) (by simpa [keysP] using hi1) (by simpa [keysP] using hi2) (by omega)
      simpa [keysP] using h3
    rcases cmp_ne hne with h3 | h3
    · exact h3
    · unfold LeK at hle
      have h4 : Op.bytesLess (printL (sortP (ps.map fun p => (bareL p.1, p.2)))[i + 1].1) (printL (sortP (ps.map fun p => (bareL p.1, p.2)))[i].1) = false := hle
      rw [h3] at h4; cases h4
  · intro i p q h1 h2
    rw [sortP_bare (fun p => ry p.2)] at h1
    rw [sortP_bare (fun p => rz p.2)] at h2
    rw [List.getElem?_map] at h1 h2
    cases e : (sortK (fun p : Pt => printL (bareL p.1)) ps)[i]? with
    | none => rw [e] at h1; cases h1
    | some x =>
      rw [e] at h1 h2
      injection h1 with h1; injection h2 with h2
      have hx : x ∈ ps := (sortK_mem _ _ _).1 (List.mem_of_getElem? e)
      have hb := hv x hx
      have a1 := hyv x.2 hb.1 hb.2
      have a2 := hzv x.2 hb.1 hb.2
      have hmul := mul_small hb.1 hb.2 hm.1 hm.2
      rw [← h1, ← h2]
      show (k ≠ 4 → ry x.2 = rz x.2) ∧ (k = 4 → ry x.2 = -rz x.2) ∧ -5000 ≤ rz x.2 ∧ rz x.2 ≤ 5000
      rw [a1, a2]
      rcases hk with rfl | rfl | rfl
      · simp; omega
      · simp; omega
      · simp; omega
end Go.Proofs.Ytbndmmfpoljeaaa
