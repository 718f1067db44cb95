/- Samples in order: what is added, cut, between. No walk in it. -/
import Derived.Test.YtlcpnlmfnllgmaaSeriesAdd2
namespace Go.Proofs.Ytlcpnlmfnllgmaa
open Go.RowKit
set_option linter.unusedVariables false
/-- Times rise, from nought on; they are few. -/
structure Ris (os : List (Int × Int)) : Prop where
  pw : os.Pairwise fun x y => x.1 < y.1
  in_ : ∀ x ∈ os, 0 ≤ x.1 ∧ x.1 ≤ 1099511627776
  few : os.length ≤ 200
theorem Ris.nil : Ris [] := ⟨List.Pairwise.nil, (fun x hx => by simp at hx), by simp⟩
theorem Ris.up {os : List (Int × Int)} (h : Ris os) (i j : Nat) (hij : i < j) (hj : j < os.length) : (os[i]'(by omega)).1 < os[j].1 := List.pairwise_iff_getElem.1 h.pw i j (by omega) hj hij
theorem Ris.drop {os : List (Int × Int)} (h : Ris os) (k : Nat) : Ris (os.drop k) :=
  ⟨h.pw.sublist (List.drop_sublist _ _), fun x hx => h.in_ x (List.mem_of_mem_drop hx), by have := h.few; rw [List.length_drop]; omega⟩
theorem lastT_at {os : List (Int × Int)} (h : 0 < os.length) : lastT os = (os[os.length - 1]'(by omega)).1 := by
  unfold lastT
  rw [List.getD_eq_getElem?_getD, List.getElem?_eq_getElem (by omega)]
  rfl
theorem lastT_nil : lastT [] = -1 := rfl
theorem lastT_snoc (os : List (Int × Int)) (x : Int × Int) : lastT (os ++ [x]) = x.1 := by
  rw [lastT_at (by simp)]
  simp
theorem Ris.last {os : List (Int × Int)} (h : Ris os) : ∀ x ∈ os, x.1 ≤ lastT os := by
  intro x hx
  obtain ⟨i, hi, rfl⟩ := List.getElem_of_mem hx
  rw [lastT_at (by omega)]
  rcases Nat.lt_or_ge i (os.length - 1) with h1 | h1
  · exact Int.le_of_lt (h.up i _ h1 (by omega))
  · have : i = os.length - 1 := by omega
    subst this; exact Int.le_refl _
theorem Ris.snoc {os : List (Int × Int)} (h : Ris os) {y z : Int} (h0 : 0 ≤ y) (h1 : y ≤ 1099511627776) (h2 : lastT os < y) (h3 : os.length < 200) : Ris (os ++ [(y, z)]) := by
  refine ⟨List.pairwise_append.2 ⟨h.pw, List.pairwise_singleton _ _, fun a ha b hb => ?_⟩, fun x hx => ?_, by rw [List.length_append]; simp; omega⟩
  · rw [List.mem_singleton.1 hb]
    have := h.last a ha
    show a.1 < y
    omega
  · rcases List.mem_append.1 hx with hx | hx
    · exact h.in_ x hx
    · rw [List.mem_singleton.1 hx]; exact ⟨h0, h1⟩
/-- How far the law has come with what is to be added. -/
def LoopOk (os xs : List (Int × Int)) (j : Nat) (want : Int) (nx : List (Int × Int)) : Prop :=
  (want = 0 → nx = os ++ xs.take j ∧ addErr (lastT os) os.length xs = addErr (lastT nx) nx.length (xs.drop j)) ∧ (want ≠ 0 → addErr (lastT os) os.length xs = want)
section
variable {os xs nx : List (Int × Int)} {j : Nat} {want y z : Int}
theorem LoopOk.start : LoopOk os xs 0 0 os := ⟨fun _ => ⟨by simp, by simp⟩, fun h => absurd rfl h⟩
theorem LoopOk.skip (h : LoopOk os xs j want nx) (hw : want ≠ 0) : LoopOk os xs (j + 1) want nx := ⟨fun e => absurd e hw, h.2⟩
theorem drop_at (hj : j < xs.length) (hx : xs[j] = (y, z)) : xs.drop j = (y, z) :: xs.drop (j + 1) := by rw [List.drop_eq_getElem_cons hj, hx]
theorem LoopOk.form (h : LoopOk os xs j 0 nx) (hj : j < xs.length) (hx : xs[j] = (y, z)) (hy : y < 0 ∨ 1099511627776 < y) : LoopOk os xs (j + 1) 1 nx :=
  ⟨fun e => absurd e (by decide), fun _ => by rw [(h.1 rfl).2, drop_at hj hx, addErr_form hy]⟩
theorem LoopOk.order (h : LoopOk os xs j 0 nx) (hj : j < xs.length) (hx : xs[j] = (y, z)) (h0 : ¬ y < 0) (h1 : ¬ 1099511627776 < y) (h2 : y ≤ lastT nx) : LoopOk os xs (j + 1) 2 nx :=
  ⟨fun e => absurd e (by decide), fun _ => by rw [(h.1 rfl).2, drop_at hj hx, addErr_order h0 h1 h2]⟩
theorem LoopOk.full (h : LoopOk os xs j 0 nx) (hj : j < xs.length) (hx : xs[j] = (y, z)) (h0 : ¬ y < 0) (h1 : ¬ 1099511627776 < y) (h2 : ¬ y ≤ lastT nx) (h3 : 200 ≤ nx.length) : LoopOk os xs (j + 1) 8 nx :=
  ⟨fun e => absurd e (by decide), fun _ => by rw [(h.1 rfl).2, drop_at hj hx, addErr_full h0 h1 h2 h3]⟩
theorem LoopOk.next (h : LoopOk os xs j 0 nx) (hj : j < xs.length) (hx : xs[j] = (y, z)) (h0 : ¬ y < 0) (h1 : ¬ 1099511627776 < y) (h2 : ¬ y ≤ lastT nx) (h3 : ¬ 200 ≤ nx.length) : LoopOk os xs (j + 1) 0 (nx ++ [(y, z)]) := by
  obtain ⟨e1, e2⟩ := h.1 rfl
  refine ⟨fun _ => ⟨?_, ?_⟩, fun e => absurd rfl e⟩
  · rw [e1, List.append_assoc, List.take_succ_eq_append_getElem hj, hx]
  · rw [e2, drop_at hj hx, addErr_next h0 h1 h2 h3, lastT_snoc, List.length_append]; rfl
theorem LoopOk.ends (h : LoopOk os xs xs.length want nx) : addErr (lastT os) os.length xs = want ∧ (want = 0 → nx = os ++ xs) := by
  by_cases hw : want = 0
  · obtain ⟨e1, e2⟩ := h.1 hw
    refine ⟨by rw [e2, List.drop_length, hw]; rfl, fun _ => by rw [e1, List.take_length]⟩
  · exact ⟨h.2 hw, fun e => absurd e hw⟩
end
theorem nAhd_in (os : List (Int × Int)) (t : Int) : (∀ i (h : i < os.length), i < nAhd os t → os[i].1 < t) ∧ ∀ h : nAhd os t < os.length, t ≤ os[nAhd os t].1 := by
  induction os with
  | nil => exact ⟨fun i h => by simp at h, fun h => by simp at h⟩
  | cons x os ih =>
    have e : nAhd (x :: os) t = if x.1 < t then nAhd os t + 1 else 0 := by
      unfold nAhd
      by_cases hx : x.1 < t
      · rw [List.takeWhile_cons_of_pos (by simpa using hx), if_pos hx]; rfl
      · rw [List.takeWhile_cons_of_neg (by simpa using hx), if_neg hx]; rfl
    by_cases hx : x.1 < t
    · rw [if_pos hx] at e
      refine ⟨fun i h hi => ?_, fun h => ?_⟩
      · cases i with
        | zero => exact hx
        | succ i => exact ih.1 i (by simpa using h) (by omega)
      · have h2 : nAhd os t < os.length := by rw [e] at h; simpa using h
        have := ih.2 h2
        simp only [e, List.getElem_cons_succ]
        exact this
    · rw [if_neg hx] at e
      refine ⟨fun i h hi => by omega, fun h => ?_⟩
      simp only [e, List.getElem_cons_zero]
      omega
theorem between_eq {os : List (Int × Int)} (h : os.Pairwise fun x y => x.1 < y.1) (a b : Int) : (os.take (nBeh os b)).drop (nAhd os a) = os.filter fun x => decide (a ≤ x.1) && decide (x.1 ≤ b) := by
  induction os with
  | nil => simp
  | cons x os ih =>
    obtain ⟨h1, h2⟩ := List.pairwise_cons.1 h
    have ih := ih h2
    have e1 : nAhd (x :: os) a = if x.1 < a then nAhd os a + 1 else 0 := by
      unfold nAhd
      by_cases hx : x.1 < a
      · rw [List.takeWhile_cons_of_pos (by simpa using hx), if_pos hx]; rfl
      · rw [List.takeWhile_cons_of_neg (by simpa using hx), if_neg hx]; rfl
    have e2 : nBeh (x :: os) b = if x.1 ≤ b then nBeh os b + 1 else 0 := by
      unfold nBeh
      by_cases hx : x.1 ≤ b
      · rw [List.takeWhile_cons_of_pos (by simpa using hx), if_pos hx]; rfl
      · rw [List.takeWhile_cons_of_neg (by simpa using hx), if_neg hx]; rfl
    by_cases hb : x.1 ≤ b
    · rw [if_pos hb] at e2
      by_cases ha : x.1 < a
      · rw [if_pos ha] at e1
        rw [e1, e2, List.take_succ_cons, List.drop_succ_cons, ih, List.filter_cons_of_neg (by simp; omega)]
      · rw [if_neg ha] at e1
        have e3 : nAhd os a = 0 := by
          unfold nAhd
          cases os with
          | nil => rfl
          | cons y os => rw [List.takeWhile_cons_of_neg (by have := h1 y List.mem_cons_self; simp; omega)]; rfl
        rw [e3, List.drop_zero] at ih
        rw [e1, e2, List.take_succ_cons, List.drop_zero, ih, List.filter_cons_of_pos (by simp; omega)]
    · rw [if_neg hb] at e2
      rw [e2, List.take_zero, List.drop_nil, List.filter_cons_of_neg (by simp; omega)]
      symm
      rw [List.filter_eq_nil_iff]
      intro y hy
      have := h1 y hy
      simp; omega
theorem between_len {os : List (Int × Int)} (a b : Int) : ((os.take (nBeh os b)).drop (nAhd os a)).length = nBeh os b - nAhd os a := by
  have := nBeh_le os b
  rw [List.length_drop, List.length_take]; omega
theorem filter_snoc {os : List (Int × Int)} {j : Nat} (hj : j < os.length) (p : Int × Int → Bool) : (os.take (j + 1)).filter p = (os.take j).filter p ++ if p os[j] = true then [os[j]] else [] := by
  rw [List.take_succ_eq_append_getElem hj, List.filter_append]
  by_cases h : p os[j] = true
  · rw [if_pos h, List.filter_cons_of_pos h, List.filter_nil]
  · rw [if_neg h, List.filter_cons_of_neg h, List.filter_nil]
end Go.Proofs.Ytlcpnlmfnllgmaa
