/- One span: what Of, Ticks, Right, Count, Turns make of it. -/
import Derived.Test.YtogdollfndpleaaSpanRight
namespace Go.Proofs.Ytogdollfndpleaa
open Go.ChangeShapes Go.WideShapes Go.ChangeAt Go.RowKit
set_option linter.unusedVariables false
set_option maxRecDepth 100000
theorem clip_one {a b : Int} (h0 : 0 ≤ a) (h1 : a ≤ b) (h2 : b ≤ 199) : clip [(a, b)] = [(a, b)] := by
  have e1 : (if a < 0 then 0 else a) = a := if_neg (by omega)
  have e2 : (if 199 < b then 199 else b) = b := if_neg (by omega)
  unfold clip
  rw [List.flatMap_cons, List.flatMap_nil, List.append_nil]
  show (if (if a < 0 then 0 else a) ≤ (if 199 < b then 199 else b) then [((if a < 0 then 0 else a), (if 199 < b then 199 else b))] else []) = _
  rw [e1, e2, if_pos h1]
theorem isort_rising {l : List Int} (h : l.Pairwise (· ≤ ·)) : isort l = l :=
  List.Perm.eq_of_pairwise (le := (· ≤ ·)) (fun a b _ _ h1 h2 => Int.le_antisymm h1 h2) (isort_rises l) h (isort_perm l)
theorem runF_rising (a : Int) (j : Nat) : (runF a j).Pairwise (· ≤ ·) := by
  unfold runF
  rw [List.pairwise_map]
  exact List.Pairwise.imp (fun h => by omega) (List.pairwise_lt_range (n := j))
theorem ofFold_run {a : Int} (h0 : 0 ≤ a) (j : Nat) (h1 : a + (j : Int) < 200) : (runF a (j + 1)).foldl ofStep [] = [(a, a + (j : Int))] := by
  induction j with
  | zero =>
    rw [runF_snoc]
    simp only [runF, List.range_zero, List.map_nil, List.nil_append, List.foldl_cons, List.foldl_nil]
    unfold ofStep
    rw [if_pos ⟨by simpa using h0, by simpa using h1⟩, withS_nil]; simp
  | succ j ih =>
    rw [runF_snoc, List.foldl_append, ih (by omega)]
    simp only [List.foldl_cons, List.foldl_nil]
    unfold ofStep
    rw [if_pos ⟨by omega, h1⟩]
    have := withS_last [] (a, a + (j : Int)) (a + ((j + 1 : Nat) : Int), a + ((j + 1 : Nat) : Int))
    rw [List.nil_append] at this
    rw [this]
    show (if a + ((j + 1 : Nat) : Int) ≤ a + (j : Int) + 1 then _ else _) = _
    rw [if_pos (by omega)]
    show [] ++ [(a, if a + (j : Int) < a + ((j + 1 : Nat) : Int) then a + ((j + 1 : Nat) : Int) else a + (j : Int))] = _
    rw [if_pos (by omega)]; rfl
theorem ofF_run {a b : Int} (h0 : 0 ≤ a) (h1 : a ≤ b) (h2 : b ≤ 199) {J : Nat} (hJ : (J : Int) = b - a + 1) : ofF (runF a J) = [(a, b)] := by
  unfold ofF
  rw [isort_rising (runF_rising a J)]
  obtain ⟨j, rfl⟩ : ∃ j, J = j + 1 := ⟨J - 1, by omega⟩
  rw [ofFold_run h0 j (by omega)]
  rw [show a + (j : Int) = b by omega]
theorem ticks_one {a b : Int} (h0 : 0 ≤ a) (h1 : a ≤ b) (h2 : b ≤ 199) {J : Nat} (hJ : (J : Int) = b - a + 1) : ticksL (clip [(a, b)]) = runF a J := by
  rw [clip_one h0 h1 h2]
  show runF a (b - a + 1).toNat ++ [] = _
  rw [List.append_nil, show (b - a + 1).toNat = J by omega]
theorem turnsG_same {p f : List (Int × Int)} {a : Int} : ∀ (n : Nat) (t : Int), (∀ i : Nat, i < n → stateF p f (t + (i : Int)) = a) → turnsG p f a t n = []
  | 0, _, _ => rfl
  | n + 1, t, h => by
    have h0 : stateF p f t = a := by simpa using h 0 (by omega)
    rw [turnsG, if_pos h0, List.nil_append, h0]
    exact turnsG_same n (t + 1) fun i hi => by
      have := h (i + 1) (by omega)
      rwa [show t + ((i + 1 : Nat) : Int) = t + 1 + (i : Int) by omega] at this
theorem turnsG_split {p f : List (Int × Int)} {a : Int} : ∀ (m n : Nat) (t : Int), (∀ i : Nat, i < m → stateF p f (t + (i : Int)) = a) → turnsG p f a t (m + n) = turnsG p f a (t + (m : Int)) n
  | 0, n, t, _ => by simp
  | m + 1, n, t, h => by
    have h0 : stateF p f t = a := by simpa using h 0 (by omega)
    rw [show m + 1 + n = (m + n) + 1 by omega, turnsG, if_pos h0, List.nil_append, h0]
    rw [turnsG_split m n (t + 1) fun i hi => by
      have := h (i + 1) (by omega)
      rwa [show t + ((i + 1 : Nat) : Int) = t + 1 + (i : Int) by omega] at this]
    rw [show t + 1 + (m : Int) = t + ((m + 1 : Nat) : Int) by omega]
theorem turnsG_turn {p f : List (Int × Int)} {a s t : Int} (h : stateF p f t = s) (hs : s ≠ a) (n : Nat) : turnsG p f a t (n + 1) = (t, s) :: turnsG p f s (t + 1) n := by
  rw [turnsG, h, if_neg hs]; rfl
/-- Turns where the state is s from a to b, and else none. -/
theorem turns_one {p f : List (Int × Int)} {a b s : Int} (h0 : 0 ≤ a) (h1 : a ≤ b) (hs : s ≠ 0) (hst : ∀ t, stateF p f t = if a ≤ t ∧ t ≤ b then s else 0) (N : Nat) :
    turnsG p f 0 0 N = if a < N then (if b + 1 < N then [(a, s), (b + 1, 0)] else [(a, s)]) else [] := by
  by_cases hN : a < (N : Int)
  · rw [if_pos hN]
    obtain ⟨m, hm⟩ := Int.eq_ofNat_of_zero_le h0
    subst hm
    obtain ⟨n, rfl⟩ : ∃ n, N = m + (n + 1) := ⟨N - m - 1, by omega⟩
    rw [turnsG_split m (n + 1) 0 (fun i hi => by rw [hst, if_neg (by omega)])]
    rw [Int.zero_add, turnsG_turn (s := s) (by rw [hst, if_pos ⟨by omega, h1⟩]) hs]
    by_cases hb : b + 1 < ((m + (n + 1) : Nat) : Int)
    · rw [if_pos hb]
      obtain ⟨q, hq⟩ : ∃ q : Nat, (q : Int) = b - m := ⟨(b - m).toNat, by omega⟩
      obtain ⟨r, rfl⟩ : ∃ r, n = q + (r + 1) := ⟨n - q - 1, by omega⟩
      rw [turnsG_split q (r + 1) _ (fun i hi => by rw [hst, if_pos (by omega)])]
      rw [show (m : Int) + 1 + (q : Int) = b + 1 by omega, turnsG_turn (s := 0) (by rw [hst, if_neg (by omega)]) (fun h => hs h.symm)]
      rw [turnsG_same r _ (fun i hi => by rw [hst, if_neg (by omega)])]
    · rw [if_neg hb]
      rw [turnsG_same n _ (fun i hi => by rw [hst, if_pos (by omega)])]
  · rw [if_neg hN]
    exact turnsG_same N 0 (fun i hi => by rw [hst, if_neg (by omega)])
theorem state_fire {a b : Int} (t : Int) : stateF [] [(a, b)] t = if a ≤ t ∧ t ≤ b then 2 else 0 := by
  unfold stateF hasF
  by_cases h1 : a ≤ t <;> by_cases h2 : t ≤ b <;> simp [h1, h2]
theorem state_pend {a b : Int} (t : Int) : stateF [(a, b)] [] t = if a ≤ t ∧ t ≤ b then 1 else 0 := by
  unfold stateF hasF
  by_cases h1 : a ≤ t <;> by_cases h2 : t ≤ b <;> simp [h1, h2]
theorem turns_none (N : Nat) : turnsG [] [] 0 0 N = [] := turnsG_same N 0 fun i hi => rfl
theorem turnsN_of {k : Int} (h0 : 0 ≤ k) (h1 : k ≤ 200) : (turnsN k : Int) = k := by unfold turnsN; rw [if_neg (by omega)]; omega
end Go.Proofs.Ytogdollfndpleaa
