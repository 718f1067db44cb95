/- Chapter 5's laws: what they say of lists. -/
import Derived.Test.YthnnbbhoelhmbaaBlockRuns
import Derived.Test.YthnnbbhoelhmbaaSamp
import Derived.Test.YthnnbbhoelhmbaaRoomySmp
import Derived.Test.YthnnbbhoelhmbaaBookU8
namespace Go.Proofs.Ythnnbbhoelhmbaa
open Go.ChangeShapes Go.WideShapes Go.ChangeAt Go.RowKit
set_option linter.unusedVariables false
set_option maxRecDepth 100000
theorem heldF_rises {a b : Int} {xs : List (Int × Int)} (h : Rises a b xs) (hb : b ≤ 1099511627776) (c : Int) (hc : c ≤ a) : heldF c xs = true := by
  induction xs generalizing a c with
  | nil => rfl
  | cons x xs ih =>
    obtain ⟨h1, h2, h3⟩ := h
    rw [heldF, if_neg (by omega)]
    exact ih h3 x.1 (Int.le_refl _)
theorem held_samples (zs : List Int) : held (samplesOf 0 (zs.take 20)) = true := by
  unfold held
  have hl : (zs.take 20).length ≤ 20 := by rw [List.length_take]; omega
  rw [decide_eq_true (by rw [samplesOf_length]; omega), Bool.true_and]
  exact heldF_rises (samplesOf_rises 0 _ 240 (by omega)) (by omega) (-1) (by omega)
theorem samples_in (t : Int) (zs : List Int) (h0 : 0 ≤ t) (ht : t + 12 * (zs.length : Int) ≤ 1000) : ∀ x ∈ samplesOf t zs, I64 x.1 ∧ I64 x.2 := by
  induction zs generalizing t with
  | nil => intro x hx; simp [samplesOf] at hx
  | cons z zs ih =>
    intro x hx
    have h1 := nWithin_in z (lo := 1) (hi := 12) (by omega)
    have h2 := nWithin_in (z.tdiv 12) (lo := -4) (hi := 9) (by omega)
    simp only [List.length_cons] at ht
    rcases List.mem_cons.1 hx with rfl | hx
    · unfold I64; simp only; omega
    · exact ih _ (by omega) (by omega) x hx
theorem samples20 (zs : List Int) : ∀ x ∈ samplesOf 0 (zs.take 20), I64 x.1 ∧ I64 x.2 :=
  samples_in 0 _ (by omega) (by rw [List.length_take]; omega)
theorem putB_pos (l : List (Int × Int)) : 1 ≤ (putB l).length := by
  unfold putB; rw [List.length_append]; have := num_pos l.length; omega
theorem putF_of {l : List (Int × Int)} (h : held l = true) : putF l = putB l := by unfold putF; rw [if_pos h]
theorem bodyF_len (l : List (Int × Int)) (t v g : Int) : (bodyF t v g l).length ≤ 20 * l.length := by
  induction l generalizing t v g with
  | nil => simp [bodyF]
  | cons x l ih =>
    rw [bodyF]
    have h1 := num_len (wrap64 (wrap64 (x.1 - t) - g))
    have h2 := num_len (wrap64 (x.2 - v))
    have h3 := ih x.1 x.2 (wrap64 (g + wrap64 (wrap64 (x.1 - t) - g)))
    simp only [List.length_append, List.length_cons]; omega
theorem putF_len (l : List (Int × Int)) (hl : l.length ≤ 1000) : (putF l).length ≤ 20010 := by
  unfold putF; split
  · unfold putB; have := num_len l.length; have := bodyF_len l 0 0 0; simp only [List.length_append]; omega
  · simp
theorem heldF_take (l : List (Int × Int)) (a : Int) (c : Nat) (h : heldF a l = true) : heldF a (l.take c) = true := by
  induction l generalizing a c with
  | nil => simp [heldF]
  | cons x l ih =>
    cases c with
    | zero => rfl
    | succ c =>
      rw [List.take_succ_cons, heldF]; rw [heldF] at h
      split at h
      · cases h
      · rename_i hx; rw [if_neg hx]; exact ih _ _ h
theorem held_take {l : List (Int × Int)} (c : Nat) (h : held l = true) : held (l.take c) = true := by
  unfold held at h ⊢
  simp only [Bool.and_eq_true, decide_eq_true_eq] at h ⊢
  exact ⟨by rw [List.length_take]; omega, heldF_take _ _ _ h.2⟩
/-- Samples a step apart, of one value, from the j'th on. -/
def apart (s v : Int) : Nat → Nat → List (Int × Int)
  | _, 0 => []
  | j, m + 1 => (s * (j + 1), v) :: apart s v (j + 1) m
theorem apart_length (s v : Int) (j m : Nat) : (apart s v j m).length = m := by
  induction m generalizing j with
  | zero => rfl
  | succ m ih => simp [apart, ih]
theorem apart_snoc (s v : Int) (j m : Nat) : apart s v j (m + 1) = apart s v j m ++ [(s * ((j + m : Nat) + 1), v)] := by
  induction m generalizing j with
  | zero => simp [apart]
  | succ m ih =>
    rw [apart, ih (j + 1), apart, List.cons_append]
    rw [show j + 1 + m = j + (m + 1) by omega]
theorem mul_bd {s : Int} {j : Nat} (h1 : 1 ≤ s) (h2 : s ≤ 1000) (hj : j ≤ 100) : 0 ≤ s * (j : Int) ∧ s * (j : Int) ≤ 100000 := by
  refine ⟨Int.mul_nonneg (by omega) (by omega), ?_⟩
  have := Int.mul_le_mul h2 (show (j : Int) ≤ 100 by omega) (by omega) (by omega)
  omega
theorem apart_held {s v : Int} (h1 : 1 ≤ s) (h2 : s ≤ 1000) (j m : Nat) (hm : j + m ≤ 100) (a : Int) (ha : a < s * ((j : Int) + 1)) : heldF a (apart s v j m) = true := by
  induction m generalizing j a with
  | zero => rfl
  | succ m ih =>
    rw [apart, heldF]
    have := mul_bd (j := j + 1) h1 h2 (by omega)
    rw [show ((j + 1 : Nat) : Int) = (j : Int) + 1 by omega] at this
    rw [if_neg (by simp only; omega)]
    refine ih (j + 1) (by omega) _ ?_
    simp only
    rw [show (((j + 1 : Nat) : Int) + 1) = ((j : Int) + 1) + 1 by omega, Int.mul_add s ((j : Int) + 1) 1]
    omega
theorem apart_body {s v : Int} (hv : I64 v) (h1 : 1 ≤ s) (h2 : s ≤ 1000) (j m : Nat) (hm : j + m ≤ 100) : (bodyF (s * (j : Int)) v s (apart s v j m)).length = 2 * m := by
  induction m generalizing j with
  | zero => rfl
  | succ m ih =>
    rw [apart, bodyF]
    have hb := mul_bd (j := j) h1 h2 (by omega)
    have e1 : s * ((j : Int) + 1) - s * (j : Int) = s := by rw [Int.mul_add]; omega
    simp only
    rw [e1, wrap64_of (show I64 s by unfold I64; omega), Int.sub_self, Int.sub_self]
    rw [show wrap64 0 = 0 by unfold wrap64; omega, Int.add_zero, wrap64_of (show I64 s by unfold I64; omega)]
    have := ih (j + 1) (by omega)
    rw [show ((j + 1 : Nat) : Int) = (j : Int) + 1 by omega] at this
    rw [List.length_append, this]
    show (num 0 ++ num 0).length + 2 * m = _
    rw [show (num 0 ++ num 0).length = 2 by decide]; omega
theorem apart_put {s v : Int} (hv : I64 v) (h1 : 1 ≤ s) (h2 : s ≤ 1000) (m : Nat) (hm : m + 1 ≤ 60) : (putF (apart s v 0 (m + 1))).length = 1 + ((num s).length + (num v).length) + 2 * m := by
  have hh : held (apart s v 0 (m + 1)) = true := by
    unfold held; rw [apart_length, decide_eq_true (by omega), Bool.true_and]
    exact apart_held h1 h2 0 _ (by omega) (-1) (by simp; omega)
  rw [putF_of hh]
  unfold putB
  rw [apart_length, List.length_append]
  have hn : (num ((m + 1 : Nat) : Int)).length = 1 := by
    unfold num enc
    have : zig ((m + 1 : Nat) : Int) ≤ 127 := by unfold zig; split <;> omega
    rw [encF, if_neg (by omega)]; rfl
  rw [hn, apart, bodyF]
  simp only
  rw [show s * (((0 : Nat) : Int) + 1) - 0 = s by simp, wrap64_of (show I64 s by unfold I64; omega), Int.sub_zero, wrap64_of (show I64 s by unfold I64; omega), Int.sub_zero, wrap64_of hv, Int.zero_add, wrap64_of (show I64 s by unfold I64; omega)]
  have := apart_body hv h1 h2 1 m (by omega)
  rw [show s * ((1 : Nat) : Int) = s by simp] at this
  rw [show s * (((0 : Nat) : Int) + 1) = s by simp]
  rw [List.length_append, List.length_append, this]; omega
end Go.Proofs.Ythnnbbhoelhmbaa
