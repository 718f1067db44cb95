/- klaxonkeep.Samples: samples that are made of numbers. -/
import Derived.Test.YtkodgecejljhkaaSeriesRuns
namespace Go.Proofs.Ytkodgecejljhkaa
open Go.ChangeShapes Go.WideShapes Go.ChangeAt Go.RowKit
set_option linter.unusedVariables false
set_option maxRecDepth 100000
def samplesOf : Int → List Int → List (Int × Int)
  | _, [] => []
  | t, z :: zs => (t + nWithin z 1 12, nWithin (z.tdiv 12) (-4) 9) :: samplesOf (t + nWithin z 1 12) zs
def timeOf : Int → List Int → Int
  | t, [] => t
  | t, z :: zs => timeOf (t + nWithin z 1 12) zs
theorem samplesOf_snoc (t : Int) (zs : List Int) (z : Int) : samplesOf t (zs ++ [z]) = samplesOf t zs ++ [(timeOf t zs + nWithin z 1 12, nWithin (z.tdiv 12) (-4) 9)] := by
  induction zs generalizing t with
  | nil => rfl
  | cons y ys ih => simp only [List.cons_append, samplesOf, timeOf, ih]
theorem timeOf_snoc (t : Int) (zs : List Int) (z : Int) : timeOf t (zs ++ [z]) = timeOf t zs + nWithin z 1 12 := by
  induction zs generalizing t with
  | nil => rfl
  | cons y ys ih => simp only [List.cons_append, timeOf, ih]
theorem samplesOf_length (t : Int) (zs : List Int) : (samplesOf t zs).length = zs.length := by
  induction zs generalizing t with
  | nil => rfl
  | cons y ys ih => simp only [samplesOf, List.length_cons, ih]
theorem timeOf_in (t : Int) (zs : List Int) : t ≤ timeOf t zs ∧ timeOf t zs ≤ t + 12 * zs.length := by
  induction zs generalizing t with
  | nil => simp [timeOf]
  | cons y ys ih =>
    have h1 := nWithin_in y (lo := 1) (hi := 12) (by omega)
    have h2 := ih (t + nWithin y 1 12)
    simp only [timeOf, List.length_cons]
    omega
/-- Times rise, each behind a, none above b. -/
def Rises : Int → Int → List (Int × Int) → Prop
  | _, _, [] => True
  | a, b, x :: xs => a < x.1 ∧ x.1 ≤ b ∧ Rises x.1 b xs
theorem samplesOf_rises (t : Int) (zs : List Int) (b : Int) (hb : t + 12 * zs.length ≤ b) : Rises t b (samplesOf t zs) := by
  induction zs generalizing t with
  | nil => trivial
  | cons y ys ih =>
    have h1 := nWithin_in y (lo := 1) (hi := 12) (by omega)
    simp only [samplesOf, List.length_cons] at hb ⊢
    exact ⟨by simp only; omega, by simp only; omega, ih _ (by omega)⟩
theorem rises_add {a b : Int} {c : Nat} {xs : List (Int × Int)} (h : Rises a b xs) (ha : -1 ≤ a) (hb : b ≤ 1099511627776) (hc : c + xs.length ≤ 200) : addErr a c xs = 0 := by
  induction xs generalizing a c with
  | nil => rfl
  | cons x xs ih =>
    obtain ⟨h1, h2, h3⟩ := h
    simp only [List.length_cons] at hc
    rw [addErr, if_neg (by omega), if_neg (by omega), if_neg (by omega)]
    exact ih h3 (by omega) (by omega)
theorem rises_get {a b : Int} {xs : List (Int × Int)} (h : Rises a b xs) (i : Nat) (hi : i < xs.length) : a < xs[i].1 ∧ xs[i].1 ≤ b := by
  induction xs generalizing a i with
  | nil => simp at hi
  | cons x xs ih =>
    obtain ⟨h1, h2, h3⟩ := h
    cases i with
    | zero => exact ⟨h1, h2⟩
    | succ i =>
      have := ih h3 i (by simpa using hi)
      simp only [List.getElem_cons_succ]
      omega
theorem rises_lt {a b : Int} {xs : List (Int × Int)} (h : Rises a b xs) (i j : Nat) (hi : i < j) (hj : j < xs.length) : xs[i].1 < xs[j].1 := by
  induction xs generalizing a i j with
  | nil => simp at hj
  | cons x xs ih =>
    obtain ⟨h1, h2, h3⟩ := h
    cases j with
    | zero => omega
    | succ j =>
      cases i with
      | zero =>
        simp only [List.getElem_cons_zero, List.getElem_cons_succ]
        exact (rises_get h3 j (by simpa using hj)).1
      | succ i =>
        simp only [List.getElem_cons_succ]
        exact ih h3 i j (by omega) (by simpa using hj)
/-- The place of a time among rising samples. -/
theorem nBeh_rises {a b t : Int} {xs : List (Int × Int)} (h : Rises a b xs) {j : Nat} (hj : j < xs.length) (h1 : xs[j].1 ≤ t) (h2 : ∀ h : j + 1 < xs.length, t < xs[j + 1].1) : nBeh xs t = j + 1 := by
  refine nBeh_of (by omega) (fun i hi hij => ?_) h2
  rcases Nat.lt_or_ge i j with h3 | h3
  · have := rises_lt h i j h3 hj; omega
  · have : i = j := by omega
    subst this; exact h1
set_option maxHeartbeats 1000000 in
theorem samples_any (A : Option Addr) (n c : Nat) (zs : List Int) (w : World) (hl : Sees w w.heap.size 1 A n (ints zs)) (hz : ∀ z ∈ zs, I64 z) (hn : n ≤ 9223372036854775807) :
    Calls Try.prog 4 #[.slice A n c] w (OwnAns 35 2 (min n 20) (smps (samplesOf 0 (zs.take 20))) w) := by
  have H := Lib.hid hl; have HZ := Lib.hid hz
  have HL := Lib.hid hl.int_len
  clear hl hz
  obtain ⟨i0, hi, hz0, hz1, hz2⟩ := info_parts Try.infoSmp
  generalize hm : min n 20 = m
  have HM := Lib.hid hm; clear hm
  go_enter Try.func4, Try.ntmps4
  go_wp2_with fail
  go_loopw [3, 4, 5] (fun v tm j wr => ∃ k : Nat, k ≤ n ∧ k ≤ 20 ∧ j = .int .i64 k ∧ tm = .int .i64 (timeOf 0 (zs.take k)) ∧ wr.ownsRow w.heap.size 35 2 v k (smps (samplesOf 0 (zs.take k))) ∧ Below w.heap.size w wr) (fun _ _ j _ => n - (intOf j).toNat)
  case atStart => exact ⟨0, Nat.zero_le _, Nat.zero_le _, rfl, rfl, by simpa [smps, samplesOf] using World.ownsRow_nil _ _ _ _, Below.refl _ _⟩
  case round =>
    obtain ⟨k, hk, hk20, rfl, rfl, hown, hbel⟩ := hrel
    have hsz := hbel.size
    have HB := Lib.hid hbel; clear hbel
    by_cases hlt : k < n ∧ k < 20
    · obtain ⟨hlt, hlt20⟩ := hlt
      obtain ⟨ad, hkl, rfl, hc⟩ := (H.out.below HB.out).int hlt
      have hI := HZ.out zs[k] (List.getElem_mem _)
      have hT := timeOf_in 0 (zs.take k)
      have hlk : (zs.take k).length = k := by rw [List.length_take]; omega
      rw [hlk] at hT
      have HTK := Lib.hid (List.take_succ_eq_append_getElem hkl)
      have HSN := Lib.hid (samplesOf_snoc 0 (zs.take k) zs[k]); have HTN := Lib.hid (timeOf_snoc 0 (zs.take k) zs[k])
      have HEA : Hid (samplesOf 0 (zs.take (k + 1)) = samplesOf 0 (zs.take k) ++ [(timeOf 0 (zs.take k) + nWithin zs[k] 1 12, nWithin (zs[k].tdiv 12) (-4) 9)] ∧ timeOf 0 (zs.take (k + 1)) = timeOf 0 (zs.take k) + nWithin zs[k] 1 12) := ⟨by rw [HTK.out]; exact HSN.out, by rw [HTK.out]; exact HTN.out⟩
      clear HTK HSN HTN hlk
      have hq := tdiv_in (b := 12) hI (by omega)
      obtain ⟨hx1, hx2⟩ := nWithin_in zs[k] (lo := 1) (hi := 12) (by omega)
      generalize zs[k] = z at *
      generalize timeOf 0 (zs.take k) = t at *
      have HI := Lib.hid hI; have HQ := Lib.hid hq; clear hI
      obtain ⟨hq1, hq2⟩ := hq
      have HLO := Lib.hid hown.lt
      have HO := Lib.hid hown; clear hown
      go_wp2_with fail
      refine (within_any z 1 12 _ HI.out (by omega) (by omega) (by omega)).mono ?_; rintro e w' ⟨rfl, rfl⟩
      go_wp2_with fail
      refine (within_any (z.tdiv 12) (-4) 9 _ HQ.out (by omega) (by omega) (by omega)).mono ?_; rintro e w' ⟨rfl, rfl⟩
      go_wp2_with (at_builtin; refine wpList_append_own _ rfl _ _ 23 rfl w.heap.size 35 i0 (.agg #[.int .i64 0, .int .i64 0]) 2 16 Try.underlying23 hi hz0 hz1 hz2 rfl (by decide) _ _ _ rfl (HO.out.alloc _) ⟨wr.heap.size, 0, none⟩ 1 1 [.int .i64 (t + nWithin z 1 12), .int .i64 (nWithin (z.tdiv 12) (-4) 9)] rfl rfl ?c1 ?c2 ?c3 ?c4 ?c5 ?_)
      case c1 =>
        intro j u hj
        match j, hj with
        | 0, hj => simp at hj; subst hj; simp [Addr.add]
        | 1, hj => simp at hj; subst hj; simp [Addr.add]
      case c2 =>
        intro u hu
        simp at hu
        rcases hu with rfl | rfl <;> rfl
      case c3 => unfold maxLen; omega
      case c4 => omega
      case c5 => simp; omega
      intro v' w1 hown' hg _
      have hb := (HB.out.alloc hsz (.cells #[.int .i64 (t + nWithin z 1 12), .int .i64 (nWithin (z.tdiv 12) (-4) 9)] 35)).grown hg (by simp; omega) (fun g hg => (HLO.out g hg).1)
      have hown2 : w1.ownsRow w.heap.size 35 2 v' (k + 1) (smps (samplesOf 0 (zs.take (k + 1)))) := by rw [HEA.out.1, smps_append]; exact hown'
      have HO2 := Lib.hid hown2; have HB2 := Lib.hid hb; clear hown' hown2 hb hg
      go_wp2_with fail
      go_roundw
      case rel => exact ⟨k + 1, by omega, by omega, by go_num, by rw [HEA.out.2], HO2.out, HB2.out⟩
      case measure => simp [intOf]; omega
    · have hge : ¬ ((k : Int) < n ∧ (k : Int) < 20) := by omega
      obtain ⟨A2, c2, rfl, hc3, hc4⟩ := own_slice hown
      have hkm : k = m := by have := HM.out; omega
      have htk : zs.take k = zs.take 20 := by
        have hl := HL.out
        rcases Nat.lt_or_ge k 20 with h | h
        · rw [List.take_of_length_le (by omega), List.take_of_length_le (by omega)]
        · rw [show k = 20 by omega]
      have HO := Lib.hid hown; have HKM := Lib.hid hkm; have HTK := Lib.hid htk; clear hown hkm htk
      by_cases hlt : k < n
      all_goals
        go_wp2_with fail
        go_ret
        exact ownAns (A := A2) (c := c2) (by rw [← HKM.out, ← HTK.out]; exact HO.out) HB.out (by rw [← HKM.out]; rfl) (by rw [← HKM.out]; exact hc3) hc4
end Go.Proofs.Ytkodgecejljhkaa
