/- klaxonref7: digit, letter, begins, Signs. -/
import Derived.Test.YtealflkblkfhbaaDoorLex6
import Derived.Test.YtealflkblkfhbaaDoorBa
namespace Go.Proofs.YtealflkblkfhbaaDoor
open Go.ChangeShapes Go.WideShapes Go.ChangeAt Go.RowKit
set_option linter.unusedVariables false
set_option linter.unusedSimpArgs false
set_option maxRecDepth 100000
theorem rdigit_any (c : Nat) (w : World) : Calls Tryd.prog 44 #[.int .u8 c] w fun e w' => e = .returned (.bool (digitN c)) ∧ w = w' := by
  by_cases h1 : 48 ≤ c
  · by_cases h2 : c ≤ 57
    · have H := Lib.hid (digitN_yes h1 h2)
      have i1 : (48 : Int) ≤ c := by omega
      have i2 : (c : Int) ≤ 57 := by omega
      go_enter Tryd.func44, Tryd.ntmps44
      go_wp2_with fail
      go_ret
      exact ⟨ret_yes rfl H.out, rfl⟩
    · have H := Lib.hid (digitN_high h2)
      have i1 : (48 : Int) ≤ c := by omega
      have i2 : ¬ (c : Int) ≤ 57 := by omega
      go_enter Tryd.func44, Tryd.ntmps44
      go_wp2_with fail
      go_ret
      exact ⟨ret_no rfl H.out, rfl⟩
  · have H := Lib.hid (digitN_low h1)
    have i1 : ¬ (48 : Int) ≤ c := by omega
    go_enter Tryd.func44, Tryd.ntmps44
    go_wp2_with fail
    go_ret
    exact ⟨ret_no rfl H.out, rfl⟩
theorem rletter_any (c : Nat) (w : World) : Calls Tryd.prog 45 #[.int .u8 c] w fun e w' => e = .returned (.bool (smallN c)) ∧ w = w' := by
  by_cases h1 : 97 ≤ c
  · by_cases h2 : c ≤ 122
    · have H := Lib.hid (smallN_yes h1 h2)
      have i1 : (97 : Int) ≤ c := by omega
      have i2 : (c : Int) ≤ 122 := by omega
      go_enter Tryd.func45, Tryd.ntmps45
      go_wp2_with fail
      go_ret
      exact ⟨ret_yes rfl H.out, rfl⟩
    · have H := Lib.hid (smallN_high h2)
      have i1 : (97 : Int) ≤ c := by omega
      have i2 : ¬ (c : Int) ≤ 122 := by omega
      go_enter Tryd.func45, Tryd.ntmps45
      go_wp2_with fail
      go_ret
      exact ⟨ret_no rfl H.out, rfl⟩
  · have H := Lib.hid (smallN_low h1)
    have i1 : ¬ (97 : Int) ≤ c := by omega
    go_enter Tryd.func45, Tryd.ntmps45
    go_wp2_with fail
    go_ret
    exact ⟨ret_no rfl H.out, rfl⟩
theorem rsigns_any (w : World) : Calls Tryd.prog 16 #[] w fun e w' => e = .returned (.slice (some ⟨w.heap.size, 0, none⟩) 22 22) ∧ w.alloc (.cells (txs1 signsL).toArray 9) = w' := by
  go_enter Tryd.func16, Tryd.ntmps16
  go_wp2_with fail
  go_ret
  exact ⟨rfl, rfl⟩
theorem prefix_no {l p : List UInt8} (h : l.length < p.length) : Lib.hasPrefix l p = false := by
  rw [← Lib.hasPrefix_of_take, decide_eq_false (by omega)]; rfl
theorem prefix_at {s x : ByteArray} {a m : Nat} (hm : a + x.size = m) (h : m ≤ s.size) : ((s.extract a m).toList == x.toList) = Lib.hasPrefix (s.data.toList.drop a) x.data.toList := by
  rw [← Lib.hasPrefix_of_take]
  have h1 : s.data.toList.length = s.size := by simp
  have h2 : x.data.toList.length = x.size := by simp
  rw [decide_eq_true (by rw [List.length_drop, h1, h2]; omega), Bool.true_and, Bool.eq_iff_iff, beq_iff_eq, beq_iff_eq]
  have h3 : (s.extract a m).data.toList = (s.data.toList.drop a).take x.data.toList.length := by
    rw [h2, ← hm]
    simp [ByteArray.data_extract, List.extract_eq_take_drop]
  constructor
  · intro e; rw [← h3, ba_ext e]
  · intro e
    rw [← h3] at e
    rw [ByteArray.ext (Array.toList_inj.1 e)]
set_option maxHeartbeats 2000000 in
theorem rbegins_any (s x : ByteArray) (a : Nat) (w : World) (hs : s.size ≤ 35184372088832) (ha : a ≤ s.size) (hx : x.size ≤ 10) :
    Calls Tryd.prog 46 #[.string s, .int .i64 a, .string x] w fun e w' => e = .returned (.bool (Lib.hasPrefix (s.data.toList.drop a) x.data.toList)) ∧ w = w' := by
  obtain ⟨m, hm⟩ : ∃ m, a + x.size = m := ⟨_, rfl⟩
  have hmi : (a : Int) + x.size = m := by omega
  by_cases hle : m ≤ s.size
  · obtain ⟨q, hq⟩ : ∃ q, ((s.extract a m).toList == x.toList) = q := ⟨_, rfl⟩
    have HQ : Hid (Lib.hasPrefix (s.data.toList.drop a) x.data.toList = q) := Lib.hid ((prefix_at hm hle).symm.trans hq)
    have i1 : (m : Int) ≤ s.size := by omega
    have i2 : (0 : Int) ≤ a := by omega
    have i3 : (a : Int) ≤ m := by omega
    have i4 : a ≤ m := by omega
    clear hm
    have HQQ := Lib.hid hq
    clear hq
    go_enter Tryd.func46, Tryd.ntmps46
    go_wp2_with fail
    go_ret
    exact ⟨by rw [HQ.out, ← HQQ.out]; rfl, rfl⟩
  · have HQ : Hid (Lib.hasPrefix (s.data.toList.drop a) x.data.toList = false) := Lib.hid (prefix_no (by
      have h1 : s.data.toList.length = s.size := by simp
      have h2 : x.data.toList.length = x.size := by simp
      rw [List.length_drop, h1, h2]; omega))
    have i1 : ¬ (m : Int) ≤ s.size := by omega
    clear hm hle
    go_enter Tryd.func46, Tryd.ntmps46
    go_wp2_with fail
    go_ret
    exact ⟨by rw [HQ.out]; rfl, rfl⟩
end Go.Proofs.YtealflkblkfhbaaDoor
