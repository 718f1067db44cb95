/- klaxonkeep: Names, Values, pick, Set. -/
import Derived.Test.YtfcjalojgmpnoaaSetMath
import Derived.Deep.CutBlock
namespace Go.Proofs.Ytfcjalojgmpnoaa
open Go.ChangeShapes Go.WideShapes Go.ChangeAt Go.RowKit
set_option linter.unusedVariables false
set_option maxRecDepth 100000
theorem names_any (w : World) : Calls Try.prog 26 #[] w fun e w' => e = .returned (.slice (some ⟨w.heap.size, 0, none⟩) 4 4) ∧ w.alloc (.cells (strs keepNames).toArray 9) = w' := by
  go_enter Try.func26, Try.ntmps26
  go_wp2_with fail
  go_ret
  exact ⟨rfl, rfl⟩
theorem values_any (w : World) : Calls Try.prog 25 #[] w fun e w' => e = .returned (.slice (some ⟨w.heap.size, 0, none⟩) 8 8) ∧ w.alloc (.cells (strs keepValues).toArray 9) = w' := by
  go_enter Try.func25, Try.ntmps25
  go_wp2_with fail
  go_ret
  exact ⟨rfl, rfl⟩
theorem pick_any (A : Option Addr) (n c B : Nat) (l : List Int) (i : Nat) (w : World) (h : Sees w B 1 A n (ints l)) (hn : n ≤ 9223372036854775807) (hi : i ≤ 9223372036854775807) :
    Calls Try.prog 27 #[.slice A n c, .int .i64 i] w fun e w' => e = .returned (.int .i64 (pickF l i)) ∧ w = w' := by
  have hl := h.int_len
  by_cases h0 : 0 < n
  · have hm := Nat.mod_lt i h0
    obtain ⟨ad, hkl, rfl, hc⟩ := h.int hm
    have hp : pickF l i = l[i % n] := by rw [pickF, dif_pos (by omega)]; simp only [hl]
    have HP := Lib.hid hp
    have z1 : ¬ (n : Int) = 0 := by omega
    have z2 : ((n : Int) == 0) = false := by rw [beq_eq_false_iff_ne]; omega
    have z3 : (i : Int).tmod n = ((i % n : Nat) : Int) := rfl
    generalize l[i % n] = x at *
    generalize i % n = k at *
    clear hp h hl h0
    go_enter Try.func27, Try.ntmps27
    go_wp2_with fail
    go_ret
    exact ⟨ret_int HP.out.symm, rfl⟩
  · obtain rfl : n = 0 := by omega
    have hp : pickF l i = 0 := by rw [pickF, dif_neg (by omega)]
    have HP := Lib.hid hp
    clear hp h hl h0
    go_enter Try.func27, Try.ntmps27
    go_wp2_with fail
    go_ret
    exact ⟨ret_int HP.out.symm, rfl⟩
end Go.Proofs.Ytfcjalojgmpnoaa
