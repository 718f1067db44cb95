/- expr.typeOfTwo: where it is none at once. -/
import Derived.Test.YtnkbpcenkbihpaaDoorType3
namespace Go.Proofs.YtnkbpcenkbihpaaDoor
open Go.ChangeShapes Go.WideShapes Go.ChangeAt Go.RowKit
set_option linter.unusedVariables false
set_option linter.unusedSimpArgs false
set_option maxRecDepth 100000
set_option maxHeartbeats 2000000 in
theorem typeTwo_no (kk nn : Int) (A1 A2 A3 : Option Addr) (m1 c1 m2 c2 m3 c3 : Nat) (w : World) (hno : ¬ (m2 = 0 ∧ m3 = 2)) :
    Calls Tryd.prog 29 #[.agg #[.int .i64 kk, .int .i64 nn, .slice A1 m1 c1, .slice A2 m2 c2, .slice A3 m3 c3]] w fun e w' => e = .returned (.int .i64 0) ∧ Below w.heap.size w w' := by
  have HB : Hid (Below w.heap.size w (w.alloc (.cells #[.int .i64 kk, .int .i64 nn, .slice A1 m1 c1, .slice A2 m2 c2, .slice A3 m3 c3] 26))) := Lib.hid ((Below.refl _ _).alloc (Nat.le_refl _) _)
  have HX := Lib.hid (Blk.mk (heap_alloc_new w (.cells #[.int .i64 kk, .int .i64 nn, .slice A1 m1 c1, .slice A2 m2 c2, .slice A3 m3 c3] 26)) : Blk _ w.heap.size 26 [.int .i64 kk, .int .i64 nn, .slice A1 m1 c1, .slice A2 m2 c2, .slice A3 m3 c3])
  have HNO := Lib.hid hno
  clear hno
  go_enter Tryd.func29, Tryd.ntmps29
  go_upto_region 1 with fail
  generalize w.alloc (.cells #[.int .i64 kk, .int .i64 nn, .slice A1 m1 c1, .slice A2 m2 c2, .slice A3 m3 c3] 26) = W1 at *
  obtain ⟨x0, x1, x2, x3, x4⟩ := blk_cells5 HX.out
  by_cases h0 : 0 < m2
  · have t0 : decide (0 < m2) = true := decide_eq_true h0
    go_wp2_with fail
    go_ret
    exact ⟨rfl, HB.out⟩
  · have t0 : decide (0 < m2) = false := decide_eq_false h0
    have h3 : ((m3 : Int) != 2) = true := by rw [bne_iff_ne]; have := HNO.out; omega
    clear h0
    go_wp2_with fail
    go_ret
    exact ⟨rfl, HB.out⟩
end Go.Proofs.YtnkbpcenkbihpaaDoor
