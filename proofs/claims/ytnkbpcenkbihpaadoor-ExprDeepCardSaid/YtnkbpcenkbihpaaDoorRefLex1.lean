/- klaxonref7: digit, letter, begins, Signs. -/
import Derived.Test.YtnkbpcenkbihpaaDoorLex6
import Derived.Test.YtnkbpcenkbihpaaDoorBase
namespace Go.Proofs.YtnkbpcenkbihpaaDoor
open Go.ChangeShapes Go.WideShapes Go.ChangeAt Go.RowKit
set_option linter.unusedVariables false
set_option linter.unusedSimpArgs false
set_option maxRecDepth 100000
theorem prefix_no {l p : List UInt8} (h : l.length < p.length) : Lib.hasPrefix l p = false := by
  rw [← Lib.hasPrefix_of_take, decide_eq_false (by omega)]; rfl
theorem prefix_at {s x : ByteArray} {a m : Nat} (hm : a + x.size = m) (h : m ≤ s.size) : ((s.extract a m).toList == x.toList) = Lib.hasPrefix (s.data.toList.drop a) x.data.toList := by
  rw [← Lib.hasPrefix_of_take]
  have h1 : s.data.toList.length = s.size := by simp
  have h2 : x.data.toList.length = x.size := by simp
  rw [decide_eq_true (by rw [List.length_drop, h1, h2]; omega), Bool.true_and, Bool.eq_iff_iff, beq_iff_eq, beq_iff_eq]
  have h3 : (s.extract a m).data.toList = (s.data.toList.drop a).take x.data.toList.length := by
    rw [h2, ← hm]
    simp [ByteArray.data_extract, List.extract_eq_take_drop]
  constructor
  · intro e; rw [← h3, ba_ext e]
  · intro e
    rw [← h3] at e
    rw [ByteArray.ext (Array.toList_inj.1 e)]
end Go.Proofs.YtnkbpcenkbihpaaDoor
