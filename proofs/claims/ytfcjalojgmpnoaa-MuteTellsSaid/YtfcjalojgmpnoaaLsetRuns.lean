/- The walk of LsetRuns. -/
import Derived.Test.YtfcjalojgmpnoaaWith
namespace Go.Proofs.Ytfcjalojgmpnoaa
open Go.ChangeShapes Go.WideShapes Go.ChangeAt Go.RowKit
set_option linter.unusedVariables false
set_option maxRecDepth 100000
def lA : ByteArray × ByteArray := (⟨#[97]⟩, ⟨#[120]⟩)
def lB : ByteArray × ByteArray := (⟨#[98]⟩, ⟨#[121, 34, 122]⟩)
def lC : ByteArray × ByteArray := (⟨#[98]⟩, ⟨#[49]⟩)
def lD : ByteArray × ByteArray := (⟨#[97]⟩, ⟨#[50]⟩)
theorem word_a : wordF ⟨#[97]⟩ = true := by decide
theorem word_b : wordF ⟨#[98]⟩ = true := by decide
theorem okA : lblOk lA = true := by decide
theorem okB : lblOk lB = true := by decide
theorem okC : lblOk lC = true := by decide
theorem okD : lblOk lD = true := by decide
theorem less_ab : Op.bytesLess (⟨#[97]⟩ : ByteArray).toList (⟨#[98]⟩ : ByteArray).toList = true := by
  rw [show (⟨#[97]⟩ : ByteArray).toList = [97] from ba_list [97], show (⟨#[98]⟩ : ByteArray).toList = [98] from ba_list [98]]; decide
theorem less_ba : Op.bytesLess (⟨#[98]⟩ : ByteArray).toList (⟨#[97]⟩ : ByteArray).toList = false := by
  rw [show (⟨#[97]⟩ : ByteArray).toList = [97] from ba_list [97], show (⟨#[98]⟩ : ByteArray).toList = [98] from ba_list [98]]; decide
theorem right_two {x y : ByteArray × ByteArray} (hx : lblOk x = true) (hy : lblOk y = true) (h : Op.bytesLess x.1.toList y.1.toList = true) : rightS [x, y] = true := by
  simp only [rightS, rightK, riseAt, lblAt, List.length_cons, List.length_nil]
  simp [hx, hy, h]
theorem wrong_two {x y : ByteArray × ByteArray} (h : Op.bytesLess x.1.toList y.1.toList = false) : rightS [x, y] = false := by
  simp only [rightS, rightK, riseAt, lblAt, List.length_cons, List.length_nil]
  simp [h]
theorem rightAB : rightS [lA, lB] = true := right_two okA okB less_ab
theorem rightAC : rightS [lA, lC] = true := right_two okA okC less_ab
theorem printAB : printL [lA, lB] = [123, 97, 61, 34, 120, 34, 44, 98, 61, 34, 121, 92, 34, 122, 34, 125] := by rw [printL, if_pos rightAB]; decide
theorem printAC : printL [lA, lC] = [123, 97, 61, 34, 120, 34, 44, 98, 61, 34, 49, 34, 125] := by rw [printL, if_pos rightAC]; decide
theorem parseAB : parseF [123, 97, 61, 34, 120, 34, 44, 98, 61, 34, 121, 92, 34, 122, 34, 125] = some [lA, lB] := by rw [← printAB]; exact parseF_print rightAB
theorem parseNil : parseF [123, 125] = some [] := parseF_print (l := []) (by decide)
theorem parseCD : parseF [123, 98, 61, 34, 49, 34, 44, 97, 61, 34, 50, 34, 125] = none := by
  have h := parseLoop_mk [lC, lD] [] 8 (fun x hx => by simp at hx; rcases hx with rfl | rfl; exact okC; exact okD) (by decide) (by decide)
  have e : moreL [] [lC, lD] ++ [125] = [98, 61, 34, 49, 34, 44, 97, 61, 34, 50, 34, 125] := by decide
  rw [e] at h
  rw [parseF, if_pos rfl, h]
  simp only [List.nil_append]
  rw [if_neg (by rw [wrong_two (x := lC) (y := lD) less_ba]; decide)]
theorem withAC : withEnd [lA] ⟨#[98]⟩ ⟨#[49]⟩ = [lA, lC] := by decide
end Go.Proofs.Ytfcjalojgmpnoaa
