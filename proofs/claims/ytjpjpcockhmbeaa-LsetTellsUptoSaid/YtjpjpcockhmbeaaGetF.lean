/- lset.Get, klaxonref1.Get, where the seat has no sets of numbers (else XHolds, XRefMatch). -/
import Derived.Test.YtjpjpcockhmbeaaLabel
import Derived.Test.YtjpjpcockhmbeaaRight
import Derived.Test.YtjpjpcockhmbeaaBa
import Derived.Deep.DeepCutAuto
import Derived.Deep.QuietTactic
import Derived.BigQuiet
import Derived.Lib.Strings
namespace Go.Proofs.Ytjpjpcockhmbeaa
open Go.ChangeShapes Go.WideShapes Go.ChangeAt Go.RowKit
set_option linter.unusedVariables false
set_option maxRecDepth 100000
abbrev Lbl := ByteArray × ByteArray
/-- The first value of a name. -/
def getF (l : List Lbl) (name : ByteArray) : ByteArray := match l.find? (fun x => decide (x.1 = name)) with | some x => x.2 | none => ⟨#[]⟩
theorem getF_none {l : List Lbl} {name : ByteArray} (h : ∀ x ∈ l, x.1 ≠ name) : getF l name = ⟨#[]⟩ := by
  unfold getF
  rw [List.find?_eq_none.2 fun x hx => by simpa using h x hx]
set_option maxHeartbeats 1000000 in
theorem get_any (A0 : Option Addr) (n c B : Nat) (l : List Lbl) (name : ByteArray) (w : World) (h : Sees w B 2 A0 n (lbls l)) (hB : B ≤ w.heap.size) (hn : n ≤ 9223372036854775807) :
    Calls Try.prog 9 #[.slice A0 n c, .string name] w fun e w' => e = .returned (.string (getF l name)) ∧ Below w.heap.size w w' := by
  have H := Lib.hid h
  have HL := Lib.hid h.lbl_len
  clear h
  go_enter Try.func9, Try.ntmps9
  go_wp2_with fail
  go_loopg [9] n (fun g x9 wr => ∃ k : Nat, k + g = n ∧ x9 = .int .i64 k ∧ Below w.heap.size w wr ∧ ∀ x ∈ l.take k, x.1 ≠ name)
  case atStart => exact ⟨0, by omega, rfl, Below.refl _ _, (fun x hx => by simp at hx)⟩
  case round =>
    obtain ⟨k, hkg, rfl, hbel, hno⟩ := hrel
    have HB := Lib.hid hbel; have HNO := Lib.hid hno
    have hws := hbel.size
    clear hbel hno
    cases gk with
    | zero =>
      obtain rfl : k = n := by omega
      have HE := Lib.hid (show getF l name = ⟨#[]⟩ from getF_none (fun x hx => HNO.out x (by rw [List.take_of_length_le (by rw [HL.out]; exact Nat.le_refl _)]; exact hx)))
      go_wp2_with fail
      go_ret
      exact ⟨by rw [HE.out]; rfl, HB.out⟩
    | succ g =>
      have hlt : k < n := by omega
      obtain ⟨ad, hkl, rfl, c0, c1⟩ := (H.out.below (HB.out.mono hB)).lbl hlt
      have hal := World.block_lt_of_cell? wr _ c0
      have HT := Lib.hid (List.take_succ_eq_append_getElem hkl)
      have HD := Lib.hid (show l = l.take k ++ l[k] :: l.drop (k + 1) by rw [← List.drop_eq_getElem_cons hkl, List.take_append_drop])
      generalize l[k] = p at *
      obtain ⟨a, b⟩ := p
      simp only at c0 c1
      have HBA := Lib.hid (HB.out.alloc hws (.cells #[.string a, .string b] 25))
      by_cases he : a = name
      · have t1 : (a.toList == name.toList) = true := by rw [he]; simp
        have HE := Lib.hid (show getF l name = b by
          unfold getF
          rw [HD.out, List.find?_append, List.find?_eq_none.2 (fun x hx => by simpa using HNO.out x hx)]
          simp [he])
        clear HD he
        go_wp2_with fail
        go_ret
        exact ⟨by rw [HE.out]; rfl, HBA.out⟩
      · have t1 : (a.toList == name.toList) = false := by rw [beq_eq_false_iff_ne]; exact fun h => he (ba_ext h)
        have HN : Hid (∀ x ∈ l.take (k + 1), x.1 ≠ name) := Lib.hid (fun x hx => by
          rw [HT.out, List.mem_append] at hx
          rcases hx with hx | hx
          · exact HNO.out x hx
          · simp only [List.mem_singleton] at hx; subst hx; exact he)
        clear HD he HT
        go_wp2_with fail
        go_roundg g
        case measure => omega
        case rel => exact ⟨k + 1, by omega, by go_num, HBA.out, HN.out⟩
set_option maxHeartbeats 1000000 in
theorem refGet_any (A0 : Option Addr) (n c B : Nat) (l : List Lbl) (name : ByteArray) (w : World) (h : Sees w B 2 A0 n (lbls l)) (hB : B ≤ w.heap.size) (hn : n ≤ 9223372036854775807) :
    Calls Try.prog 10 #[.slice A0 n c, .string name] w fun e w' => e = .returned (.string (getF l name)) ∧ Below w.heap.size w w' := by
  have H := Lib.hid h
  have HL := Lib.hid h.lbl_len
  clear h
  go_enter Try.func10, Try.ntmps10
  go_wp2_with fail
  go_loopg [9] n (fun g x9 wr => ∃ k : Nat, k + g = n ∧ x9 = .int .i64 k ∧ Below w.heap.size w wr ∧ ∀ x ∈ l.take k, x.1 ≠ name)
  case atStart => exact ⟨0, by omega, rfl, Below.refl _ _, (fun x hx => by simp at hx)⟩
  case round =>
    obtain ⟨k, hkg, rfl, hbel, hno⟩ := hrel
    have HB := Lib.hid hbel; have HNO := Lib.hid hno
    have hws := hbel.size
    clear hbel hno
    cases gk with
    | zero =>
      obtain rfl : k = n := by omega
      have HE := Lib.hid (show getF l name = ⟨#[]⟩ from getF_none (fun x hx => HNO.out x (by rw [List.take_of_length_le (by rw [HL.out]; exact Nat.le_refl _)]; exact hx)))
      go_wp2_with fail
      go_ret
      exact ⟨by rw [HE.out]; rfl, HB.out⟩
    | succ g =>
      have hlt : k < n := by omega
      obtain ⟨ad, hkl, rfl, c0, c1⟩ := (H.out.below (HB.out.mono hB)).lbl hlt
      have hal := World.block_lt_of_cell? wr _ c0
      have HT := Lib.hid (List.take_succ_eq_append_getElem hkl)
      have HD := Lib.hid (show l = l.take k ++ l[k] :: l.drop (k + 1) by rw [← List.drop_eq_getElem_cons hkl, List.take_append_drop])
      generalize l[k] = p at *
      obtain ⟨a, b⟩ := p
      simp only at c0 c1
      have HBA := Lib.hid (HB.out.alloc hws (.cells #[.string a, .string b] 25))
      by_cases he : a = name
      · have t1 : (a.toList == name.toList) = true := by rw [he]; simp
        have HE := Lib.hid (show getF l name = b by
          unfold getF
          rw [HD.out, List.find?_append, List.find?_eq_none.2 (fun x hx => by simpa using HNO.out x hx)]
          simp [he])
        clear HD he
        go_wp2_with fail
        go_ret
        exact ⟨by rw [HE.out]; rfl, HBA.out⟩
      · have t1 : (a.toList == name.toList) = false := by rw [beq_eq_false_iff_ne]; exact fun h => he (ba_ext h)
        have HN : Hid (∀ x ∈ l.take (k + 1), x.1 ≠ name) := Lib.hid (fun x hx => by
          rw [HT.out, List.mem_append] at hx
          rcases hx with hx | hx
          · exact HNO.out x hx
          · simp only [List.mem_singleton] at hx; subst hx; exact he)
        clear HD he HT
        go_wp2_with fail
        go_roundg g
        case measure => omega
        case rel => exact ⟨k + 1, by omega, by go_num, HBA.out, HN.out⟩
end Go.Proofs.Ytjpjpcockhmbeaa
