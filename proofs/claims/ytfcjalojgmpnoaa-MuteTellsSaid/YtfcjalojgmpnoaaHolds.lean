/- Many lists at once; calls by them; lset.Get. -/
import Derived.Test.YtfcjalojgmpnoaaSetLaws
namespace Go.Proofs.Ytfcjalojgmpnoaa
open Go.ChangeShapes Go.WideShapes Go.ChangeAt Go.RowKit
set_option linter.unusedVariables false
set_option maxRecDepth 100000
/-- Lists that stay. -/
def Holds (w0 : World) (S : List (Value × List Lbl)) (w : World) : Prop := (∀ p ∈ S, HasL w p.1 p.2) ∧ Below w0.heap.size w0 w
section
variable {w0 w w' : World} {S : List (Value × List Lbl)}
theorem Holds.below (h : Holds w0 S w) (hb : Below w.heap.size w w') : Holds w0 S w' := ⟨fun p hp => (h.1 p hp).below hb, h.2.trans (hb.mono h.2.size)⟩
theorem Holds.drewN (h : Holds w0 S w) (n : Nat) : Holds w0 S (w.drewN n) := ⟨fun p hp => (h.1 p hp).drewN n, below_drewN3 h.2 n⟩
theorem Holds.alloc (h : Holds w0 S w) (o : Obj) : Holds w0 S (w.alloc o) := h.below ((Below.refl _ _).alloc (Nat.le_refl _) o)
theorem Holds.add (h : Holds w0 S w) {v : Value} {l : List Lbl} (hv : HasL w v l) : Holds w0 ((v, l) :: S) w := ⟨fun p hp => by
  rcases List.mem_cons.1 hp with rfl | hp
  · exact hv
  · exact h.1 p hp, h.2⟩
theorem Holds.get (h : Holds w0 S w) {v : Value} {l : List Lbl} (hm : (v, l) ∈ S) : HasL w v l := h.1 (v, l) hm
theorem Holds.bel (h : Holds w0 S w) : Below w0.heap.size w0 w := h.2
end
theorem HasL.sees {w : World} {A : Option Addr} {n c : Nat} {l : List Lbl} (h : HasL w (.slice A n c) l) : Sees w w.heap.size 2 A n (lbls l) := h.slice.1
set_option maxHeartbeats 1000000 in
theorem get_any (A0 : Option Addr) (n c B : Nat) (l : List Lbl) (name : ByteArray) (w : World) (h : Sees w B 2 A0 n (lbls l)) (hB : B ≤ w.heap.size) (hn : n ≤ 9223372036854775807) :
    Calls Try.prog 21 #[.slice A0 n c, .string name] w fun e w' => e = .returned (.string (getF l name)) ∧ Below w.heap.size w w' := by
  have H := Lib.hid h
  have HL := Lib.hid h.lbl_len
  clear h
  go_enter Try.func21, Try.ntmps21
  go_wp2_with fail
  go_loopg [9] n (fun g x9 wr => ∃ k : Nat, k + g = n ∧ x9 = .int .i64 k ∧ Below w.heap.size w wr ∧ ∀ x ∈ l.take k, x.1 ≠ name)
  case atStart => exact ⟨0, by omega, rfl, Below.refl _ _, (fun x hx => by simp at hx)⟩
  case round =>
    obtain ⟨k, hkg, rfl, hbel, hno⟩ := hrel
    have HB := Lib.hid hbel; have HNO := Lib.hid hno
    have hws := hbel.size
    clear hbel hno
    cases gk with
    | zero =>
      obtain rfl : k = n := by omega
      have HE := Lib.hid (show getF l name = ⟨#[]⟩ from getF_none (fun x hx => HNO.out x (by rw [List.take_of_length_le (by rw [HL.out]; exact Nat.le_refl _)]; exact hx)))
      go_wp2_with fail
      go_ret
      exact ⟨by rw [HE.out]; rfl, HB.out⟩
    | succ g =>
      have hlt : k < n := by omega
      obtain ⟨ad, hkl, rfl, c0, c1⟩ := (H.out.below (HB.out.mono hB)).lbl hlt
      have hal := World.block_lt_of_cell? wr _ c0
      have HT := Lib.hid (List.take_succ_eq_append_getElem hkl)
      have HD := Lib.hid (show l = l.take k ++ l[k] :: l.drop (k + 1) by rw [← List.drop_eq_getElem_cons hkl, List.take_append_drop])
      generalize l[k] = p at *
      obtain ⟨a, b⟩ := p
      simp only at c0 c1
      have HBA := Lib.hid (HB.out.alloc hws (.cells #[.string a, .string b] 23))
      by_cases he : a = name
      · have t1 : (a.toList == name.toList) = true := by rw [he]; simp
        have HE := Lib.hid (show getF l name = b by
          unfold getF
          rw [HD.out, List.find?_append, List.find?_eq_none.2 (fun x hx => by simpa using HNO.out x hx)]
          simp [he])
        clear HD he
        go_wp2_with fail
        go_ret
        exact ⟨by rw [HE.out]; rfl, HBA.out⟩
      · have t1 : (a.toList == name.toList) = false := by rw [beq_eq_false_iff_ne]; exact fun h => he (ba_ext h)
        have HN : Hid (∀ x ∈ l.take (k + 1), x.1 ≠ name) := Lib.hid (fun x hx => by
          rw [HT.out, List.mem_append] at hx
          rcases hx with hx | hx
          · exact HNO.out x hx
          · simp only [List.mem_singleton] at hx; subst hx; exact he)
        clear HD he HT
        go_wp2_with fail
        go_roundg g
        case measure => omega
        case rel => exact ⟨k + 1, by omega, by go_num, HBA.out, HN.out⟩
theorem get_h {W : World} {v : Value} {l : List Lbl} (h : HasL W v l) (hl : l.length ≤ 1000) (name : ByteArray) :
    Calls Try.prog 21 #[v, .string name] W fun e w' => e = .returned (.string (getF l name)) ∧ Below W.heap.size W w' := by
  obtain ⟨A, c, rfl, h2, h3, h4⟩ := h
  exact get_any A _ c _ l name W h2 (Nat.le_refl _) (by omega)
theorem right_h {W : World} {v : Value} {l : List Lbl} (h : HasL W v l) (hl : l.length ≤ 1000) :
    Calls Try.prog 33 #[v] W fun e w' => e = .returned (.bool (rightS l)) ∧ Below W.heap.size W w' := by
  obtain ⟨A, c, rfl, h2, h3, h4⟩ := h
  exact rightSet_any A _ c l _ W h2 (Nat.le_refl _) (by omega)
theorem same_h {W : World} {v v2 : Value} {l l2 : List Lbl} (h : HasL W v l) (h2 : HasL W v2 l2) (hl : l.length ≤ 1000) (hl2 : l2.length ≤ 1000) :
    Calls Try.prog 16 #[v, v2] W fun e w' => e = .returned (.bool (decide (l = l2))) ∧ ∃ m, w' = W.drewN m := by
  obtain ⟨A, c, rfl, j2, j3, j4⟩ := h
  obtain ⟨A2, c2, rfl, k2, k3, k4⟩ := h2
  exact same_lbl A A2 _ c _ c2 _ _ l l2 W j2 k2 (by omega) (by omega)
/-- A call answers a list. -/
def AnsL (l : List Lbl) (W : World) (e : Ending) (w' : World) : Prop := ∃ A c, e = .returned (.slice A l.length c) ∧ HasL w' (.slice A l.length c) l ∧ Below W.heap.size W w'
theorem ansL_of {l : List Lbl} {W w' : World} {e : Ending} (h : OwnAns 23 2 l.length (lbls l) W e w') : AnsL l W e w' := by
  obtain ⟨A, c, h1, h2, h3, h4, h5⟩ := h
  exact ⟨A, c, h1, ⟨A, c, rfl, Sees.of_own h2, h4, h5⟩, h3⟩
theorem one_name (w : World) (name : ByteArray) : Sees (w.alloc (.cells #[.string name] 9)) (w.alloc (.cells #[.string name] 9)).heap.size 1 (some ⟨w.heap.size, 0, none⟩) 1 (strs [name]) :=
  (Blk.mk (heap_alloc_new w _) : Blk _ w.heap.size 9 [.string name]).sees rfl (List.prefix_refl _)
end Go.Proofs.Ytfcjalojgmpnoaa
