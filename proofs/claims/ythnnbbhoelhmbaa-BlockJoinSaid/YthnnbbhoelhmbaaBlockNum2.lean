/- block.Number, klaxonref1.Number; block.held. -/
import Derived.Test.YthnnbbhoelhmbaaBlockNum
import Derived.Test.YthnnbbhoelhmbaaSample
import Derived.Test.YthnnbbhoelhmbaaSmpBook
namespace Go.Proofs.Ythnnbbhoelhmbaa
open Go.ChangeShapes Go.WideShapes Go.ChangeAt Go.RowKit
set_option linter.unusedVariables false
set_option maxRecDepth 100000
def nums (l : List Int) : List Int := l.flatMap num
theorem nums_len (l : List Int) : (nums l).length ≤ 10 * l.length := by
  induction l with
  | nil => simp [nums]
  | cons x l ih => have := num_len x; simp only [nums, List.flatMap_cons, List.length_append, List.length_cons] at ih ⊢; omega
theorem nums_snoc (l : List Int) (x : Int) : nums (l ++ [x]) = nums l ++ num x := by simp [nums]
set_option maxHeartbeats 2000000 in
theorem number_any (A : Option Addr) (n c B : Nat) (l : List Int) (w : World) (h : Sees w B 1 A n (ints l)) (hB : B ≤ w.heap.size) (hn : n ≤ 1000) (hI : ∀ z ∈ l, I64 z) :
    Calls Try.prog 11 #[.slice A n c] w (OwnAns 5 1 (nums l).length (u8s (nums l)) w) := by
  have H := Lib.hid h
  have HL := Lib.hid h.int_len
  have HI := Lib.hid hI
  clear h hI
  go_enter Try.func11, Try.ntmps11
  go_wp2_with fail
  go_loopg [3, 8] n (fun g x3 x8 wr => ∃ (k : Nat), k + g = n ∧ x8 = .int .i64 k ∧ wr.ownsRow w.heap.size 5 1 x3 (nums (l.take k)).length (u8s (nums (l.take k))) ∧ Below w.heap.size w wr)
  case atStart => exact ⟨0, by omega, rfl, by simpa [nums, u8s] using World.ownsRow_nil _ _ _ _, Below.refl _ _⟩
  case round =>
    obtain ⟨k, hkg, rfl, hown, hbel⟩ := hrel
    have HO := Lib.hid hown; have HBL := Lib.hid hbel
    have hsz := hbel.size
    clear hown hbel
    cases gk with
    | zero =>
      obtain rfl : k = n := by omega
      have HT := Lib.hid (show l.take k = l from List.take_of_length_le (by rw [HL.out]; omega))
      obtain ⟨A2, c2, rfl, h1, h2⟩ := own_slice HO.out
      go_wp2_with fail
      go_ret
      exact ownAns (by have := HO.out; rw [HT.out] at this; exact this) HBL.out (by rw [HT.out]; rfl) (by rw [HT.out] at h1; exact h1) h2
    | succ g =>
      have hlt : k < n := by omega
      obtain ⟨ad, hkl, rfl, hc⟩ := (H.out.below (HBL.out.mono hB)).int hlt
      have hz := HI.out l[k] (List.getElem_mem _)
      have HTK := Lib.hid (List.take_succ_eq_append_getElem hkl)
      generalize l[k] = z at *
      have hlen := nums_len (l.take k)
      have hlk : (l.take k).length ≤ k := by rw [List.length_take]; omega
      have HN := Lib.hid (show nums (l.take (k + 1)) = nums (l.take k) ++ num z by rw [HTK.out, nums_snoc])
      have HC := Lib.hid (appnum_any w.heap.size u3 (nums (l.take k)) z wr hz HO.out hsz (by omega))
      clear hz hlen hlk HTK
      go_wp2_with fail
      refine HC.out.mono ?_; rintro e w2 ⟨A2, c2, rfl, hown2, hg2, hw2, h1, h2⟩
      have HO2 := Lib.hid (show w2.ownsRow w.heap.size 5 1 (.slice A2 (nums (l.take k) ++ num z).length c2) (nums (l.take (k + 1))).length (u8s (nums (l.take (k + 1)))) by rw [HN.out]; exact hown2)
      have HB2 := Lib.hid (HBL.out.grown hg2 hsz (fun b hb => (HO.out.lt b hb).1))
      clear hown2 hg2 hw2 HC HO HBL h1 h2
      generalize (nums (l.take k) ++ num z).length = q at *
      go_wp2_with fail
      go_roundg g
      case measure => omega
      case rel => exact ⟨k + 1, by omega, by go_num, HO2.out, HB2.out⟩
theorem not_bits {a : Nat} (h : a < 18446744073709551616) : True := trivial
theorem refzig {n : Int} (h : I64 n) (h0 : n < 0) : ∃ a : Nat, IntKind.u64.wrap (IntKind.u64.wrap n * 2) = (a : Int) ∧ a < 18446744073709551616 ∧ 18446744073709551615 - a = zig n := by
  unfold I64 at h
  refine ⟨18446744073709551615 - zig n, ?_, by omega, ?_⟩
  · unfold zig; rw [if_neg (by omega)]
    simp [IntKind.wrap, IntKind.bits, IntKind.signed]; omega
  · have := zig_lt (n := n) h; omega
set_option maxHeartbeats 2000000 in
theorem held_any (A : Option Addr) (n c B : Nat) (l : List (Int × Int)) (w : World) (h : Sees w B 2 A n (smps l)) (hB : B ≤ w.heap.size) (hn : n ≤ 9223372036854775807) :
    Calls Try.prog 22 #[.slice A n c] w fun e w' => e = .returned (.bool (held l)) ∧ Below w.heap.size w w' := by
  have H := Lib.hid h
  have HL := Lib.hid h.smp_len
  have HH := Lib.hid (show held l = (decide (l.length ≤ 200) && heldF (-1) l) from rfl)
  clear h
  by_cases h200 : n ≤ 200
  · have HH2 : Hid (held l = heldF (-1) (l.drop 0)) := Lib.hid (by rw [HH.out, HL.out, decide_eq_true h200, Bool.true_and, List.drop_zero])
    go_enter Try.func22, Try.ntmps22
    go_wp2_with fail
    go_loopg [3, 11] n (fun g x3 x11 wr => ∃ (k : Nat) (a : Int), k + g = n ∧ x11 = .int .i64 k ∧ x3 = .int .i64 a ∧ held l = heldF a (l.drop k) ∧ Below w.heap.size w wr)
    case atStart => exact ⟨0, -1, by omega, rfl, rfl, HH2.out, Below.refl _ _⟩
    case round =>
      obtain ⟨k, a, hkg, rfl, rfl, he, hbel⟩ := hrel
      have HE := Lib.hid he; have HBL := Lib.hid hbel
      have hsz := hbel.size
      clear he hbel
      cases gk with
      | zero =>
        obtain rfl : k = n := by omega
        have HF : Hid (true = held l) := Lib.hid (by rw [HE.out, List.drop_of_length_le (by rw [HL.out]; exact Nat.le_refl _)]; rfl)
        go_wp2_with fail
        go_ret
        exact ⟨ret_bool HF.out, HBL.out⟩
      | succ g =>
        have hlt : k < n := by omega
        obtain ⟨ad, hkl, rfl, c0, c1⟩ := (H.out.below (HBL.out.mono hB)).smp hlt
        have HD := Lib.hid (List.drop_eq_getElem_cons hkl)
        have hal := World.block_lt_of_cell? wr _ c0
        generalize l[k] = p at *
        obtain ⟨x, y⟩ := p
        simp only at c0 c1
        have HBA := Lib.hid (HBL.out.alloc hsz (.cells #[.int .i64 x, .int .i64 y] 25))
        by_cases hx : x ≤ a ∨ 1099511627776 < x
        · have HF : Hid (false = held l) := Lib.hid (by rw [HE.out, HD.out, heldF, if_pos hx])
          clear HE HD
          rcases Classical.em (x ≤ a) with h1 | h1
          all_goals
            try (have h2 : 1099511627776 < x := by omega)
            clear hx
            go_wp2_with fail
            all_goals try (go_quiet (fail))
            all_goals try (go_wp2_with fail)
            go_ret
            exact ⟨ret_bool HF.out, by first | exact HBA.out | exact HBA.out.drew | exact below_drewN3 HBA.out _⟩
        · have h1 : ¬ x ≤ a := fun h => hx (.inl h)
          have h2 : ¬ 1099511627776 < x := fun h => hx (.inr h)
          have HF : Hid (held l = heldF x (l.drop (k + 1))) := Lib.hid (by rw [HE.out, HD.out, heldF, if_neg hx])
          clear HE HD hx
          go_wp2_with fail
          all_goals try (go_quiet (fail))
          all_goals try (go_wp2_with fail)
          go_roundg g
          case measure => omega
          case rel => exact ⟨k + 1, x, by omega, by go_num, rfl, HF.out, by first | exact HBA.out | exact HBA.out.drew | exact below_drewN3 HBA.out _⟩
  · have HH2 : Hid (false = held l) := Lib.hid (by rw [HH.out, HL.out, decide_eq_false h200, Bool.false_and])
    go_enter Try.func22, Try.ntmps22
    go_wp2_with fail
    go_ret
    exact ⟨ret_bool HH2.out, Below.refl _ _⟩
end Go.Proofs.Ythnnbbhoelhmbaa
