/- klaxonref1.Number, klaxonref1.Block. -/
import Derived.Test.YthnnbbhoelhmbaaBlockPut
namespace Go.Proofs.Ythnnbbhoelhmbaa
open Go.ChangeShapes Go.WideShapes Go.ChangeAt Go.RowKit
set_option linter.unusedVariables false
set_option maxRecDepth 100000
theorem refzig_neg {n : Int} (h : I64 n) (h0 : n < 0) : bits .xor .u64 IntKind.u64.max (IntKind.u64.wrap (IntKind.u64.wrap n * 2)) = (zig n : Int) := by
  obtain ⟨a, e, hlt, hz⟩ := refzig h h0
  rw [e, show IntKind.u64.max = ((18446744073709551615 : Nat) : Int) from by decide, u64_xor_nat _ _ (by omega) hlt, Nat.xor_comm]
  have := xor_ones hlt
  have h2 := u64_xor_nat a 18446744073709551615 hlt (by omega)
  rw [show ((18446744073709551615 : Nat) : Int) = 18446744073709551615 from rfl] at h2
  rw [← h2, this, hz]
theorem refzig_pos {n : Int} (h0 : 0 ≤ n) : n * 2 = (zig n : Int) := by unfold zig; rw [if_pos h0]; omega
set_option maxHeartbeats 4000000 in
theorem refnum_any (n : Int) (w : World) (h : I64 n) :
    Calls Try.prog 17 #[.int .i64 n] w (OwnAns 5 1 (num n).length (u8s (num n)) w) := by
  have HN := Lib.hid (show num n = encF 9 (zig n) from rfl)
  have hzl := zig_lt h
  have hz2 : Hid (zig n < 2 * 128 ^ 9) := Lib.hid (Nat.lt_of_lt_of_eq hzl (show 18446744073709551616 = 2 * (128 : Nat) ^ 9 by decide))
  obtain ⟨i0, hi, hz0, hz1, hz2'⟩ := info_parts Try.infoU8
  by_cases h0 : 0 ≤ n
  all_goals
    first | have HZ := Lib.hid (refzig_pos h0) | have HZ := Lib.hid (refzig_neg h (by omega))
    unfold I64 at h
    go_enter Try.func17, Try.ntmps17
    go_wp2_with fail
    rw [HZ.out]
    clear hzl
    go_loopg [3, 4] 9 (fun g x5 x0 wr => ∃ (u : Nat) (ys : List Int), x5 = .int .u64 u ∧ u < 2 * 128 ^ g ∧ ys.length + g = 9 ∧ num n = ys ++ encF g u ∧ wr.ownsRow w.heap.size 5 1 x0 ys.length (u8s ys) ∧ Below w.heap.size w wr)
    case atStart => exact ⟨_, [], rfl, hz2.out, rfl, HN.out, by simpa [u8s] using World.ownsRow_nil _ _ _ _, Below.refl _ _⟩
    case round =>
      obtain ⟨u, ys, rfl, hu, hys, hnum, hown, hbel⟩ := hrel
      have hub : u < 18446744073709551616 := by
        have h1 := Nat.pow_le_pow_right (n := 128) (by omega) (show gk ≤ 9 by omega)
        have h2 : (128 : Nat) ^ 9 = 9223372036854775808 := by decide
        omega
      have HNU := Lib.hid hnum; have HOW := Lib.hid hown; have HB := Lib.hid hbel
      have hsz := hbel.size
      clear hnum hown hbel
      by_cases hlt : 127 < u
      · obtain ⟨g, rfl⟩ : ∃ g, gk = g + 1 := by
          cases gk with
          | zero => exfalso; simp at hu; omega
          | succ g => exact ⟨g, rfl⟩
        obtain ⟨m, hm⟩ : ∃ m, u % 128 = m := ⟨_, rfl⟩
        have hm128 : m < 128 := by omega
        have HU2 : Hid (u / 128 < 2 * 128 ^ g) := by
          unfold Hid; rw [Nat.div_lt_iff_lt_mul (by omega)]; rw [Nat.pow_succ] at hu; omega
        have HN2 : Hid (num n = (ys ++ [((m : Int) + 128)]) ++ encF g (u / 128)) := Lib.hid (by
          rw [HNU.out, encF, if_pos hlt, hm, List.append_assoc, List.singleton_append]
          rw [show (((m + 128 : Nat)) : Int) = (m : Int) + 128 by omega])
        have hb1 := bits_low hub hm
        have hb2 := bits_more hm128
        clear hm hu hub
        have HX := Lib.hid (show Sees (wr.alloc (.cells #[.int .u8 ((m : Int) + 128)] 5)) (wr.alloc (.cells #[.int .u8 ((m : Int) + 128)] 5)).heap.size 1 (some ⟨wr.heap.size, 0, none⟩) 1 (u8s [((m : Int) + 128)]) from (Blk.mk (heap_alloc_new wr _) : Blk _ wr.heap.size 5 [.int .u8 ((m : Int) + 128)]).sees rfl (List.prefix_refl _))
        have HOA := Lib.hid (HOW.out.alloc (.cells #[.int .u8 ((m : Int) + 128)] 5))
        have HBA := Lib.hid (HB.out.alloc hsz (.cells #[.int .u8 ((m : Int) + 128)] 5))
        clear HOW HB
        go_wp2_with (at_builtin; refine wpList_append_at rfl (.tmp 14) (.tmp 19) 22 rfl w.heap.size 5 i0 (.int .u8 0) 1 1 Try.underlying22 hi hz0 hz1 hz2' rfl (by decide) _ ys.length (u8s ys) rfl HOA.out _ _ 1 1 (u8s [((m : Int) + 128)]) rfl HX.out (u8s_one _) (by unfold maxLen; omega) (by omega) (by simp; omega) ?_)
        intro v3 w3 hown3 hgr3 hwh3
        have HO3 := Lib.hid hown3
        have HB3 := Lib.hid (HBA.out.grown hgr3 HBA.out.size (fun b hb => (HOA.out.lt b hb).1))
        clear hown3 hgr3 hwh3 hb1 hb2 HX HOA HBA
        go_wp2_with fail
        go_roundg g
        case measure => omega
        case rel => exact ⟨u / 128, ys ++ [((m : Int) + 128)], by go_num, HU2.out, by rw [List.length_append, List.length_singleton]; omega, HN2.out, by rw [u8s_append, List.length_append, List.length_singleton]; exact HO3.out, HB3.out⟩
      · have HN2 : Hid (num n = ys ++ [(u : Int)]) := Lib.hid (by
          rw [HNU.out]
          cases gk with
          | zero => rfl
          | succ g => rw [encF, if_neg hlt])
        have hu2 : (u : Int) < 256 := by omega
        clear hub hu
        have HX := Lib.hid (show Sees (wr.alloc (.cells #[.int .u8 (u : Int)] 5)) (wr.alloc (.cells #[.int .u8 (u : Int)] 5)).heap.size 1 (some ⟨wr.heap.size, 0, none⟩) 1 (u8s [(u : Int)]) from (Blk.mk (heap_alloc_new wr _) : Blk _ wr.heap.size 5 [.int .u8 (u : Int)]).sees rfl (List.prefix_refl _))
        have HOA := Lib.hid (HOW.out.alloc (.cells #[.int .u8 (u : Int)] 5))
        have HBA := Lib.hid (HB.out.alloc hsz (.cells #[.int .u8 (u : Int)] 5))
        clear HOW HB
        go_wp2_with (at_builtin; refine wpList_append_at rfl (.tmp 23) (.tmp 26) 22 rfl w.heap.size 5 i0 (.int .u8 0) 1 1 Try.underlying22 hi hz0 hz1 hz2' rfl (by decide) _ ys.length (u8s ys) rfl HOA.out _ _ 1 1 (u8s [(u : Int)]) rfl HX.out (u8s_one _) (by unfold maxLen; omega) (by omega) (by simp; omega) ?_)
        intro v3 w3 hown3 hgr3 hwh3
        have HO3 := Lib.hid hown3
        have HB3 := Lib.hid (HBA.out.grown hgr3 HBA.out.size (fun b hb => (HOA.out.lt b hb).1))
        obtain ⟨A3, c3, e3, h31, h32⟩ := own_slice hown3
        subst e3
        clear hown3 hgr3 hwh3 HX HOA HBA
        have HL := Lib.hid (show (num n).length = ys.length + 1 by rw [HN2.out]; simp)
        go_wp2_with fail
        go_ret
        exact ownAns (by rw [HL.out, HN2.out, u8s_append]; exact HO3.out) HB3.out (by rw [HL.out]; rfl) (by rw [HL.out]; exact h31) h32
end Go.Proofs.Ythnnbbhoelhmbaa
