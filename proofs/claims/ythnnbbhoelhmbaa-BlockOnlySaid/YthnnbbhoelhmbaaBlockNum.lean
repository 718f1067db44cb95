/- A number's bytes: block.appendNumber, block.Number, klaxonref1.Number. -/
import Derived.Test.YthnnbbhoelhmbaaByte
import Derived.Test.YthnnbbhoelhmbaaBlockMath
import Derived.Test.YthnnbbhoelhmbaaGrown
import Derived.Deep.DeepCutAuto
import Derived.Deep.LoopGhost
import Derived.Laws.BitsAllLaws
namespace Go.Proofs.Ythnnbbhoelhmbaa
open Go.ChangeShapes Go.WideShapes Go.ChangeAt Go.RowKit
set_option linter.unusedVariables false
set_option maxRecDepth 100000
theorem Try.infoU8 : (Try.prog.info? 5).map (fun i => (i.zero, i.size, i.bytes)) = some (some (.int .u8 0), 1, 1) := by kernel_rfl
theorem bits_low {u m : Nat} (h : u < 18446744073709551616) (hm : u % 128 = m) : bits .and .u64 (u : Int) 127 = (m : Int) := by
  have := u64_and_nat u 127 h (by omega)
  rw [nat_mask7, hm] at this; exact this
theorem bits_more {m : Nat} (h : m < 128) : bits .or .u8 (m : Int) 128 = (m : Int) + 128 := by
  have := u8_or_nat m 128 (by omega) (by omega)
  have e : m ||| 128 = m + 128 := by rw [Nat.or_comm, nat_join 7 128 m (by decide) (by simpa using h)]; omega
  rw [e] at this
  rw [show ((128 : Nat) : Int) = 128 from rfl] at this
  rw [this]; omega
theorem xor_zero {a : Nat} (h : a < 18446744073709551616) : bits .xor .u64 (a : Int) 0 = (a : Int) := by
  have := u64_xor_nat a 0 h (by omega)
  rw [Nat.xor_zero] at this; exact this
theorem xor_ones {a : Nat} (h : a < 18446744073709551616) : bits .xor .u64 (a : Int) 18446744073709551615 = ((18446744073709551615 - a : Nat) : Int) := by
  have := u64_xor_nat a 18446744073709551615 h (by omega)
  have e : a ^^^ 18446744073709551615 = 18446744073709551615 - a := by
    have h1 := BitVec.toNat_not (x := BitVec.ofNat 64 a)
    have h2 : (~~~ BitVec.ofNat 64 a) = BitVec.ofNat 64 a ^^^ BitVec.allOnes 64 := by rw [BitVec.xor_allOnes]
    rw [h2, BitVec.toNat_xor, BitVec.toNat_allOnes, BitVec.toNat_ofNat, Nat.mod_eq_of_lt (by simpa using h)] at h1
    simpa using h1
  rw [e] at this; exact this
theorem zig_bits {n : Int} (h : I64 n) (h0 : 0 ≤ n) : bits .xor .u64 (n * 2) (n / 9223372036854775808) = (zig n : Int) := by
  unfold I64 at h
  have e1 : n / 9223372036854775808 = 0 := by omega
  have e2 : n * 2 = ((zig n : Nat) : Int) := by unfold zig; rw [if_pos h0]; omega
  rw [e1, e2]
  exact xor_zero (zig_lt h)
theorem zig_bits' {n : Int} (h : I64 n) (h0 : n < 0) : bits .xor .u64 (IntKind.u64.wrap (IntKind.u64.wrap n * 2)) (IntKind.u64.wrap (n / 9223372036854775808)) = (zig n : Int) := by
  unfold I64 at h
  have e1 : IntKind.u64.wrap (n / 9223372036854775808) = 18446744073709551615 := by simp [IntKind.wrap, IntKind.bits, IntKind.signed]; omega
  have e2 : IntKind.u64.wrap (IntKind.u64.wrap n * 2) = ((18446744073709551615 - zig n : Nat) : Int) := by
    unfold zig; rw [if_neg (by omega)]
    simp [IntKind.wrap, IntKind.bits, IntKind.signed]; omega
  have hz := zig_lt h
  rw [e1, e2, xor_ones (by omega)]
  congr 1; omega
set_option maxHeartbeats 4000000 in
theorem appnum_any (base : Nat) (v : Value) (xs : List Int) (n : Int) (w : World) (h : I64 n) (hown : w.ownsRow base 5 1 v xs.length (u8s xs)) (hB : base ≤ w.heap.size) (hl : xs.length ≤ 100000) :
    Calls Try.prog 23 #[v, .int .i64 n] w (AppAns base 5 1 (xs ++ num n).length (u8s (xs ++ num n)) v w) := by
  have HN := Lib.hid (show num n = encF 9 (zig n) from rfl)
  have hzl := zig_lt h
  have hz2 : Hid (zig n < 2 * 128 ^ 9) := Lib.hid (Nat.lt_of_lt_of_eq hzl (show 18446744073709551616 = 2 * (128 : Nat) ^ 9 by decide))
  have HO := Lib.hid hown
  obtain ⟨i0, hi, hz0, hz1, hz2'⟩ := info_parts Try.infoU8
  clear hown
  by_cases h0 : 0 ≤ n
  all_goals
    first | have HZ := Lib.hid (zig_bits h h0) | have HZ := Lib.hid (zig_bits' h (by omega))
    unfold I64 at h
    obtain ⟨A0, c0, rfl, _, _⟩ := own_slice HO.out
    go_enter Try.func23, Try.ntmps23
    go_wp2_with fail
    rw [HZ.out]
    go_loopg [0, 5] 9 (fun g x0 x5 wr => ∃ (u : Nat) (ys : List Int), x5 = .int .u64 u ∧ u < 2 * 128 ^ g ∧ ys.length + g = 9 ∧ num n = ys ++ encF g u ∧ wr.ownsRow base 5 1 x0 (xs.length + ys.length) (u8s (xs ++ ys)) ∧ w.grownBy wr (Value.slice A0 xs.length c0).ownBlock ∧ Where w (.slice A0 xs.length c0) x0)
    case atStart => exact ⟨_, [], rfl, hz2.out, rfl, HN.out, by simpa using HO.out, World.grownBy.refl w _, Where.refl w _⟩
    case round =>
      clear hzl
      obtain ⟨u, ys, rfl, hu, hys, hnum, hown, hgr, hwh⟩ := hrel
      have hub : u < 18446744073709551616 := by
        have h1 := Nat.pow_le_pow_right (n := 128) (by omega) (show gk ≤ 9 by omega)
        have h2 : (128 : Nat) ^ 9 = 9223372036854775808 := by decide
        omega
      have HNU := Lib.hid hnum; have HOW := Lib.hid hown; have HG := Lib.hid hgr; have HW := Lib.hid hwh
      have hsz := hgr.size
      clear hnum hown hgr hwh
      obtain ⟨A1, c1, rfl, _, _⟩ := own_slice HOW.out
      by_cases hlt : 127 < u
      · obtain ⟨g, rfl⟩ : ∃ g, gk = g + 1 := by
          cases gk with
          | zero => exfalso; simp at hu; omega
          | succ g => exact ⟨g, rfl⟩
        obtain ⟨m, hm⟩ : ∃ m, u % 128 = m := ⟨_, rfl⟩
        have hm128 : m < 128 := by omega
        have HU2 : Hid (u / 128 < 2 * 128 ^ g) := by
          unfold Hid; rw [Nat.div_lt_iff_lt_mul (by omega)]; rw [Nat.pow_succ] at hu; omega
        have HN2 : Hid (num n = (ys ++ [((m : Int) + 128)]) ++ encF g (u / 128)) := Lib.hid (by
          rw [HNU.out, encF, if_pos hlt, hm, List.append_assoc, List.singleton_append]
          rw [show (((m + 128 : Nat)) : Int) = (m : Int) + 128 by omega])
        have hb1 := bits_low hub hm
        have hb2 := bits_more hm128
        clear hm hu hub
        have HX := Lib.hid (show Sees (wr.alloc (.cells #[.int .u8 ((m : Int) + 128)] 5)) (wr.alloc (.cells #[.int .u8 ((m : Int) + 128)] 5)).heap.size 1 (some ⟨wr.heap.size, 0, none⟩) 1 (u8s [((m : Int) + 128)]) from (Blk.mk (heap_alloc_new wr _) : Blk _ wr.heap.size 5 [.int .u8 ((m : Int) + 128)]).sees rfl (List.prefix_refl _))
        have HOA := Lib.hid (HOW.out.alloc (.cells #[.int .u8 ((m : Int) + 128)] 5))
        have HGA := Lib.hid (only_alloc HG.out (.cells #[.int .u8 ((m : Int) + 128)] 5))
        clear HOW HG
        go_wp2_with (at_builtin; refine wpList_append_at rfl (.tmp 15) (.tmp 20) 22 rfl base 5 i0 (.int .u8 0) 1 1 Try.underlying22 hi hz0 hz1 hz2' rfl (by decide) _ (xs.length + ys.length) (u8s (xs ++ ys)) rfl HOA.out _ _ 1 1 (u8s [((m : Int) + 128)]) rfl HX.out (u8s_one _) (by unfold maxLen; omega) (by omega) (by simp; omega) ?_)
        intro v3 w3 hown3 hgr3 hwh3
        have HO3 := Lib.hid hown3
        have HG3 := Lib.hid (grown_where HGA.out HW.out hgr3)
        have HW3 := Lib.hid (HW.out.trans hwh3 (by simp; omega))
        clear hown3 hgr3 hwh3 hb1 hb2 HX HOA HGA HW
        go_wp2_with fail
        go_roundg g
        case measure => omega
        case rel => exact ⟨u / 128, ys ++ [((m : Int) + 128)], by go_num, HU2.out, by rw [List.length_append, List.length_singleton]; omega, HN2.out, by rw [← List.append_assoc, u8s_append, List.length_append, List.length_singleton, ← Nat.add_assoc]; exact HO3.out, HG3.out, HW3.out⟩
      · have HN2 : Hid (num n = ys ++ [(u : Int)]) := Lib.hid (by
          rw [HNU.out]
          cases gk with
          | zero => rfl
          | succ g => rw [encF, if_neg hlt])
        have hu2 : (u : Int) < 256 := by omega
        clear hub hu
        have HX := Lib.hid (show Sees (wr.alloc (.cells #[.int .u8 (u : Int)] 5)) (wr.alloc (.cells #[.int .u8 (u : Int)] 5)).heap.size 1 (some ⟨wr.heap.size, 0, none⟩) 1 (u8s [(u : Int)]) from (Blk.mk (heap_alloc_new wr _) : Blk _ wr.heap.size 5 [.int .u8 (u : Int)]).sees rfl (List.prefix_refl _))
        have HOA := Lib.hid (HOW.out.alloc (.cells #[.int .u8 (u : Int)] 5))
        have HGA := Lib.hid (only_alloc HG.out (.cells #[.int .u8 (u : Int)] 5))
        clear HOW HG
        go_wp2_with (at_builtin; refine wpList_append_at rfl (.tmp 24) (.tmp 27) 22 rfl base 5 i0 (.int .u8 0) 1 1 Try.underlying22 hi hz0 hz1 hz2' rfl (by decide) _ (xs.length + ys.length) (u8s (xs ++ ys)) rfl HOA.out _ _ 1 1 (u8s [(u : Int)]) rfl HX.out (u8s_one _) (by unfold maxLen; omega) (by omega) (by simp; omega) ?_)
        intro v3 w3 hown3 hgr3 hwh3
        have HO3 := Lib.hid hown3
        have HG3 := Lib.hid (grown_where HGA.out HW.out hgr3)
        have HW3 := Lib.hid (HW.out.trans hwh3 (by simp; omega))
        obtain ⟨A3, c3, e3, _, _⟩ := own_slice hown3
        subst e3
        clear hown3 hgr3 hwh3 HX HOA HGA HW
        have HL := Lib.hid (show (xs ++ num n).length = xs.length + ys.length + 1 by rw [HN2.out]; simp; omega)
        go_wp2_with fail
        go_ret
        exact appAns (by rw [HL.out, HN2.out, ← List.append_assoc, u8s_append]; exact HO3.out) HG3.out (by rw [HL.out]; exact HW3.out) (by rw [HL.out]; rfl)
end Go.Proofs.Ythnnbbhoelhmbaa
