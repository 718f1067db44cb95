/- klaxonref1.Quote. -/
import Derived.Test.YtbndmmfpoljeaaaBase
import Derived.Deep.CutBlock
import Derived.Deep.DeepCutAuto
namespace Go.Proofs.Ytbndmmfpoljeaaa
open Go.ChangeShapes Go.WideShapes Go.ChangeAt Go.RowKit
set_option linter.unusedVariables false
set_option linter.unusedSimpArgs false
set_option maxRecDepth 100000
/-- Within Quote: a row of its own of these bytes. -/
structure QAt (w : World) (A : Option Addr) (n c : Nat) (l : List UInt8) (wx : World) : Prop where
  row : wx.ownsRow w.heap.size 5 1 (.slice A n c) n (Lib.byteCells l)
  len : l.length = n
  bel : Below w.heap.size w wx
theorem QAt.one {w : World} (b : UInt8) (z : Int) (hz : z = b.toNat) : QAt w (some ⟨w.heap.size, 0, none⟩) 1 1 [b] (w.alloc (.cells #[.int .u8 z] 5)) := by
  subst hz
  exact ⟨(Blk.mk (heap_alloc_new w _) : Blk _ w.heap.size 5 [.int .u8 (b.toNat : Int)]).owns (n := 1) (cap := 1) (size := 1) (Nat.le_refl _) (Nat.le_refl _) (by unfold maxLen; omega) rfl, rfl, (Below.refl _ _).alloc (Nat.le_refl _) _⟩
theorem QAt.next {w wx w3 : World} {A A3 : Option Addr} {n c c3 : Nat} {l : List UInt8} {o : Obj} (h : QAt w A n c l wx) (b : UInt8) (hown : w3.ownsRow w.heap.size 5 1 (.slice A3 (n + 1) c3) (n + 1) (Lib.byteCells l ++ Lib.byteCells [b])) (hg : (wx.alloc o).grownBy w3 (Value.slice A n c).ownBlock) : QAt w A3 (n + 1) c3 (l ++ [b]) w3 :=
  ⟨by rw [Lib.byteCells_append]; exact hown, by rw [List.length_append, h.len]; rfl, (h.bel.alloc h.bel.size o).grown hg (Nat.le_trans h.bel.size (by simp)) (fun g hg => (h.row.lt g hg).1)⟩
theorem byte_eq {x : UInt8} {k : Nat} (hk : k < 256) : ((x.toNat : Int) == (k : Int)) = decide (x = UInt8.ofNat k) := by
  rw [Bool.eq_iff_iff, beq_iff_eq, decide_eq_true_iff]
  constructor
  · intro h; exact UInt8.toNat_inj.1 (by rw [UInt8.toNat_ofNat']; omega)
  · intro h; rw [h, UInt8.toNat_ofNat']; omega
theorem escL_snoc (s : ByteArray) (k : Nat) (h : k < s.size) : escL (s.data.toList.take (k + 1)) = escL (s.data.toList.take k) ++ (if escB s[k] then [92, s[k]] else [s[k]]) := by
  rw [take_snoc_b s k h, escL_append, escL_one]
set_option maxHeartbeats 4000000 in
theorem rquote_any (s : ByteArray) (w : World) (hs : s.size ≤ 35184372088832) :
    Calls Try.prog 76 #[.string s] w fun e w' => e = .returned (.string ⟨(quoteL s.data.toList).toArray⟩) ∧ Below w.heap.size w w' := by
  obtain ⟨i0, hi0, hz0, hz1, hz2⟩ := info_parts Try.infoU8x
  have HQ0 := Lib.hid (QAt.one (w := w) 34 34 rfl)
  go_enter Try.func76, Try.ntmps76
  go_wp2_with fail
  go_loopg [3, 4] s.size (fun g x3 x4 wr => ∃ (k n : Nat) (A : Option Addr) (c : Nat) (l : List UInt8), k + g = s.size ∧ x4 = .int .i64 k ∧ x3 = .slice A n c ∧ n ≤ 2 * k + 1 ∧ l = 34 :: escL (s.data.toList.take k) ∧ QAt w A n c l wr)
  case atStart => exact ⟨0, 1, _, 1, [34], by omega, rfl, rfl, by omega, rfl, HQ0.out⟩
  case round =>
    obtain ⟨k, n, A, c, l, hkg, rfl, rfl, hn, hl, hat⟩ := hrel
    have HQ := Lib.hid hat
    have HL := Lib.hid hl
    clear hat hl HQ0
    have hws := HQ.out.bel.size
    cases gk with
    | zero =>
      have hk : (s.size : Int) ≤ k := by omega
      have HE := Lib.hid (show l ++ [34] = quoteL s.data.toList by rw [HL.out, List.take_of_length_le (by simp; omega)]; rfl)
      have HOA := Lib.hid (own_below HQ.out.row ((Below.refl wr.heap.size wr).alloc (Nat.le_refl _) (.cells #[.int .u8 34] 5)) (Nat.le_refl _))
      have HX := Lib.hid (show Sees (wr.alloc (.cells #[.int .u8 34] 5)) (wr.alloc (.cells #[.int .u8 34] 5)).heap.size 1 (some ⟨wr.heap.size, 0, none⟩) 1 (Lib.byteCells [34]) from (Blk.mk (heap_alloc_new wr _) : Blk _ wr.heap.size 5 [.int .u8 34]).sees rfl (List.prefix_refl _))
      have hbl : w.heap.size ≤ (wr.alloc (.cells #[.int .u8 34] 5)).heap.size := by simp; omega
      go_upto_region 8 with fail
      go_wp2_with (at_builtin; refine wpList_append_at rfl (.tmp 31) (.tmp 32) 76 rfl w.heap.size 5 i0 (.int .u8 0) 1 1 Try.underlying76 hi0 hz0 hz1 hz2 rfl (by decide) _ n (Lib.byteCells l) rfl HOA.out _ _ 1 1 (Lib.byteCells [34]) rfl HX.out (byteCells_one' _) (by unfold maxLen; omega) (by omega) hbl ?_)
      intro v3 w3 hown3 hgr3 hwh3
      obtain ⟨A3, c3, rfl, _, _⟩ := own_slice hown3
      have HZ := Lib.hid (HQ.out.next 34 hown3 hgr3)
      have hcv := conv_own w3 HZ.out.row HZ.out.len
      clear hown3 hgr3 hwh3 HOA HX hbl HQ
      go_wp2_with fail
      go_ret
      exact ⟨by rw [HE.out]; rfl, HZ.out.bel⟩
    | succ g =>
      have hlt : k < s.size := by omega
      have hki : (k : Int) < s.size := by omega
      have HSN := Lib.hid (escL_snoc s k hlt)
      obtain ⟨b, hb⟩ : ∃ b, s[k] = b := ⟨_, rfl⟩
      rw [hb] at HSN
      obtain ⟨q, hq⟩ : ∃ q, escB b = q := ⟨_, rfl⟩
      have HQB := Lib.hid hq
      rw [hq] at HSN
      clear hq
      have HB := Lib.hid hb
      clear hb
      go_upto_region 5 with fail
      go_cut [21] from 12 to 21 (fun x21 wx => x21 = .bool q ∧ QAt w A n c l wx)
      case first =>
        by_cases h34 : b = 34
        · have hq1 : q = true := by rw [← HQB.out, h34]; decide
          have t1 : ((s[k].toNat : Int) == 34) = true := by rw [HB.out, h34]; rfl
          clear h34
          go_wp2_with fail
          go_meet
          exact ⟨by subst hq1; rfl, HQ.out⟩
        · have t1 : ((s[k].toNat : Int) == 34) = false := by
            rw [HB.out, beq_eq_false_iff_ne]; intro e; exact h34 (UInt8.toNat_inj.1 (by have h : b.toNat = 34 := (by omega); rw [h]; rfl))
          by_cases h92 : b = 92
          · have hq1 : q = true := by rw [← HQB.out, h92]; decide
            have t2 : ((s[k].toNat : Int) == 92) = true := by rw [HB.out, h92]; rfl
            clear h34 h92
            go_wp2_with fail
            go_meet
            exact ⟨by subst hq1; rfl, HQ.out⟩
          · have hq1 : q = false := by
              rw [← HQB.out]; unfold escB escN
              rw [decide_eq_false (fun e => h34 (UInt8.toNat_inj.1 (by rw [e]; rfl))), decide_eq_false (fun e => h92 (UInt8.toNat_inj.1 (by rw [e]; rfl)))]; rfl
            have t2 : ((s[k].toNat : Int) == 92) = false := by
              rw [HB.out, beq_eq_false_iff_ne]; intro e; exact h92 (UInt8.toNat_inj.1 (by have h : b.toNat = 92 := (by omega); rw [h]; rfl))
            clear h34 h92
            go_wp2_with fail
            go_meet
            exact ⟨by subst hq1; rfl, HQ.out⟩
      case rest =>
        obtain ⟨rfl, hat⟩ := hcut
        have HQ2 := Lib.hid hat
        clear hat HQ HQB
        go_upto_if 21 with fail
        go_cut [3] from 22 to 24 (fun x3 wx => ∃ (A2 : Option Addr) (n2 c2 : Nat), x3 = .slice A2 n2 c2 ∧ n2 ≤ n + 1 ∧ QAt w A2 n2 c2 (l ++ (if q then [92] else [])) wx)
        case first =>
          cases q with
          | false =>
            go_wp2_with fail
            go_meet
            exact ⟨A, n, c, rfl, by omega, by simpa using HQ2.out⟩
          | true =>
            have HOA := Lib.hid (own_below HQ2.out.row ((Below.refl wc.heap.size wc).alloc (Nat.le_refl _) (.cells #[.int .u8 92] 5)) (Nat.le_refl _))
            have HX := Lib.hid (show Sees (wc.alloc (.cells #[.int .u8 92] 5)) (wc.alloc (.cells #[.int .u8 92] 5)).heap.size 1 (some ⟨wc.heap.size, 0, none⟩) 1 (Lib.byteCells [92]) from (Blk.mk (heap_alloc_new wc _) : Blk _ wc.heap.size 5 [.int .u8 92]).sees rfl (List.prefix_refl _))
            have hbl : w.heap.size ≤ (wc.alloc (.cells #[.int .u8 92] 5)).heap.size := by have := HQ2.out.bel.size; simp; omega
            go_wp2_with (at_builtin; refine wpList_append_at rfl (.tmp 22) (.tmp 23) 76 rfl w.heap.size 5 i0 (.int .u8 0) 1 1 Try.underlying76 hi0 hz0 hz1 hz2 rfl (by decide) _ n (Lib.byteCells l) rfl HOA.out _ _ 1 1 (Lib.byteCells [92]) rfl HX.out (byteCells_one' _) (by unfold maxLen; omega) (by omega) hbl ?_)
            intro v3 w3 hown3 hgr3 hwh3
            obtain ⟨A3, c3, rfl, _, _⟩ := own_slice hown3
            have HZ := Lib.hid (HQ2.out.next 92 hown3 hgr3)
            clear hown3 hgr3 hwh3 HOA HX hbl HQ2
            go_wp2_with fail
            go_meet
            exact ⟨A3, n + 1, c3, rfl, by omega, by simpa using HZ.out⟩
        case rest =>
          obtain ⟨A2, n2, c2, rfl, hn2, hat⟩ := hcut
          have HQ3 := Lib.hid hat
          clear hat HQ2
          obtain ⟨l2, hl2⟩ : ∃ l2, l ++ (if q then [92] else []) = l2 := ⟨_, rfl⟩
          have HL2 := Lib.hid hl2
          rw [hl2] at HQ3
          clear hl2
          have HLN := Lib.hid (show l2 ++ [b] = 34 :: escL (s.data.toList.take (k + 1)) by rw [HSN.out, ← HL2.out, HL.out]; cases q <;> simp)
          have HOA := Lib.hid (own_below HQ3.out.row ((Below.refl wc.heap.size wc).alloc (Nat.le_refl _) (.cells #[.int .u8 (s[k].toNat : Int)] 5)) (Nat.le_refl _))
          have HX := Lib.hid (show Sees (wc.alloc (.cells #[.int .u8 (s[k].toNat : Int)] 5)) (wc.alloc (.cells #[.int .u8 (s[k].toNat : Int)] 5)).heap.size 1 (some ⟨wc.heap.size, 0, none⟩) 1 (Lib.byteCells [s[k]]) from (Blk.mk (heap_alloc_new wc _) : Blk _ wc.heap.size 5 [.int .u8 (s[k].toNat : Int)]).sees rfl (List.prefix_refl _))
          have hbl : w.heap.size ≤ (wc.alloc (.cells #[.int .u8 (s[k].toNat : Int)] 5)).heap.size := by have := HQ3.out.bel.size; simp; omega
          go_wp2_with (at_builtin; refine wpList_append_at rfl (.tmp 25) (.tmp 29) 76 rfl w.heap.size 5 i0 (.int .u8 0) 1 1 Try.underlying76 hi0 hz0 hz1 hz2 rfl (by decide) _ n2 (Lib.byteCells l2) rfl HOA.out _ _ 1 1 (Lib.byteCells [s[k]]) rfl HX.out (byteCells_one' _) (by unfold maxLen; omega) (by omega) hbl ?_)
          intro v3 w3 hown3 hgr3 hwh3
          obtain ⟨A3, c3, rfl, _, _⟩ := own_slice hown3
          have HZ := Lib.hid (show QAt w A3 (n2 + 1) c3 (l2 ++ [b]) w3 from by rw [← HB.out]; exact HQ3.out.next s[k] hown3 hgr3)
          clear hown3 hgr3 hwh3 HOA HX hbl HQ3
          go_wp2_with fail
          go_roundg g
          case measure => omega
          case rel => exact ⟨k + 1, n2 + 1, A3, c3, _, by omega, by go_num, rfl, by omega, HLN.out, HZ.out⟩
end Go.Proofs.Ytbndmmfpoljeaaa
