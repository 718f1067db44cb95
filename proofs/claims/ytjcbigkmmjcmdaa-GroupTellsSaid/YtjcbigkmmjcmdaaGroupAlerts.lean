/- The alerts of a number. -/
import Derived.Test.YtjcbigkmmjcmdaaGroupQuiet
namespace Go.Proofs.Ytjcbigkmmjcmdaa
open Go.ChangeShapes Go.WideShapes Go.ChangeAt Go.RowKit
set_option linter.unusedVariables false
set_option linter.unusedSimpArgs false
set_option maxRecDepth 100000
def abc : List ByteArray := [⟨#[97]⟩, ⟨#[98]⟩, ⟨#[99]⟩]
/-- The first k of three, those that n has. -/
def alertsUp (n : Nat) : Nat → List ByteArray
  | 0 => []
  | k + 1 => if n / 2 ^ k % 2 = 1 then alertsUp n k ++ [abc.getD k ⟨#[]⟩] else alertsUp n k
def alertsF (n : Nat) : List ByteArray := alertsUp n 3
theorem alertsUp_len (n k : Nat) : (alertsUp n k).length ≤ k := by
  induction k with
  | zero => exact Nat.le_refl _
  | succ k ih =>
    unfold alertsUp
    split
    · rw [List.length_append]; simp only [List.length_cons, List.length_nil]; omega
    · omega
set_option maxHeartbeats 4000000 in
theorem alerts_any (n : Nat) (w : World) (hn : n < 8) : Calls Try.prog 17 #[.int .i64 n] w (OwnAns 9 1 (alertsF n).length (strs (alertsF n)) w) := by
  obtain ⟨i0, hi, hz0, hz1, hz2⟩ := info_parts Try.infoStr
  have HK := Lib.hid (Blk.mk (heap_alloc_new w (.cells #[.string ⟨#[97]⟩, .string ⟨#[98]⟩, .string ⟨#[99]⟩] 9)) : Blk _ _ 9 [.string ⟨#[97]⟩, .string ⟨#[98]⟩, .string ⟨#[99]⟩])
  have HB := Lib.hid ((Below.refl w.heap.size w).alloc (Nat.le_refl _) (.cells #[.string ⟨#[97]⟩, .string ⟨#[98]⟩, .string ⟨#[99]⟩] 9))
  go_enter Try.func17, Try.ntmps17
  go_wp2_with fail
  go_loopg [3, 8] 3 (fun g x3 x8 wr => ∃ k : Nat, k + g = 3 ∧ x8 = .int .i64 k ∧ wr.ownsRow (w.heap.size + 1) 9 1 x3 (alertsUp n k).length (strs (alertsUp n k)) ∧ Blk wr w.heap.size 9 [.string ⟨#[97]⟩, .string ⟨#[98]⟩, .string ⟨#[99]⟩] ∧ Below w.heap.size w wr ∧ w.heap.size + 1 ≤ wr.heap.size)
  case atStart => exact ⟨0, by omega, rfl, by simpa [alertsUp, strs] using World.ownsRow_nil _ (w.heap.size + 1) 9 1, HK.out, HB.out, by simp⟩
  case round =>
    obtain ⟨k, hkg, rfl, hown, hblk, hbel, hsz⟩ := hrel
    have HO := Lib.hid hown; have HKR := Lib.hid hblk; have HBR := Lib.hid hbel
    obtain ⟨A, c, rfl, hc1, hc2⟩ := own_slice hown
    have hlen := alertsUp_len n k
    have HUP := Lib.hid (show alertsUp n (k + 1) = if n / 2 ^ k % 2 = 1 then alertsUp n k ++ [abc.getD k ⟨#[]⟩] else alertsUp n k from rfl)
    clear hown hblk hbel HK HB
    cases gk with
    | zero =>
      obtain rfl : k = 3 := by omega
      have HO2 := Lib.hid (own_mono HO.out (show w.heap.size ≤ w.heap.size + 1 by omega))
      go_wp2_with fail
      go_ret
      exact ownAns HO2.out HBR.out rfl hc1 hc2
    | succ g =>
      have hk3 : k < 3 := by omega
      obtain ⟨e0, e1, e2⟩ : wr.cell? ⟨w.heap.size, 0, none⟩ = some (.string ⟨#[97]⟩) ∧ wr.cell? ⟨w.heap.size, 1, none⟩ = some (.string ⟨#[98]⟩) ∧ wr.cell? ⟨w.heap.size, 2, none⟩ = some (.string ⟨#[99]⟩) := ⟨HKR.out.cell 0, HKR.out.cell 1, HKR.out.cell 2⟩
      have hkc : k = 0 ∨ k = 1 ∨ k = 2 := by omega
      have hnc : n = 0 ∨ n = 1 ∨ n = 2 ∨ n = 3 ∨ n = 4 ∨ n = 5 ∨ n = 6 ∨ n = 7 := by omega
      generalize alertsUp n k = up at *
      have HLEN := Lib.hid hlen
      have hbu : up.length ≤ 3 := by omega
      clear hlen
      have b0 : bits BinOp.and IntKind.i64 0 1 = 0 := by kernel_rfl
      have b1 : bits BinOp.and IntKind.i64 1 1 = 1 := by kernel_rfl
      have b2 : bits BinOp.and IntKind.i64 2 1 = 0 := by kernel_rfl
      have b3 : bits BinOp.and IntKind.i64 3 1 = 1 := by kernel_rfl
      have b4 : bits BinOp.and IntKind.i64 4 1 = 0 := by kernel_rfl
      have b5 : bits BinOp.and IntKind.i64 5 1 = 1 := by kernel_rfl
      have b6 : bits BinOp.and IntKind.i64 6 1 = 0 := by kernel_rfl
      have b7 : bits BinOp.and IntKind.i64 7 1 = 1 := by kernel_rfl
      obtain ⟨sx, hsx⟩ : ∃ s, abc.getD k ⟨#[]⟩ = s := ⟨_, rfl⟩
      have HX := Lib.hid (HO.out.alloc (.cells #[.string sx] 9))
      have HSX := Lib.hid ((Blk.mk (heap_alloc_new wr (.cells #[.string sx] 9)) : Blk _ _ 9 [.string sx]).sees (size := 1) (n := 1) (xs := strs [sx]) rfl (List.prefix_refl _))
      have HBX := Lib.hid (HBR.out.alloc HBR.out.size (.cells #[.string sx] 9))
      have HKX := Lib.hid (HKR.out.alloc (.cells #[.string sx] 9))
      have HS := Lib.hid hsx
      clear hsx
      rcases hkc with rfl | rfl | rfl
      · have hsx := HS.out
        simp only [abc, List.getD_cons_zero, List.getD_cons_succ] at hsx
        subst hsx
        clear HS
        rcases hnc with rfl | rfl | rfl | rfl | rfl | rfl | rfl | rfl
        · have hb := Lib.hid (HUP.out.trans (if_neg (by decide)))
          clear HUP
          go_wp2_with fail
          go_roundg g
          case measure => omega
          case rel => exact ⟨0 + 1, by omega, by go_num, by rw [hb.out]; exact HO.out, HKR.out, HBR.out, hsz⟩
        · have hb := Lib.hid (HUP.out.trans (if_pos (by decide)))
          clear HUP
          go_wp2_with (at_builtin; refine wpList_append_sees rfl (.tmp 18) (.tmp 20) 27 rfl (w.heap.size + 1) 9 i0 (.string ⟨#[]⟩) 1 16 Try.underlying27 hi hz0 hz1 hz2 rfl (by decide) _ up.length (strs up) rfl HX.out _ _ 1 1 _ rfl HSX.out (strs_one _) (by unfold maxLen; omega) (by omega) (by simp; omega) ?_)
          intro v7 w7 hown7 hgr7
          have hK7 := HKX.out.grown hgr7 (fun e => by have := (HX.out.lt _ e.symm).1; omega)
          have hB7 := HBX.out.grown hgr7 (by simp; omega) (fun y hy => by have := (HX.out.lt y hy).1; omega)
          have hz7 : w.heap.size + 1 ≤ w7.heap.size := Nat.le_trans hsz (Nat.le_trans (by simp) hgr7.size)
          have HO7 := Lib.hid hown7
          clear hown7 hgr7
          go_wp2_with fail
          go_roundg g
          case measure => omega
          case rel => exact ⟨0 + 1, by omega, by go_num, by rw [hb.out, strs_append, List.length_append]; exact HO7.out, hK7, hB7, hz7⟩
        · have hb := Lib.hid (HUP.out.trans (if_neg (by decide)))
          clear HUP
          go_wp2_with fail
          go_roundg g
          case measure => omega
          case rel => exact ⟨0 + 1, by omega, by go_num, by rw [hb.out]; exact HO.out, HKR.out, HBR.out, hsz⟩
        · have hb := Lib.hid (HUP.out.trans (if_pos (by decide)))
          clear HUP
          go_wp2_with (at_builtin; refine wpList_append_sees rfl (.tmp 18) (.tmp 20) 27 rfl (w.heap.size + 1) 9 i0 (.string ⟨#[]⟩) 1 16 Try.underlying27 hi hz0 hz1 hz2 rfl (by decide) _ up.length (strs up) rfl HX.out _ _ 1 1 _ rfl HSX.out (strs_one _) (by unfold maxLen; omega) (by omega) (by simp; omega) ?_)
          intro v7 w7 hown7 hgr7
          have hK7 := HKX.out.grown hgr7 (fun e => by have := (HX.out.lt _ e.symm).1; omega)
          have hB7 := HBX.out.grown hgr7 (by simp; omega) (fun y hy => by have := (HX.out.lt y hy).1; omega)
          have hz7 : w.heap.size + 1 ≤ w7.heap.size := Nat.le_trans hsz (Nat.le_trans (by simp) hgr7.size)
          have HO7 := Lib.hid hown7
          clear hown7 hgr7
          go_wp2_with fail
          go_roundg g
          case measure => omega
          case rel => exact ⟨0 + 1, by omega, by go_num, by rw [hb.out, strs_append, List.length_append]; exact HO7.out, hK7, hB7, hz7⟩
        · have hb := Lib.hid (HUP.out.trans (if_neg (by decide)))
          clear HUP
          go_wp2_with fail
          go_roundg g
          case measure => omega
          case rel => exact ⟨0 + 1, by omega, by go_num, by rw [hb.out]; exact HO.out, HKR.out, HBR.out, hsz⟩
        · have hb := Lib.hid (HUP.out.trans (if_pos (by decide)))
          clear HUP
          go_wp2_with (at_builtin; refine wpList_append_sees rfl (.tmp 18) (.tmp 20) 27 rfl (w.heap.size + 1) 9 i0 (.string ⟨#[]⟩) 1 16 Try.underlying27 hi hz0 hz1 hz2 rfl (by decide) _ up.length (strs up) rfl HX.out _ _ 1 1 _ rfl HSX.out (strs_one _) (by unfold maxLen; omega) (by omega) (by simp; omega) ?_)
          intro v7 w7 hown7 hgr7
          have hK7 := HKX.out.grown hgr7 (fun e => by have := (HX.out.lt _ e.symm).1; omega)
          have hB7 := HBX.out.grown hgr7 (by simp; omega) (fun y hy => by have := (HX.out.lt y hy).1; omega)
          have hz7 : w.heap.size + 1 ≤ w7.heap.size := Nat.le_trans hsz (Nat.le_trans (by simp) hgr7.size)
          have HO7 := Lib.hid hown7
          clear hown7 hgr7
          go_wp2_with fail
          go_roundg g
          case measure => omega
          case rel => exact ⟨0 + 1, by omega, by go_num, by rw [hb.out, strs_append, List.length_append]; exact HO7.out, hK7, hB7, hz7⟩
        · have hb := Lib.hid (HUP.out.trans (if_neg (by decide)))
          clear HUP
          go_wp2_with fail
          go_roundg g
          case measure => omega
          case rel => exact ⟨0 + 1, by omega, by go_num, by rw [hb.out]; exact HO.out, HKR.out, HBR.out, hsz⟩
        · have hb := Lib.hid (HUP.out.trans (if_pos (by decide)))
          clear HUP
          go_wp2_with (at_builtin; refine wpList_append_sees rfl (.tmp 18) (.tmp 20) 27 rfl (w.heap.size + 1) 9 i0 (.string ⟨#[]⟩) 1 16 Try.underlying27 hi hz0 hz1 hz2 rfl (by decide) _ up.length (strs up) rfl HX.out _ _ 1 1 _ rfl HSX.out (strs_one _) (by unfold maxLen; omega) (by omega) (by simp; omega) ?_)
          intro v7 w7 hown7 hgr7
          have hK7 := HKX.out.grown hgr7 (fun e => by have := (HX.out.lt _ e.symm).1; omega)
          have hB7 := HBX.out.grown hgr7 (by simp; omega) (fun y hy => by have := (HX.out.lt y hy).1; omega)
          have hz7 : w.heap.size + 1 ≤ w7.heap.size := Nat.le_trans hsz (Nat.le_trans (by simp) hgr7.size)
          have HO7 := Lib.hid hown7
          clear hown7 hgr7
          go_wp2_with fail
          go_roundg g
          case measure => omega
          case rel => exact ⟨0 + 1, by omega, by go_num, by rw [hb.out, strs_append, List.length_append]; exact HO7.out, hK7, hB7, hz7⟩
      · have hsx := HS.out
        simp only [abc, List.getD_cons_zero, List.getD_cons_succ] at hsx
        subst hsx
        clear HS
        rcases hnc with rfl | rfl | rfl | rfl | rfl | rfl | rfl | rfl
        · have hb := Lib.hid (HUP.out.trans (if_neg (by decide)))
          clear HUP
          go_wp2_with fail
          go_roundg g
          case measure => omega
          case rel => exact ⟨1 + 1, by omega, by go_num, by rw [hb.out]; exact HO.out, HKR.out, HBR.out, hsz⟩
        · have hb := Lib.hid (HUP.out.trans (if_neg (by decide)))
          clear HUP
          go_wp2_with fail
          go_roundg g
          case measure => omega
          case rel => exact ⟨1 + 1, by omega, by go_num, by rw [hb.out]; exact HO.out, HKR.out, HBR.out, hsz⟩
        · have hb := Lib.hid (HUP.out.trans (if_pos (by decide)))
          clear HUP
          go_wp2_with (at_builtin; refine wpList_append_sees rfl (.tmp 18) (.tmp 20) 27 rfl (w.heap.size + 1) 9 i0 (.string ⟨#[]⟩) 1 16 Try.underlying27 hi hz0 hz1 hz2 rfl (by decide) _ up.length (strs up) rfl HX.out _ _ 1 1 _ rfl HSX.out (strs_one _) (by unfold maxLen; omega) (by omega) (by simp; omega) ?_)
          intro v7 w7 hown7 hgr7
          have hK7 := HKX.out.grown hgr7 (fun e => by have := (HX.out.lt _ e.symm).1; omega)
          have hB7 := HBX.out.grown hgr7 (by simp; omega) (fun y hy => by have := (HX.out.lt y hy).1; omega)
          have hz7 : w.heap.size + 1 ≤ w7.heap.size := Nat.le_trans hsz (Nat.le_trans (by simp) hgr7.size)
          have HO7 := Lib.hid hown7
          clear hown7 hgr7
          go_wp2_with fail
          go_roundg g
          case measure => omega
          case rel => exact ⟨1 + 1, by omega, by go_num, by rw [hb.out, strs_append, List.length_append]; exact HO7.out, hK7, hB7, hz7⟩
        · have hb := Lib.hid (HUP.out.trans (if_pos (by decide)))
          clear HUP
          go_wp2_with (at_builtin; refine wpList_append_sees rfl (.tmp 18) (.tmp 20) 27 rfl (w.heap.size + 1) 9 i0 (.string ⟨#[]⟩) 1 16 Try.underlying27 hi hz0 hz1 hz2 rfl (by decide) _ up.length (strs up) rfl HX.out _ _ 1 1 _ rfl HSX.out (strs_one _) (by unfold maxLen; omega) (by omega) (by simp; omega) ?_)
          intro v7 w7 hown7 hgr7
          have hK7 := HKX.out.grown hgr7 (fun e => by have := (HX.out.lt _ e.symm).1; omega)
          have hB7 := HBX.out.grown hgr7 (by simp; omega) (fun y hy => by have := (HX.out.lt y hy).1; omega)
          have hz7 : w.heap.size + 1 ≤ w7.heap.size := Nat.le_trans hsz (Nat.le_trans (by simp) hgr7.size)
          have HO7 := Lib.hid hown7
          clear hown7 hgr7
          go_wp2_with fail
          go_roundg g
          case measure => omega
          case rel => exact ⟨1 + 1, by omega, by go_num, by rw [hb.out, strs_append, List.length_append]; exact HO7.out, hK7, hB7, hz7⟩
        · have hb := Lib.hid (HUP.out.trans (if_neg (by decide)))
          clear HUP
          go_wp2_with fail
          go_roundg g
          case measure => omega
          case rel => exact ⟨1 + 1, by omega, by go_num, by rw [hb.out]; exact HO.out, HKR.out, HBR.out, hsz⟩
        · have hb := Lib.hid (HUP.out.trans (if_neg (by decide)))
          clear HUP
          go_wp2_with fail
          go_roundg g
          case measure => omega
          case rel => exact ⟨1 + 1, by omega, by go_num, by rw [hb.out]; exact HO.out, HKR.out, HBR.out, hsz⟩
        · have hb := Lib.hid (HUP.out.trans (if_pos (by decide)))
          clear HUP
          go_wp2_with (at_builtin; refine wpList_append_sees rfl (.tmp 18) (.tmp 20) 27 rfl (w.heap.size + 1) 9 i0 (.string ⟨#[]⟩) 1 16 Try.underlying27 hi hz0 hz1 hz2 rfl (by decide) _ up.length (strs up) rfl HX.out _ _ 1 1 _ rfl HSX.out (strs_one _) (by unfold maxLen; omega) (by omega) (by simp; omega) ?_)
          intro v7 w7 hown7 hgr7
          have hK7 := HKX.out.grown hgr7 (fun e => by have := (HX.out.lt _ e.symm).1; omega)
          have hB7 := HBX.out.grown hgr7 (by simp; omega) (fun y hy => by have := (HX.out.lt y hy).1; omega)
          have hz7 : w.heap.size + 1 ≤ w7.heap.size := Nat.le_trans hsz (Nat.le_trans (by simp) hgr7.size)
          have HO7 := Lib.hid hown7
          clear hown7 hgr7
          go_wp2_with fail
          go_roundg g
          case measure => omega
          case rel => exact ⟨1 + 1, by omega, by go_num, by rw [hb.out, strs_append, List.length_append]; exact HO7.out, hK7, hB7, hz7⟩
        · have hb := Lib.hid (HUP.out.trans (if_pos (by decide)))
          clear HUP
          go_wp2_with (at_builtin; refine wpList_append_sees rfl (.tmp 18) (.tmp 20) 27 rfl (w.heap.size + 1) 9 i0 (.string ⟨#[]⟩) 1 16 Try.underlying27 hi hz0 hz1 hz2 rfl (by decide) _ up.length (strs up) rfl HX.out _ _ 1 1 _ rfl HSX.out (strs_one _) (by unfold maxLen; omega) (by omega) (by simp; omega) ?_)
          intro v7 w7 hown7 hgr7
          have hK7 := HKX.out.grown hgr7 (fun e => by have := (HX.out.lt _ e.symm).1; omega)
          have hB7 := HBX.out.grown hgr7 (by simp; omega) (fun y hy => by have := (HX.out.lt y hy).1; omega)
          have hz7 : w.heap.size + 1 ≤ w7.heap.size := Nat.le_trans hsz (Nat.le_trans (by simp) hgr7.size)
          have HO7 := Lib.hid hown7
          clear hown7 hgr7
          go_wp2_with fail
          go_roundg g
          case measure => omega
          case rel => exact ⟨1 + 1, by omega, by go_num, by rw [hb.out, strs_append, List.length_append]; exact HO7.out, hK7, hB7, hz7⟩
      · have hsx := HS.out
        simp only [abc, List.getD_cons_zero, List.getD_cons_succ] at hsx
        subst hsx
        clear HS
        rcases hnc with rfl | rfl | rfl | rfl | rfl | rfl | rfl | rfl
        · have hb := Lib.hid (HUP.out.trans (if_neg (by decide)))
          clear HUP
          go_wp2_with fail
          go_roundg g
          case measure => omega
          case rel => exact ⟨2 + 1, by omega, by go_num, by rw [hb.out]; exact HO.out, HKR.out, HBR.out, hsz⟩
        · have hb := Lib.hid (HUP.out.trans (if_neg (by decide)))
          clear HUP
          go_wp2_with fail
          go_roundg g
          case measure => omega
          case rel => exact ⟨2 + 1, by omega, by go_num, by rw [hb.out]; exact HO.out, HKR.out, HBR.out, hsz⟩
        · have hb := Lib.hid (HUP.out.trans (if_neg (by decide)))
          clear HUP
          go_wp2_with fail
          go_roundg g
          case measure => omega
          case rel => exact ⟨2 + 1, by omega, by go_num, by rw [hb.out]; exact HO.out, HKR.out, HBR.out, hsz⟩
        · have hb := Lib.hid (HUP.out.trans (if_neg (by decide)))
          clear HUP
          go_wp2_with fail
          go_roundg g
          case measure => omega
          case rel => exact ⟨2 + 1, by omega, by go_num, by rw [hb.out]; exact HO.out, HKR.out, HBR.out, hsz⟩
        · have hb := Lib.hid (HUP.out.trans (if_pos (by decide)))
          clear HUP
          go_wp2_with (at_builtin; refine wpList_append_sees rfl (.tmp 18) (.tmp 20) 27 rfl (w.heap.size + 1) 9 i0 (.string ⟨#[]⟩) 1 16 Try.underlying27 hi hz0 hz1 hz2 rfl (by decide) _ up.length (strs up) rfl HX.out _ _ 1 1 _ rfl HSX.out (strs_one _) (by unfold maxLen; omega) (by omega) (by simp; omega) ?_)
          intro v7 w7 hown7 hgr7
          have hK7 := HKX.out.grown hgr7 (fun e => by have := (HX.out.lt _ e.symm).1; omega)
          have hB7 := HBX.out.grown hgr7 (by simp; omega) (fun y hy => by have := (HX.out.lt y hy).1; omega)
          have hz7 : w.heap.size + 1 ≤ w7.heap.size := Nat.le_trans hsz (Nat.le_trans (by simp) hgr7.size)
          have HO7 := Lib.hid hown7
          clear hown7 hgr7
          go_wp2_with fail
          go_roundg g
          case measure => omega
          case rel => exact ⟨2 + 1, by omega, by go_num, by rw [hb.out, strs_append, List.length_append]; exact HO7.out, hK7, hB7, hz7⟩
        · have hb := Lib.hid (HUP.out.trans (if_pos (by decide)))
          clear HUP
          go_wp2_with (at_builtin; refine wpList_append_sees rfl (.tmp 18) (.tmp 20) 27 rfl (w.heap.size + 1) 9 i0 (.string ⟨#[]⟩) 1 16 Try.underlying27 hi hz0 hz1 hz2 rfl (by decide) _ up.length (strs up) rfl HX.out _ _ 1 1 _ rfl HSX.out (strs_one _) (by unfold maxLen; omega) (by omega) (by simp; omega) ?_)
          intro v7 w7 hown7 hgr7
          have hK7 := HKX.out.grown hgr7 (fun e => by have := (HX.out.lt _ e.symm).1; omega)
          have hB7 := HBX.out.grown hgr7 (by simp; omega) (fun y hy => by have := (HX.out.lt y hy).1; omega)
          have hz7 : w.heap.size + 1 ≤ w7.heap.size := Nat.le_trans hsz (Nat.le_trans (by simp) hgr7.size)
          have HO7 := Lib.hid hown7
          clear hown7 hgr7
          go_wp2_with fail
          go_roundg g
          case measure => omega
          case rel => exact ⟨2 + 1, by omega, by go_num, by rw [hb.out, strs_append, List.length_append]; exact HO7.out, hK7, hB7, hz7⟩
        · have hb := Lib.hid (HUP.out.trans (if_pos (by decide)))
          clear HUP
          go_wp2_with (at_builtin; refine wpList_append_sees rfl (.tmp 18) (.tmp 20) 27 rfl (w.heap.size + 1) 9 i0 (.string ⟨#[]⟩) 1 16 Try.underlying27 hi hz0 hz1 hz2 rfl (by decide) _ up.length (strs up) rfl HX.out _ _ 1 1 _ rfl HSX.out (strs_one _) (by unfold maxLen; omega) (by omega) (by simp; omega) ?_)
          intro v7 w7 hown7 hgr7
          have hK7 := HKX.out.grown hgr7 (fun e => by have := (HX.out.lt _ e.symm).1; omega)
          have hB7 := HBX.out.grown hgr7 (by simp; omega) (fun y hy => by have := (HX.out.lt y hy).1; omega)
          have hz7 : w.heap.size + 1 ≤ w7.heap.size := Nat.le_trans hsz (Nat.le_trans (by simp) hgr7.size)
          have HO7 := Lib.hid hown7
          clear hown7 hgr7
          go_wp2_with fail
          go_roundg g
          case measure => omega
          case rel => exact ⟨2 + 1, by omega, by go_num, by rw [hb.out, strs_append, List.length_append]; exact HO7.out, hK7, hB7, hz7⟩
        · have hb := Lib.hid (HUP.out.trans (if_pos (by decide)))
          clear HUP
          go_wp2_with (at_builtin; refine wpList_append_sees rfl (.tmp 18) (.tmp 20) 27 rfl (w.heap.size + 1) 9 i0 (.string ⟨#[]⟩) 1 16 Try.underlying27 hi hz0 hz1 hz2 rfl (by decide) _ up.length (strs up) rfl HX.out _ _ 1 1 _ rfl HSX.out (strs_one _) (by unfold maxLen; omega) (by omega) (by simp; omega) ?_)
          intro v7 w7 hown7 hgr7
          have hK7 := HKX.out.grown hgr7 (fun e => by have := (HX.out.lt _ e.symm).1; omega)
          have hB7 := HBX.out.grown hgr7 (by simp; omega) (fun y hy => by have := (HX.out.lt y hy).1; omega)
          have hz7 : w.heap.size + 1 ≤ w7.heap.size := Nat.le_trans hsz (Nat.le_trans (by simp) hgr7.size)
          have HO7 := Lib.hid hown7
          clear hown7 hgr7
          go_wp2_with fail
          go_roundg g
          case measure => omega
          case rel => exact ⟨2 + 1, by omega, by go_num, by rw [hb.out, strs_append, List.length_append]; exact HO7.out, hK7, hB7, hz7⟩
end Go.Proofs.Ytjcbigkmmjcmdaa
