/- match.Exact; the first laws' closed sentence. -/
import Derived.Test.YtpeakblpmcfdnaaMatchPrint
namespace Go.Proofs.Ytpeakblpmcfdnaa
open Go.ChangeShapes Go.WideShapes Go.ChangeAt Go.RowKit
set_option linter.unusedVariables false
set_option maxRecDepth 100000
theorem Try.infoMatcher : (Try.prog.info? 23).map (fun i => (i.zero, i.size, i.bytes)) = some (some (.agg #[.string ⟨#[]⟩, .string ⟨#[]⟩, .int .i64 0]), 3, 40) := by kernel_rfl
/-- A matcher of each label. -/
def exactM (l : List Lbl) : List Mtc := l.map fun x => (x.1, x.2, (1 : Int))
theorem exactM_length (l : List Lbl) : (exactM l).length = l.length := by simp [exactM]
theorem exactM_snoc (l : List Lbl) (x : Lbl) : exactM (l ++ [x]) = exactM l ++ [(x.1, x.2, (1 : Int))] := by simp [exactM]
set_option maxHeartbeats 4000000 in
theorem exact_any (A0 : Option Addr) (n c B : Nat) (l : List Lbl) (w : World) (h : Sees w B 2 A0 n (lbls l)) (hB : B ≤ w.heap.size) (hn : n ≤ 100000) :
    Calls Try.prog 10 #[.slice A0 n c] w (OwnAns 23 3 (exactM l).length (mtcs (exactM l)) w) := by
  obtain ⟨i0, hi0, hz0, hz1, hz2⟩ := info_parts Try.infoMatcher
  have H := Lib.hid h
  have HL := Lib.hid h.lbl_len
  clear h
  go_enter Try.func10, Try.ntmps10
  go_wp2_with fail
  go_loopg [3, 8] n (fun g x3 x8 wr => ∃ (k : Nat) (A : Option Addr) (c2 : Nat), k + g = n ∧ x8 = .int .i64 k ∧ x3 = .slice A k c2 ∧ wr.ownsRow w.heap.size 23 3 (.slice A k c2) k (mtcs (exactM (l.take k))) ∧ Below w.heap.size w wr)
  case atStart => exact ⟨0, none, 0, by omega, rfl, rfl, World.ownsRow_nil _ _ _ _, Below.refl _ _⟩
  case round =>
    obtain ⟨k, A, c2, hkg, rfl, rfl, hown, hbel⟩ := hrel
    have HO := Lib.hid hown; have HB0 := Lib.hid hbel
    have hws := hbel.size
    clear hown hbel
    cases gk with
    | zero =>
      obtain rfl : k = n := by omega
      have HE := Lib.hid (show l.take k = l by rw [List.take_of_length_le (by rw [HL.out]; exact Nat.le_refl _)])
      have HXL := Lib.hid (show (exactM l).length = k by rw [exactM_length, HL.out])
      obtain ⟨A', c', h1, h2, h3⟩ := own_slice HO.out
      injection h1 with h1 h4 h5; subst h1; subst h5
      go_wp2_with fail
      go_ret
      exact ownAns (A := A) (c := c2) (by rw [HXL.out]; have h := HO.out; rwa [HE.out] at h) HB0.out (by rw [HXL.out]; rfl) (by rw [HXL.out]; exact h2) h3
    | succ g =>
      have hlt : k < n := by omega
      obtain ⟨ad, hkl, rfl, c0, c1⟩ := (H.out.below (HB0.out.mono hB)).lbl hlt
      have hal := World.block_lt_of_cell? wr _ c0
      have HTK := Lib.hid (List.take_succ_eq_append_getElem hkl)
      generalize l[k] = p at *
      obtain ⟨a, b⟩ := p
      simp only at c0 c1
      have HNX : Hid (exactM (l.take (k + 1)) = exactM (l.take k) ++ [(a, b, (1 : Int))]) := Lib.hid (by rw [HTK.out, exactM_snoc])
      obtain ⟨W, hW⟩ : ∃ W, wr.alloc (.cells #[.string a, .string b] 26) = W := ⟨_, rfl⟩
      have HKW : Hid (Blk W wr.heap.size 26 [.string a, .string b]) := Lib.hid (by rw [← hW]; exact Blk.mk (heap_alloc_new wr _))
      have HOW : Hid (W.ownsRow w.heap.size 23 3 (.slice A k c2) k (mtcs (exactM (l.take k)))) := Lib.hid (by rw [← hW]; exact HO.out.alloc _)
      have HBW : Hid (Below w.heap.size w W) := Lib.hid (by rw [← hW]; exact HB0.out.alloc hws _)
      have hWs := HBW.out.size
      go_upto_region 5 with fail
      try rw [hW]
      clear hW HO HB0 c0 c1 hal
      have c0 := HKW.out.cell 0
      have c1 := HKW.out.cell 1
      simp only [List.getElem?_cons_zero, List.getElem?_cons_succ] at c0 c1
      have HX := Lib.hid (show Sees (W.alloc (.cells #[.string a, .string b, .int .i64 1] 23)) (W.alloc (.cells #[.string a, .string b, .int .i64 1] 23)).heap.size 3 (some ⟨W.heap.size, 0, none⟩) 1 (mtcs [(a, b, (1 : Int))]) from (Blk.mk (heap_alloc_new W _) : Blk _ W.heap.size 23 [.string a, .string b, .int .i64 1]).sees rfl (List.prefix_refl _))
      have HOA := Lib.hid (HOW.out.alloc (.cells #[.string a, .string b, .int .i64 1] 23))
      have HBA := Lib.hid (HBW.out.alloc hWs (.cells #[.string a, .string b, .int .i64 1] 23))
      have HBX : Hid (∀ g, (Value.slice A k c2).ownBlock = some g → w.heap.size ≤ g) := Lib.hid (fun g hg => (HOW.out.lt g hg).1)
      clear HOW HBW HKW
      go_wp2_with (at_builtin; refine wpList_append_at rfl (.tmp 12) (.tmp 18) 24 rfl w.heap.size 23 i0 (.agg #[.string ⟨#[]⟩, .string ⟨#[]⟩, .int .i64 0]) 3 40 Try.underlying24 hi0 hz0 hz1 hz2 rfl (by decide) _ k (mtcs (exactM (l.take k))) rfl HOA.out _ _ 1 1 (mtcs [(a, b, (1 : Int))]) rfl HX.out (mtcs_one _) (by unfold maxLen; omega) (by omega) (by simp; omega) ?_)
      intro v3 w3 hown3 hgr3 hwh3
      obtain ⟨A3, c3, rfl, hc3, hc4⟩ := own_slice hown3
      rw [← mtcs_append, ← HNX.out] at hown3
      have HO3 := Lib.hid hown3
      have HB3 := Lib.hid (HBA.out.grown hgr3 (by simp; omega) HBX.out)
      clear hown3 hgr3 hwh3 HOA HX HBA HBX HNX
      go_wp2_with fail
      go_roundg g
      case measure => omega
      case rel => exact ⟨k + 1, A3, c3, by omega, by go_num, rfl, HO3.out, HB3.out⟩
end Go.Proofs.Ytpeakblpmcfdnaa
