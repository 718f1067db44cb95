/- lset.With where the label comes behind all others. -/
import Derived.Test.YtjpjpcockhmbeaaDrop
namespace Go.Proofs.Ytjpjpcockhmbeaa
open Go.ChangeShapes Go.WideShapes Go.ChangeAt Go.RowKit
set_option linter.unusedVariables false
set_option maxRecDepth 100000
set_option maxHeartbeats 2000000 in
theorem insert_end (A X : Option Addr) (n c B base : Nat) (l : List (ByteArray × ByteArray)) (x : ByteArray × ByteArray) (w : World) (h : w.ownsRow base 25 2 (.slice A n c) n (lbls l)) (hx : Sees w B 2 X 1 (lbls [x])) (hn : n ≤ 1000000) (hb : base ≤ w.heap.size) :
    Calls Try.prog 36 #[.slice A n c, .int .i64 n, .slice X 1 1] w (AppAns base 25 2 (n + 1) (lbls (l ++ [x])) (.slice A n c) w) := by
  obtain ⟨i0, hi0, hz0, hz1, hz2⟩ := info_parts Try.infoLabel
  have HO := Lib.hid h; have HX := Lib.hid hx
  obtain ⟨A', c', h1, hnc, hcm⟩ := own_slice h
  injection h1 with h1 h4 h5; subst h1; subst h5
  clear h hx h4
  go_enter Try.func36, Try.ntmps36
  obtain ⟨Y, hY⟩ : ∃ Y, (if c = n then A else A.map (·.add (n * 2))) = Y := ⟨_, rfl⟩
  go_wp2_with (at_builtin; refine wpList_append_at rfl (.tmp 23) (.tmp 24) 22 rfl base 25 i0 (.agg #[.string ⟨#[]⟩, .string ⟨#[]⟩]) 2 32 Try.underlying22 hi0 hz0 hz1 hz2 rfl (by decide) (.slice A n c) n (lbls l) rfl HO.out B X 1 1 (lbls [x]) rfl HX.out (lbls_one _) (by unfold maxLen; omega) (by omega) hb ?_)
  intro v3 w3 hown3 hgr3 hwh3
  obtain ⟨A3, c3, rfl, hc3, hc4⟩ := own_slice hown3
  rw [← lbls_append] at hown3
  have HO3 := Lib.hid hown3; have HG3 := Lib.hid hgr3; have HW3 := Lib.hid hwh3
  clear hown3 hgr3 hwh3
  go_wp2_with fail
  go_ret
  exact appAns HO3.out HG3.out HW3.out rfl
/-- A set with a label behind all that were kept. -/
def withEnd (l : List (ByteArray × ByteArray)) (name value : ByteArray) : List (ByteArray × ByteArray) := (l.filter fun x => !hasS [name] x.1) ++ [(name, value)]
set_option maxHeartbeats 2000000 in
theorem with_end (A0 : Option Addr) (n c B : Nat) (l : List (ByteArray × ByteArray)) (name value : ByteArray) (w : World) (h : Sees w B 2 A0 n (lbls l)) (hB : B ≤ w.heap.size) (hn : n ≤ 100000) (hv : value.toList ≠ [])
    (hlt : ∀ x ∈ l.filter (fun x => !hasS [name] x.1), Op.bytesLess x.1.toList name.toList = true) :
    Calls Try.prog 28 #[.slice A0 n c, .string name, .string value] w (OwnAns 25 2 (withEnd l name value).length (lbls (withEnd l name value)) w) := by
  have H := Lib.hid h
  have HL := Lib.hid h.lbl_len
  have hv1 : value.toList.isEmpty = false := by cases hq : value.toList with | nil => exact absurd hq hv | cons => rfl
  have hv2 : (!value.toList.isEmpty) = true := by rw [hv1]; rfl
  have hv3 : (value.toList == []) = false := by rw [beq_eq_false_iff_ne]; exact hv
  have HLT := Lib.hid hlt
  obtain ⟨kept, hk⟩ : ∃ kept, l.filter (fun x => !hasS [name] x.1) = kept := ⟨_, rfl⟩
  have HW : Hid (withEnd l name value = kept ++ [(name, value)]) := Lib.hid (by rw [withEnd, hk])
  have hkl : kept.length ≤ n := by rw [← hk, ← HL.out]; exact List.length_filter_le _ _
  rw [hk] at HLT
  have HK := Lib.hid hk
  clear h hv hlt hk
  have HD := Lib.hid (fun W (X : Option Addr) (hW : Sees W B 2 A0 n (lbls l)) (hBW : B ≤ W.heap.size) (hX : Sees W W.heap.size 1 X 1 (strs [name])) => drop_any A0 X n c 1 1 B W.heap.size l [name] W hW hBW hn hX (Nat.le_refl _) (by omega))
  rw [HK.out] at HD
  go_enter Try.func28, Try.ntmps28
  go_wp2_with fail
  refine (HD.out _ _ (H.out.alloc hB _) (by simp; omega) ((Blk.mk (heap_alloc_new w _) : Blk _ w.heap.size 9 [.string name]).sees rfl (List.prefix_refl _))).mono ?_
  rintro e w1 ⟨A1, c1, rfl, hown1, hb1, hc1, hc2⟩
  have hs1 := hb1.size
  have HB1 := Lib.hid (((Below.refl w.heap.size w).alloc (Nat.le_refl _) (.cells #[.string name] 9)).trans (hb1.mono (by simp)))
  have HO1 := Lib.hid (own_mono hown1 (base' := w.heap.size) (by simp))
  have hs2 : w.heap.size ≤ w1.heap.size := HB1.out.size
  clear hown1 hb1 HD H hs1
  have HKL := Lib.hid (Eq.refl kept.length)
  obtain ⟨m, hm⟩ : ∃ m, kept.length = m := ⟨_, rfl⟩
  rw [hm] at HO1 hc1 hkl ⊢
  have HM := Lib.hid hm
  clear hm HKL
  have HS1 := Lib.hid (Sees.of_own HO1.out)
  go_wp2_with fail
  go_loop [8] (fun x => ∃ k : Nat, k ≤ m ∧ x = .int .i64 k) (fun x => m - (intOf x).toNat)
  case atStart => exact ⟨0, Nat.zero_le _, rfl⟩
  case round =>
    obtain ⟨k, hk, rfl⟩ := hrel
    by_cases hlt : k < m
    · obtain ⟨ad, hkl2, rfl, d0, d1⟩ := HS1.out.lbl hlt
      have hl := HLT.out kept[k] (List.getElem_mem _)
      have z1 : (k : Int) < m := by omega
      go_wp2_with fail
      go_round
      case rel => exact ⟨k + 1, by omega, by go_num⟩
      case measure => simp [intOf]; omega
    · obtain rfl : k = m := by omega
      have z1 : ¬ (k : Int) < k := by omega
      have HX := Lib.hid (show Sees (w1.alloc (.cells #[.string name, .string value] 25)) (w1.alloc (.cells #[.string name, .string value] 25)).heap.size 2 (some ⟨w1.heap.size, 0, none⟩) 1 (lbls [(name, value)]) from (Blk.mk (heap_alloc_new w1 _) : Blk _ w1.heap.size 25 [.string name, .string value]).sees rfl (List.prefix_refl _))
      have HOA := Lib.hid (HO1.out.alloc (.cells #[.string name, .string value] 25))
      have HBA := Lib.hid (HB1.out.alloc hs2 (.cells #[.string name, .string value] 25))
      have hbx : ∀ g, (Value.slice A1 k c1).ownBlock = some g → w.heap.size ≤ g := fun g hg => (HO1.out.lt g hg).1
      have HBX := Lib.hid hbx
      clear hbx HO1 HB1 HS1 HLT
      go_wp2_with fail
      refine (insert_end A1 _ k c1 _ w.heap.size kept (name, value) _ HOA.out HX.out (by omega) (by simp; omega)).mono ?_
      rintro e w3 ⟨A3, c3, rfl, hown3, hgr3, hwh3, hc3, hc4⟩
      have HO3 := Lib.hid hown3
      have HB3 := Lib.hid (HBA.out.grown hgr3 (by simp; omega) HBX.out)
      have HL3 := Lib.hid (show (withEnd l name value).length = k + 1 by rw [HW.out, List.length_append, HM.out]; rfl)
      clear hown3 hgr3 hwh3 HOA HBA HX HBX
      go_wp2_with fail
      go_ret
      exact ownAns (by rw [HL3.out, HW.out]; exact HO3.out) HB3.out (by rw [HL3.out]; rfl) (by rw [HL3.out]; exact hc3) hc4
end Go.Proofs.Ytjpjpcockhmbeaa
