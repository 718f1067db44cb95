/- Texts, merged in one. -/
import Derived.Test.YtlmakdclebbbkaaGreatBase2
import Derived.Test.YtlmakdclebbbkaaGreatBase4
import Derived.Test.YtlmakdclebbbkaaGreatBase
import Derived.WalkKit
import Derived.ProofKit
import Derived.ChangeArms
import Derived.Laws.CopyOwn
import Derived.Lib.Hide
import Derived.Test.YtlmakdclebbbkaaGreatRows
import Derived.Lib.SmallJoins
import Derived.Deep.CutBlock
namespace Go.Proofs.YtlmakdclebbbkaaGreat
open Go.ChangeShapes Go.WideShapes Go.ChangeAt Go.RowKit
set_option linter.unusedVariables false
set_option maxRecDepth 100000
def hasS (zs : List ByteArray) (x : ByteArray) : Bool := zs.any fun z => decide (z = x)
theorem hasS_iff {zs : List ByteArray} {x : ByteArray} : hasS zs x = true ↔ x ∈ zs := by
  simp [hasS]
theorem hasS_yes {zs : List ByteArray} {x : ByteArray} (h : x ∈ zs) : hasS zs x = true := hasS_iff.2 h
theorem hasS_no {zs : List ByteArray} {x : ByteArray} (h : x ∉ zs) : hasS zs x = false := by
  cases hq : hasS zs x with
  | false => rfl
  | true => exact absurd (hasS_iff.1 hq) h
theorem index_str (A : Option Addr) (n c B : Nat) (zs : List ByteArray) (x : ByteArray) (w : World) (h : Sees w B 1 A n (strs zs)) (hn : n ≤ 9223372036854775807) :
    Calls Tryz.prog 164 #[.slice A n c, .string x] w fun e w' => (∃ k : Int, e = .returned (.int .i64 k) ∧ (hasS zs x = decide (0 ≤ k))) ∧ w = w' := by
  have H := Lib.hid h
  have HL := Lib.hid h.str_len
  clear h
  go_enter Tryz.func164, Tryz.ntmps164
  go_wp2_with fail
  go_loop [8] (fun i => ∃ k : Nat, k ≤ n ∧ i = .int .i64 k ∧ x ∉ zs.take k) (fun i => n - (intOf i).toNat)
  case atStart => exact ⟨0, Nat.zero_le _, rfl, by simp⟩
  case round =>
    obtain ⟨k, hk, rfl, ht⟩ := hrel
    have HT := Lib.hid ht; clear ht
    by_cases hlt : k < n
    · obtain ⟨ad, hkl, rfl, hc⟩ := H.out.str hlt
      by_cases he : x = zs[k]
      · have HE := Lib.hid (show hasS zs x = decide (0 ≤ (k : Int)) by rw [hasS_yes (by rw [he]; exact List.getElem_mem _), decide_eq_true (by omega)])
        have t1 : (x.toList == (zs[k]).toList) = true := by rw [← he]; simp
        clear he
        go_wp2_with fail
        go_ret
        exact ⟨⟨k, rfl, HE.out⟩, rfl⟩
      · have t1 : (x.toList == (zs[k]).toList) = false := by rw [beq_eq_false_iff_ne]; exact fun h => he (ba_ext h)
        have HN := Lib.hid (show x ∉ zs.take (k + 1) by rw [List.take_succ_eq_append_getElem hkl]; simp only [List.mem_append, List.mem_singleton, not_or]; exact ⟨HT.out, he⟩)
        clear he
        go_wp2_with fail
        go_round
        case rel => exact ⟨k + 1, by omega, by go_num, HN.out⟩
        case measure => simp [intOf]; omega
    · obtain rfl : k = n := by omega
      have HE := Lib.hid (show hasS zs x = decide (0 ≤ (-1 : Int)) by
        have h := HT.out
        rw [List.take_of_length_le (by rw [HL.out]; exact Nat.le_refl _)] at h
        rw [hasS_no h]; rfl)
      go_wp2_with fail
      go_ret
      exact ⟨⟨-1, rfl, HE.out⟩, rfl⟩
theorem contains_str (A : Option Addr) (n c B : Nat) (zs : List ByteArray) (x : ByteArray) (w : World) (h : Sees w B 1 A n (strs zs)) (hn : n ≤ 9223372036854775807) :
    Calls Tryz.prog 137 #[.slice A n c, .string x] w fun e w' => e = .returned (.bool (hasS zs x)) ∧ w = w' := by
  have HI := Lib.hid (index_str A n c B zs x w h hn)
  clear h
  generalize hasS zs x = q at *
  go_enter Tryz.func137, Tryz.ntmps137
  go_wp2_with fail
  refine HI.out.mono ?_; rintro e w' ⟨⟨k, rfl, hq⟩, rfl⟩
  have HQ := Lib.hid hq
  clear hq
  go_wp2_with fail
  go_ret
  exact ⟨by rw [HQ.out]; rfl, rfl⟩
end Go.Proofs.YtlmakdclebbbkaaGreat

namespace Go.Proofs.YtlmakdclebbbkaaGreat
open Go.ChangeShapes Go.WideShapes Go.ChangeAt Go.RowKit
set_option linter.unusedVariables false
set_option maxRecDepth 100000
set_option maxHeartbeats 4000000 in
theorem keep_any (A0 AN : Option Addr) (n c nn cn B BN : Nat) (l : List (ByteArray × ByteArray)) (ns : List ByteArray) (w : World) (h : Sees w B 2 A0 n (lbls l)) (hB : B ≤ w.heap.size) (hn : n ≤ 100000) (hN : Sees w BN 1 AN nn (strs ns)) (hBN : BN ≤ w.heap.size) (hnn : nn ≤ 9223372036854775807) :
    Calls Tryz.prog 148 #[.slice A0 n c, .slice AN nn cn] w (OwnAns 25 2 (l.filter fun x => hasS ns x.1).length (lbls (l.filter fun x => hasS ns x.1)) w) := by
  obtain ⟨i0, hi0, hz0, hz1, hz2⟩ := info_parts Tryz.infoLabel
  have H := Lib.hid h
  have HL := Lib.hid h.lbl_len
  have HN := Lib.hid hN
  clear h hN
  obtain ⟨P, hP⟩ : ∃ P : ByteArray × ByteArray → Bool, (fun x => hasS ns x.1) = P := ⟨_, rfl⟩
  rw [hP]
  have HP := Lib.hid (fun x => congrFun hP x)
  clear hP
  go_enter Tryz.func148, Tryz.ntmps148
  go_wp2_with (at_make; refine wpList_make_own _ rfl _ _ 26 rfl w.heap.size 25 i0 (.agg #[.string ⟨#[]⟩, .string ⟨#[]⟩]) 2 Tryz.underlying26 hi0 hz0 hz1 _ _ _ n rfl rfl rfl (by rw [hz2]; omega) (by unfold maxLen; omega) (by simp) ?_)
  intro w2 hown2 hgr2
  have HO2 := Lib.hid hown2
  have HB2 := Lib.hid ((Below.refl w.heap.size w).grown hgr2 (by simp) (by simp))
  clear hown2 hgr2
  go_wp2_with fail
  go_loopg [13, 5] n (fun g x13 x5 wr => ∃ (k : Nat) (A : Option Addr) (m c2 : Nat), k + g = n ∧ x13 = .int .i64 k ∧ x5 = .slice A m c2 ∧ ((l.take k).filter P).length = m ∧ wr.ownsRow w.heap.size 25 2 (.slice A m c2) m (lbls ((l.take k).filter P)) ∧ Below w.heap.size w wr)
  case atStart => exact ⟨0, _, 0, n, by omega, rfl, rfl, rfl, HO2.out, HB2.out⟩
  case round =>
    obtain ⟨k, A, m, c2, hkg, rfl, rfl, hml, hown, hbel⟩ := hrel
    have HO := Lib.hid hown; have HB0 := Lib.hid hbel; have HML := Lib.hid hml
    have hws := hbel.size
    clear hown hbel hml HO2 HB2
    cases gk with
    | zero =>
      obtain rfl : k = n := by omega
      have HE := Lib.hid (show (l.take k).filter P = l.filter P by rw [List.take_of_length_le (by rw [HL.out]; exact Nat.le_refl _)])
      obtain ⟨A', c', h1, h2, h3⟩ := own_slice HO.out
      injection h1 with h1 h4 h5; subst h1; subst h5
      go_wp2_with fail
      go_ret
      exact ownAns (A := A) (c := c2) (by rw [← HE.out, HML.out]; exact HO.out) HB0.out (by rw [← HE.out, HML.out]; rfl) (by rw [← HE.out, HML.out]; exact h2) h3
    | succ g =>
      have hlt : k < n := by omega
      obtain ⟨ad, hkl, rfl, c0, c1⟩ := (H.out.below (HB0.out.mono hB)).lbl hlt
      have hal := World.block_lt_of_cell? wr _ c0
      have HTK := Lib.hid (List.take_succ_eq_append_getElem hkl)
      have HPX := Lib.hid (HP.out l[k])
      generalize l[k] = p at *
      obtain ⟨a, b⟩ := p
      simp only at c0 c1
      have HC := Lib.hid (fun W (hW : Sees W BN 1 AN nn (strs ns)) => contains_str AN nn cn BN ns a W hW hnn)
      obtain ⟨q, hq⟩ : ∃ q, hasS ns a = q := ⟨_, rfl⟩
      have HPX : Hid (P (a, b) = q) := Lib.hid (by rw [← HPX.out, ← hq])
      rw [hq] at HC
      clear hq
      cases q with
      | true =>
        go_wp2_with fail
        refine (HC.out _ (HN.out.below ((HB0.out.alloc hws (.cells #[.string a, .string b] 25)).mono hBN))).mono ?_; rintro e w' ⟨rfl, rfl⟩
        have HNX : Hid ((l.take (k + 1)).filter P = (l.take k).filter P ++ [(a, b)]) := Lib.hid (by rw [HTK.out, List.filter_append, List.filter_cons, if_pos (show P (a, b) = true from HPX.out)]; rfl)
        obtain ⟨W, hW⟩ : ∃ W, wr.alloc (.cells #[.string a, .string b] 25) = W := ⟨_, rfl⟩
        have HKW : Hid (Blk W wr.heap.size 25 [.string a, .string b]) := Lib.hid (by rw [← hW]; exact Blk.mk (heap_alloc_new wr _))
        have HOW : Hid (W.ownsRow w.heap.size 25 2 (.slice A m c2) m (lbls ((l.take k).filter P))) := Lib.hid (by rw [← hW]; exact HO.out.alloc _)
        have HBW : Hid (Below w.heap.size w W) := Lib.hid (by rw [← hW]; exact HB0.out.alloc hws _)
        have hWs := HBW.out.size
        go_upto_region 6 with fail
        try rw [hW]
        clear hW HO HB0
        have c0 := HKW.out.cell 0
        have c1 := HKW.out.cell 1
        simp only [List.getElem?_cons_zero, List.getElem?_cons_succ] at c0 c1
        have HX := Lib.hid (show Sees (W.alloc (.cells #[.string a, .string b] 25)) (W.alloc (.cells #[.string a, .string b] 25)).heap.size 2 (some ⟨W.heap.size, 0, none⟩) 1 (lbls [(a, b)]) from (Blk.mk (heap_alloc_new W _) : Blk _ W.heap.size 25 [.string a, .string b]).sees rfl (List.prefix_refl _))
        have HOA := Lib.hid (HOW.out.alloc (.cells #[.string a, .string b] 25))
        have HBA := Lib.hid (HBW.out.alloc hWs (.cells #[.string a, .string b] 25))
        have hbx : ∀ g, (Value.slice A m c2).ownBlock = some g → w.heap.size ≤ g := fun g hg => (HOW.out.lt g hg).1
        have HBX := Lib.hid hbx
        have hml : m ≤ 1000000 := by have h := HML.out; have h2 := List.length_filter_le P (l.take k); have h3 : (l.take k).length ≤ k := List.length_take_le _ _; omega
        clear HOW HBW HKW hbx
        go_wp2_with (at_builtin; refine wpList_append_at rfl (.tmp 21) (.tmp 23) 26 rfl w.heap.size 25 i0 (.agg #[.string ⟨#[]⟩, .string ⟨#[]⟩]) 2 32 Tryz.underlying26 hi0 hz0 hz1 hz2 rfl (by decide) _ m (lbls ((l.take k).filter P)) rfl HOA.out _ _ 1 1 (lbls [(a, b)]) rfl HX.out (lbls_one _) (by unfold maxLen; omega) (by omega) (by simp; omega) ?_)
        intro v3 w3 hown3 hgr3 hwh3
        obtain ⟨A3, c3, rfl, hc3, hc4⟩ := own_slice hown3
        rw [← lbls_append, ← HNX.out] at hown3
        have HO3 := Lib.hid hown3
        have HB3 := Lib.hid (HBA.out.grown hgr3 (by simp; omega) HBX.out)
        have HML3 : Hid (((l.take (k + 1)).filter P).length = m + 1) := Lib.hid (by rw [HNX.out, List.length_append, HML.out]; rfl)
        clear hown3 hgr3 hwh3 HOA HX HBA HBX HNX
        go_wp2_with fail
        go_roundg g
        case measure => omega
        case rel => exact ⟨k + 1, A3, m + 1, c3, by omega, by go_num, rfl, HML3.out, HO3.out, HB3.out⟩
      | false =>
        go_wp2_with fail
        refine (HC.out _ (HN.out.below ((HB0.out.alloc hws (.cells #[.string a, .string b] 25)).mono hBN))).mono ?_; rintro e w' ⟨rfl, rfl⟩
        have HNX : Hid ((l.take (k + 1)).filter P = (l.take k).filter P) := Lib.hid (by rw [HTK.out, List.filter_append, List.filter_cons, if_neg (by rw [HPX.out]; decide)]; simp)
        have HB3 := Lib.hid (HB0.out.alloc hws (.cells #[.string a, .string b] 25))
        have HO3 := Lib.hid (HO.out.alloc (.cells #[.string a, .string b] 25))
        clear HO HB0
        go_wp2_with fail
        go_roundg g
        case measure => omega
        case rel => exact ⟨k + 1, A, m, c2, by omega, by go_num, rfl, by rw [HNX.out]; exact HML.out, by rw [HNX.out]; exact HO3.out, HB3.out⟩
set_option maxHeartbeats 4000000 in
theorem drop_any (A0 AN : Option Addr) (n c nn cn B BN : Nat) (l : List (ByteArray × ByteArray)) (ns : List ByteArray) (w : World) (h : Sees w B 2 A0 n (lbls l)) (hB : B ≤ w.heap.size) (hn : n ≤ 100000) (hN : Sees w BN 1 AN nn (strs ns)) (hBN : BN ≤ w.heap.size) (hnn : nn ≤ 9223372036854775807) :
    Calls Tryz.prog 102 #[.slice A0 n c, .slice AN nn cn] w (OwnAns 25 2 (l.filter fun x => !hasS ns x.1).length (lbls (l.filter fun x => !hasS ns x.1)) w) := by
  obtain ⟨i0, hi0, hz0, hz1, hz2⟩ := info_parts Tryz.infoLabel
  have H := Lib.hid h
  have HL := Lib.hid h.lbl_len
  have HN := Lib.hid hN
  clear h hN
  obtain ⟨P, hP⟩ : ∃ P : ByteArray × ByteArray → Bool, (fun x => !hasS ns x.1) = P := ⟨_, rfl⟩
  rw [hP]
  have HP := Lib.hid (fun x => congrFun hP x)
  clear hP
  go_enter Tryz.func102, Tryz.ntmps102
  go_wp2_with (at_make; refine wpList_make_own _ rfl _ _ 26 rfl w.heap.size 25 i0 (.agg #[.string ⟨#[]⟩, .string ⟨#[]⟩]) 2 Tryz.underlying26 hi0 hz0 hz1 _ _ _ n rfl rfl rfl (by rw [hz2]; omega) (by unfold maxLen; omega) (by simp) ?_)
  intro w2 hown2 hgr2
  have HO2 := Lib.hid hown2
  have HB2 := Lib.hid ((Below.refl w.heap.size w).grown hgr2 (by simp) (by simp))
  clear hown2 hgr2
  go_wp2_with fail
  go_loopg [13, 5] n (fun g x13 x5 wr => ∃ (k : Nat) (A : Option Addr) (m c2 : Nat), k + g = n ∧ x13 = .int .i64 k ∧ x5 = .slice A m c2 ∧ ((l.take k).filter P).length = m ∧ wr.ownsRow w.heap.size 25 2 (.slice A m c2) m (lbls ((l.take k).filter P)) ∧ Below w.heap.size w wr)
  case atStart => exact ⟨0, _, 0, n, by omega, rfl, rfl, rfl, HO2.out, HB2.out⟩
  case round =>
    obtain ⟨k, A, m, c2, hkg, rfl, rfl, hml, hown, hbel⟩ := hrel
    have HO := Lib.hid hown; have HB0 := Lib.hid hbel; have HML := Lib.hid hml
    have hws := hbel.size
    clear hown hbel hml HO2 HB2
    cases gk with
    | zero =>
      obtain rfl : k = n := by omega
      have HE := Lib.hid (show (l.take k).filter P = l.filter P by rw [List.take_of_length_le (by rw [HL.out]; exact Nat.le_refl _)])
      obtain ⟨A', c', h1, h2, h3⟩ := own_slice HO.out
      injection h1 with h1 h4 h5; subst h1; subst h5
      go_wp2_with fail
      go_ret
      exact ownAns (A := A) (c := c2) (by rw [← HE.out, HML.out]; exact HO.out) HB0.out (by rw [← HE.out, HML.out]; rfl) (by rw [← HE.out, HML.out]; exact h2) h3
    | succ g =>
      have hlt : k < n := by omega
      obtain ⟨ad, hkl, rfl, c0, c1⟩ := (H.out.below (HB0.out.mono hB)).lbl hlt
      have hal := World.block_lt_of_cell? wr _ c0
      have HTK := Lib.hid (List.take_succ_eq_append_getElem hkl)
      have HPX := Lib.hid (HP.out l[k])
      generalize l[k] = p at *
      obtain ⟨a, b⟩ := p
      simp only at c0 c1
      have HC := Lib.hid (fun W (hW : Sees W BN 1 AN nn (strs ns)) => contains_str AN nn cn BN ns a W hW hnn)
      obtain ⟨q, hq⟩ : ∃ q, hasS ns a = q := ⟨_, rfl⟩
      have HPX : Hid (P (a, b) = !q) := Lib.hid (by rw [← HPX.out, ← hq])
      rw [hq] at HC
      clear hq
      cases q with
      | true =>
        go_wp2_with fail
        refine (HC.out _ (HN.out.below ((HB0.out.alloc hws (.cells #[.string a, .string b] 25)).mono hBN))).mono ?_; rintro e w' ⟨rfl, rfl⟩
        have HNX : Hid ((l.take (k + 1)).filter P = (l.take k).filter P) := Lib.hid (by rw [HTK.out, List.filter_append, List.filter_cons, if_neg (by rw [HPX.out]; decide)]; simp)
        have HB3 := Lib.hid (HB0.out.alloc hws (.cells #[.string a, .string b] 25))
        have HO3 := Lib.hid (HO.out.alloc (.cells #[.string a, .string b] 25))
        clear HO HB0
        go_wp2_with fail
        go_roundg g
        case measure => omega
        case rel => exact ⟨k + 1, A, m, c2, by omega, by go_num, rfl, by rw [HNX.out]; exact HML.out, by rw [HNX.out]; exact HO3.out, HB3.out⟩
      | false =>
        go_wp2_with fail
        refine (HC.out _ (HN.out.below ((HB0.out.alloc hws (.cells #[.string a, .string b] 25)).mono hBN))).mono ?_; rintro e w' ⟨rfl, rfl⟩
        have HNX : Hid ((l.take (k + 1)).filter P = (l.take k).filter P ++ [(a, b)]) := Lib.hid (by rw [HTK.out, List.filter_append, List.filter_cons, if_pos (show P (a, b) = true from HPX.out)]; rfl)
        obtain ⟨W, hW⟩ : ∃ W, wr.alloc (.cells #[.string a, .string b] 25) = W := ⟨_, rfl⟩
        have HKW : Hid (Blk W wr.heap.size 25 [.string a, .string b]) := Lib.hid (by rw [← hW]; exact Blk.mk (heap_alloc_new wr _))
        have HOW : Hid (W.ownsRow w.heap.size 25 2 (.slice A m c2) m (lbls ((l.take k).filter P))) := Lib.hid (by rw [← hW]; exact HO.out.alloc _)
        have HBW : Hid (Below w.heap.size w W) := Lib.hid (by rw [← hW]; exact HB0.out.alloc hws _)
        have hWs := HBW.out.size
        go_upto_region 6 with fail
        try rw [hW]
        clear hW HO HB0
        have c0 := HKW.out.cell 0
        have c1 := HKW.out.cell 1
        simp only [List.getElem?_cons_zero, List.getElem?_cons_succ] at c0 c1
        have HX := Lib.hid (show Sees (W.alloc (.cells #[.string a, .string b] 25)) (W.alloc (.cells #[.string a, .string b] 25)).heap.size 2 (some ⟨W.heap.size, 0, none⟩) 1 (lbls [(a, b)]) from (Blk.mk (heap_alloc_new W _) : Blk _ W.heap.size 25 [.string a, .string b]).sees rfl (List.prefix_refl _))
        have HOA := Lib.hid (HOW.out.alloc (.cells #[.string a, .string b] 25))
        have HBA := Lib.hid (HBW.out.alloc hWs (.cells #[.string a, .string b] 25))
        have hbx : ∀ g, (Value.slice A m c2).ownBlock = some g → w.heap.size ≤ g := fun g hg => (HOW.out.lt g hg).1
        have HBX := Lib.hid hbx
        have hml : m ≤ 1000000 := by have h := HML.out; have h2 := List.length_filter_le P (l.take k); have h3 : (l.take k).length ≤ k := List.length_take_le _ _; omega
        clear HOW HBW HKW hbx
        go_wp2_with (at_builtin; refine wpList_append_at rfl (.tmp 22) (.tmp 24) 26 rfl w.heap.size 25 i0 (.agg #[.string ⟨#[]⟩, .string ⟨#[]⟩]) 2 32 Tryz.underlying26 hi0 hz0 hz1 hz2 rfl (by decide) _ m (lbls ((l.take k).filter P)) rfl HOA.out _ _ 1 1 (lbls [(a, b)]) rfl HX.out (lbls_one _) (by unfold maxLen; omega) (by omega) (by simp; omega) ?_)
        intro v3 w3 hown3 hgr3 hwh3
        obtain ⟨A3, c3, rfl, hc3, hc4⟩ := own_slice hown3
        rw [← lbls_append, ← HNX.out] at hown3
        have HO3 := Lib.hid hown3
        have HB3 := Lib.hid (HBA.out.grown hgr3 (by simp; omega) HBX.out)
        have HML3 : Hid (((l.take (k + 1)).filter P).length = m + 1) := Lib.hid (by rw [HNX.out, List.length_append, HML.out]; rfl)
        clear hown3 hgr3 hwh3 HOA HX HBA HBX HNX
        go_wp2_with fail
        go_roundg g
        case measure => omega
        case rel => exact ⟨k + 1, A3, m + 1, c3, by omega, by go_num, rfl, HML3.out, HO3.out, HB3.out⟩
end Go.Proofs.YtlmakdclebbbkaaGreat

namespace Go.Proofs.YtlmakdclebbbkaaGreat
open Go.ChangeShapes Go.WideShapes Go.ChangeAt Go.RowKit
set_option linter.unusedVariables false
set_option maxRecDepth 100000
theorem run_copy_n {P : Program} (w : World) (dT sT ty elem : TypeId) (sz : Nat) (g o dLen dCap : Nat) (a : Addr) (sLen sCap : Nat) (cur : Array Value) (t : TypeId) (cs : List Value)
    (hu : P.underlying dT = some (.slice elem)) (hs : (P.info? elem).map (·.size) = some sz)
    (hg : w.heap[g]? = some (.cells cur t (0, 0))) (hn : cs.length = Nat.min sLen dLen * sz)
    (hsrc : ∀ j v, cs[j]? = some v → w.cell? (a.add j) = some v) (hfit : o + cs.length ≤ cur.size) (h1 : ∀ v ∈ cs, v.oneCell' = true) :
    (Builtin.copy_ #[dT, sT] ty #[.slice (some ⟨g, o, none⟩) dLen dCap, .slice (some a) sLen sCap]).run P w =
      .ok (goInt (Nat.min sLen dLen)) (w.setRow g (cur.toList.take o ++ cs ++ cur.toList.drop (o + cs.length)).toArray) := by
  have hl := run_loadCells_list (P := P) w a cs hsrc
  have hst := run_storeCells_at P g o t cs 0 cur w hg (by simpa using hfit) h1
  cases hq : P.info? elem with
  | none => simp [hq] at hs
  | some i =>
    have hi : i.size = sz := by simpa [hq] using hs
    simp [Builtin.copy_, run_underlying hu, Builtin.lenOf, Builtin.firstCells, sizeOf, typeInfo, hq, hi, ← hn, hl, hst]
end Go.Proofs.YtlmakdclebbbkaaGreat

namespace Go.Proofs.YtlmakdclebbbkaaGreat
open Go.ChangeShapes Go.WideShapes Go.ChangeAt Go.RowKit
set_option linter.unusedVariables false
def nWithin (n lo hi : Int) : Int := lo + n % (hi - lo + 1)
theorem nWithin_in (n : Int) {lo hi : Int} (h : lo ≤ hi) : lo ≤ nWithin n lo hi ∧ nWithin n lo hi ≤ hi := by
  unfold nWithin
  have h1 := Int.emod_nonneg n (show hi - lo + 1 ≠ 0 by omega)
  have h2 := Int.emod_lt_of_pos n (show 0 < hi - lo + 1 by omega)
  omega
theorem tmod_parts {n d : Int} (hd : 0 < d) : (n.tmod d = n % d ∨ n.tmod d = n % d - d ∧ 0 < n % d) ∧ 0 ≤ n % d ∧ n % d < d := by
  have h1 : n.tmod d = n % d - _ := Int.tmod_eq_emod
  have h2 := Int.emod_nonneg n (show d ≠ 0 by omega)
  have h3 := Int.emod_lt_of_pos n hd
  refine ⟨?_, h2, h3⟩
  split at h1
  · exact .inl (by simpa using h1)
  · rename_i hc
    refine .inr ⟨by omega, ?_⟩
    have : n % d ≠ 0 := fun h => hc (.inr (Int.dvd_of_emod_eq_zero h))
    omega
theorem tmod_neg {n d : Int} (hd : 0 < d) (h : n.tmod d < 0) : n % d = n.tmod d + d := by
  have := tmod_parts (n := n) hd; omega
theorem tmod_pos {n d : Int} (hd : 0 < d) (h : ¬ n.tmod d < 0) : n % d = n.tmod d := by
  have := tmod_parts (n := n) hd; omega
theorem within_any (n lo hi : Int) (w : World) (wn : I64 n) (h1 : -4611686018427387904 ≤ lo) (h2 : lo ≤ hi) (h3 : hi ≤ 4611686018427387000) :
    Calls Tryz.prog 17 #[.int .i64 n, .int .i64 lo, .int .i64 hi] w fun e w' => e = .returned (.int .i64 (nWithin n lo hi)) ∧ w = w' := by
  have hd : 0 < hi - lo + 1 := by omega
  have hz : ¬ hi - lo + 1 = 0 := by omega
  have hb : -(hi - lo + 1) < n.tmod (hi - lo + 1) ∧ n.tmod (hi - lo + 1) < hi - lo + 1 := by
    have := tmod_parts (n := n) hd
    omega
  by_cases hm : n.tmod (hi - lo + 1) < 0
  · have HW := Lib.hid (show lo + (n.tmod (hi - lo + 1) + hi - lo + 1) = nWithin n lo hi by unfold nWithin; rw [tmod_neg hd hm]; omega)
    clear wn
    go_enter Tryz.func17, Tryz.ntmps17
    go_wp2
    go_ret
    exact ⟨ret_int HW.out, rfl⟩
  · have HW := Lib.hid (show lo + n.tmod (hi - lo + 1) = nWithin n lo hi by unfold nWithin; rw [tmod_pos hd hm])
    clear wn
    go_enter Tryz.func17, Tryz.ntmps17
    go_wp2
    go_ret
    exact ⟨ret_int HW.out, rfl⟩
end Go.Proofs.YtlmakdclebbbkaaGreat

namespace Go.Proofs.YtlmakdclebbbkaaGreat
open Go.ChangeShapes Go.WideShapes Go.ChangeAt Go.RowKit Go.Deep
set_option linter.unusedVariables false
def keepNames : List ByteArray := [⟨#[97]⟩, ⟨#[98]⟩, ⟨#[99]⟩, ⟨#[110, 97, 109, 101]⟩]
def keepValues : List ByteArray := [⟨#[120]⟩, ⟨#[121]⟩, ⟨#[120, 121]⟩, ⟨#[49]⟩, ⟨#[34]⟩, ⟨#[92]⟩, ⟨#[123, 125]⟩, ⟨#[122, 32, 122]⟩]
def pickF (l : List Int) (i : Nat) : Int := if h : 0 < l.length then l[i % l.length]'(Nat.mod_lt _ h) else 0
structure KSet where
  A : Option Addr
  n : Nat
  c : Nat
  has : List Int
  A2 : Option Addr
  n2 : Nat
  c2 : Nat
  vals : List Int
def KSet.val (k : KSet) : Value := .agg #[.slice k.A k.n k.c, .slice k.A2 k.n2 k.c2]
structure KSet.ok (k : KSet) (B : Nat) (w : World) : Prop where
  has_ : Sees w B 1 k.A k.n (ints k.has)
  hasI : ∀ z ∈ k.has, I64 z
  n_ : k.n ≤ k.c ∧ k.c ≤ 9223372036854775807
  vals_ : Sees w B 1 k.A2 k.n2 (ints k.vals)
  valsI : ∀ z ∈ k.vals, I64 z
  n2_ : k.n2 ≤ k.c2 ∧ k.c2 ≤ 9223372036854775807
theorem KSet.ok.below {k : KSet} {B : Nat} {w w' : World} (h : k.ok B w) (hb : Below B w w') : k.ok B w' := ⟨h.has_.below hb, h.hasI, h.n_, h.vals_.below hb, h.valsI, h.n2_⟩
section
variable {P : Program} {w : World} {base b0 : Nat} {spare : Nat → Bool} {held : Bool} {H : Type} {enc : TypeId × Value → H}
theorem arg_ints_cs {t e : TypeId} {fuel : Nat} {v : Value} {x : DataW H × List MemPlace} (ht : P.underlying t = some (.slice e)) (he : P.underlying e = some (.int .i64)) (hc : P.cellsOf e = 1)
    (h : DataW.trod enc P w base spare held fuel t [v] = some x) :
    ∃ (a0 : Option Addr) (len cap : Nat) (zs : List Int), v = .slice a0 len cap ∧ Sees w w.heap.size 1 a0 len (ints zs) ∧ len ≤ cap ∧ cap ≤ 9223372036854775807 ∧ ∀ z ∈ zs, I64 z := by
  have key : ∀ a0 len cap, v = .slice a0 len cap → ∃ zs : List Int, Sees w w.heap.size 1 a0 len (ints zs) ∧ len ≤ cap ∧ cap ≤ 9223372036854775807 ∧ ∀ z ∈ zs, I64 z := by
    intro a0 len cap hv
    subst hv
    obtain ⟨zs, h1, h2, h3, h4⟩ := arg_ints ht he hc (a0 := a0) (len := len) (cap := cap) (by simpa [Value.cells] using h)
    exact ⟨zs, h1, h2, h3, fun z hz => wf_of (h4 z hz)⟩
  rcases open_ints ht he hc h with ⟨hcs, _⟩ | ⟨x, l, c, zs, hcs, _⟩
  · simp only [List.cons.injEq, and_true] at hcs
    obtain ⟨zs, hz⟩ := key _ _ _ hcs
    exact ⟨_, _, _, zs, hcs, hz⟩
  · simp only [List.cons.injEq, and_true] at hcs
    obtain ⟨zs, hz⟩ := key _ _ _ hcs
    exact ⟨_, _, _, zs, hcs, hz⟩
theorem arg_set {r : Reach} {t te : TypeId} {f0 f1 : Field} {v : Value} {d : DataW H} {p : List MemPlace} (hs : P.underlying t = some (.struct #[f0, f1])) (hone : oneCellFields P #[f0, f1] = true) (hC : P.cellsOf t = 2)
    (u0 : P.underlying f0.type = some (.slice te)) (u1 : P.underlying f1.type = some (.slice te)) (he : P.underlying te = some (.int .i64)) (ce : P.cellsOf te = 1)
    (hv : Value.okWide P w r b0 t v) (h : DataW.Trod enc P w base spare held t v d p) : ∃ k : KSet, v = k.val ∧ k.ok w.heap.size w := by
  obtain ⟨c0, c1, y0, y1, m, rfl, _, _, h0, h1⟩ := Go.Joins.open_agg2 hs hone hC hv h
  obtain ⟨a0, n0, cp0, z0, rfl, s0, l0, m0, i0⟩ := arg_ints_cs u0 he ce h0
  obtain ⟨a1, n1, cp1, z1, rfl, s1, l1, m1, i1⟩ := arg_ints_cs u1 he ce h1
  exact ⟨⟨a0, n0, cp0, z0, a1, n1, cp1, z1⟩, rfl, ⟨s0, i0, ⟨l0, m0⟩, s1, i1, ⟨l1, m1⟩⟩⟩
end
end Go.Proofs.YtlmakdclebbbkaaGreat

namespace Go.Proofs.YtlmakdclebbbkaaGreat
open Go.ChangeShapes Go.WideShapes Go.ChangeAt Go.RowKit
set_option linter.unusedVariables false
set_option maxRecDepth 100000
theorem names_any (w : World) : Calls Tryz.prog 76 #[] w fun e w' => e = .returned (.slice (some ⟨w.heap.size, 0, none⟩) 4 4) ∧ w.alloc (.cells (strs keepNames).toArray 9) = w' := by
  go_enter Tryz.func76, Tryz.ntmps76
  go_wp2_with fail
  go_ret
  exact ⟨rfl, rfl⟩
theorem values_any (w : World) : Calls Tryz.prog 75 #[] w fun e w' => e = .returned (.slice (some ⟨w.heap.size, 0, none⟩) 8 8) ∧ w.alloc (.cells (strs keepValues).toArray 9) = w' := by
  go_enter Tryz.func75, Tryz.ntmps75
  go_wp2_with fail
  go_ret
  exact ⟨rfl, rfl⟩
theorem pick_any (A : Option Addr) (n c B : Nat) (l : List Int) (i : Nat) (w : World) (h : Sees w B 1 A n (ints l)) (hn : n ≤ 9223372036854775807) (hi : i ≤ 9223372036854775807) :
    Calls Tryz.prog 77 #[.slice A n c, .int .i64 i] w fun e w' => e = .returned (.int .i64 (pickF l i)) ∧ w = w' := by
  have hl := h.int_len
  by_cases h0 : 0 < n
  · have hm := Nat.mod_lt i h0
    obtain ⟨ad, hkl, rfl, hc⟩ := h.int hm
    have hp : pickF l i = l[i % n] := by rw [pickF, dif_pos (by omega)]; simp only [hl]
    have HP := Lib.hid hp
    have z1 : ¬ (n : Int) = 0 := by omega
    have z2 : ((n : Int) == 0) = false := by rw [beq_eq_false_iff_ne]; omega
    have z3 : (i : Int).tmod n = ((i % n : Nat) : Int) := rfl
    generalize l[i % n] = x at *
    generalize i % n = k at *
    clear hp h hl h0
    go_enter Tryz.func77, Tryz.ntmps77
    go_wp2_with fail
    go_ret
    exact ⟨ret_int HP.out.symm, rfl⟩
  · obtain rfl : n = 0 := by omega
    have hp : pickF l i = 0 := by rw [pickF, dif_neg (by omega)]
    have HP := Lib.hid hp
    clear hp h hl h0
    go_enter Tryz.func77, Tryz.ntmps77
    go_wp2_with fail
    go_ret
    exact ⟨ret_int HP.out.symm, rfl⟩
end Go.Proofs.YtlmakdclebbbkaaGreat
