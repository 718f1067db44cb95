/- lset.Keep, lset.Drop. -/
import Derived.Test.YtjpjpcockhmbeaaKeep
namespace Go.Proofs.Ytjpjpcockhmbeaa
open Go.ChangeShapes Go.WideShapes Go.ChangeAt Go.RowKit
set_option linter.unusedVariables false
set_option maxRecDepth 100000
set_option maxHeartbeats 4000000 in
theorem keep_any (A0 AN : Option Addr) (n c nn cn B BN : Nat) (l : List (ByteArray × ByteArray)) (ns : List ByteArray) (w : World) (h : Sees w B 2 A0 n (lbls l)) (hB : B ≤ w.heap.size) (hn : n ≤ 100000) (hN : Sees w BN 1 AN nn (strs ns)) (hBN : BN ≤ w.heap.size) (hnn : nn ≤ 9223372036854775807) :
    Calls Try.prog 12 #[.slice A0 n c, .slice AN nn cn] w (OwnAns 25 2 (l.filter fun x => hasS ns x.1).length (lbls (l.filter fun x => hasS ns x.1)) w) := by
  obtain ⟨i0, hi0, hz0, hz1, hz2⟩ := info_parts Try.infoLabel
  have H := Lib.hid h
  have HL := Lib.hid h.lbl_len
  have HN := Lib.hid hN
  clear h hN
  obtain ⟨P, hP⟩ : ∃ P : ByteArray × ByteArray → Bool, (fun x => hasS ns x.1) = P := ⟨_, rfl⟩
  rw [hP]
  have HP := Lib.hid (fun x => congrFun hP x)
  clear hP
  go_enter Try.func12, Try.ntmps12
  go_wp2_with (at_make; refine wpList_make_own _ rfl _ _ 22 rfl w.heap.size 25 i0 (.agg #[.string ⟨#[]⟩, .string ⟨#[]⟩]) 2 Try.underlying22 hi0 hz0 hz1 _ _ _ n rfl rfl rfl (by rw [hz2]; omega) (by unfold maxLen; omega) (by simp) ?_)
  intro w2 hown2 hgr2
  have HO2 := Lib.hid hown2
  have HB2 := Lib.hid ((Below.refl w.heap.size w).grown hgr2 (by simp) (by simp))
  clear hown2 hgr2
  go_wp2_with fail
  go_loopg [13, 5] n (fun g x13 x5 wr => ∃ (k : Nat) (A : Option Addr) (m c2 : Nat), k + g = n ∧ x13 = .int .i64 k ∧ x5 = .slice A m c2 ∧ ((l.take k).filter P).length = m ∧ wr.ownsRow w.heap.size 25 2 (.slice A m c2) m (lbls ((l.take k).filter P)) ∧ Below w.heap.size w wr)
  case atStart => exact ⟨0, _, 0, n, by omega, rfl, rfl, rfl, HO2.out, HB2.out⟩
  case round =>
    obtain ⟨k, A, m, c2, hkg, rfl, rfl, hml, hown, hbel⟩ := hrel
    have HO := Lib.hid hown; have HB0 := Lib.hid hbel; have HML := Lib.hid hml
    have hws := hbel.size
    clear hown hbel hml HO2 HB2
    cases gk with
    | zero =>
      obtain rfl : k = n := by omega
      have HE := Lib.hid (show (l.take k).filter P = l.filter P by rw [List.take_of_length_le (by rw [HL.out]; exact Nat.le_refl _)])
      obtain ⟨A', c', h1, h2, h3⟩ := own_slice HO.out
      injection h1 with h1 h4 h5; subst h1; subst h5
      go_wp2_with fail
      go_ret
      exact ownAns (A := A) (c := c2) (by rw [← HE.out, HML.out]; exact HO.out) HB0.out (by rw [← HE.out, HML.out]; rfl) (by rw [← HE.out, HML.out]; exact h2) h3
    | succ g =>
      have hlt : k < n := by omega
      obtain ⟨ad, hkl, rfl, c0, c1⟩ := (H.out.below (HB0.out.mono hB)).lbl hlt
      have hal := World.block_lt_of_cell? wr _ c0
      have HTK := Lib.hid (List.take_succ_eq_append_getElem hkl)
      have HPX := Lib.hid (HP.out l[k])
      generalize l[k] = p at *
      obtain ⟨a, b⟩ := p
      simp only at c0 c1
      have HC := Lib.hid (fun W (hW : Sees W BN 1 AN nn (strs ns)) => contains_str AN nn cn BN ns a W hW hnn)
      obtain ⟨q, hq⟩ : ∃ q, hasS ns a = q := ⟨_, rfl⟩
      have HPX : Hid (P (a, b) = q) := Lib.hid (by rw [← HPX.out, ← hq])
      rw [hq] at HC
      clear hq
      cases q with
      | true =>
        go_wp2_with fail
        refine (HC.out _ (HN.out.below ((HB0.out.alloc hws (.cells #[.string a, .string b] 25)).mono hBN))).mono ?_; rintro e w' ⟨rfl, rfl⟩
        have HNX : Hid ((l.take (k + 1)).filter P = (l.take k).filter P ++ [(a, b)]) := Lib.hid (by rw [HTK.out, List.filter_append, List.filter_cons, if_pos (show P (a, b) = true from HPX.out)]; rfl)
        obtain ⟨W, hW⟩ : ∃ W, wr.alloc (.cells #[.string a, .string b] 25) = W := ⟨_, rfl⟩
        have HKW : Hid (Blk W wr.heap.size 25 [.string a, .string b]) := Lib.hid (by rw [← hW]; exact Blk.mk (heap_alloc_new wr _))
        have HOW : Hid (W.ownsRow w.heap.size 25 2 (.slice A m c2) m (lbls ((l.take k).filter P))) := Lib.hid (by rw [← hW]; exact HO.out.alloc _)
        have HBW : Hid (Below w.heap.size w W) := Lib.hid (by rw [← hW]; exact HB0.out.alloc hws _)
        have hWs := HBW.out.size
        go_upto_region 6 with fail
        try rw [hW]
        clear hW HO HB0
        have c0 := HKW.out.cell 0
        have c1 := HKW.out.cell 1
        simp only [List.getElem?_cons_zero, List.getElem?_cons_succ] at c0 c1
        have HX := Lib.hid (show Sees (W.alloc (.cells #[.string a, .string b] 25)) (W.alloc (.cells #[.string a, .string b] 25)).heap.size 2 (some ⟨W.heap.size, 0, none⟩) 1 (lbls [(a, b)]) from (Blk.mk (heap_alloc_new W _) : Blk _ W.heap.size 25 [.string a, .string b]).sees rfl (List.prefix_refl _))
        have HOA := Lib.hid (HOW.out.alloc (.cells #[.string a, .string b] 25))
        have HBA := Lib.hid (HBW.out.alloc hWs (.cells #[.string a, .string b] 25))
        have hbx : ∀ g, (Value.slice A m c2).ownBlock = some g → w.heap.size ≤ g := fun g hg => (HOW.out.lt g hg).1
        have HBX := Lib.hid hbx
        have hml : m ≤ 1000000 := by have h := HML.out; have h2 := List.length_filter_le P (l.take k); have h3 : (l.take k).length ≤ k := List.length_take_le _ _; omega
        clear HOW HBW HKW hbx
        go_wp2_with (at_builtin; refine wpList_append_at rfl (.tmp 21) (.tmp 23) 22 rfl w.heap.size 25 i0 (.agg #[.string ⟨#[]⟩, .string ⟨#[]⟩]) 2 32 Try.underlying22 hi0 hz0 hz1 hz2 rfl (by decide) _ m (lbls ((l.take k).filter P)) rfl HOA.out _ _ 1 1 (lbls [(a, b)]) rfl HX.out (lbls_one _) (by unfold maxLen; omega) (by omega) (by simp; omega) ?_)
        intro v3 w3 hown3 hgr3 hwh3
        obtain ⟨A3, c3, rfl, hc3, hc4⟩ := own_slice hown3
        rw [← lbls_append, ← HNX.out] at hown3
        have HO3 := Lib.hid hown3
        have HB3 := Lib.hid (HBA.out.grown hgr3 (by simp; omega) HBX.out)
        have HML3 : Hid (((l.take (k + 1)).filter P).length = m + 1) := Lib.hid (by rw [HNX.out, List.length_append, HML.out]; rfl)
        clear hown3 hgr3 hwh3 HOA HX HBA HBX HNX
        go_wp2_with fail
        go_roundg g
        case measure => omega
        case rel => exact ⟨k + 1, A3, m + 1, c3, by omega, by go_num, rfl, HML3.out, HO3.out, HB3.out⟩
      | false =>
        go_wp2_with fail
        refine (HC.out _ (HN.out.below ((HB0.out.alloc hws (.cells #[.string a, .string b] 25)).mono hBN))).mono ?_; rintro e w' ⟨rfl, rfl⟩
        have HNX : Hid ((l.take (k + 1)).filter P = (l.take k).filter P) := Lib.hid (by rw [HTK.out, List.filter_append, List.filter_cons, if_neg (by rw [HPX.out]; decide)]; simp)
        have HB3 := Lib.hid (HB0.out.alloc hws (.cells #[.string a, .string b] 25))
        have HO3 := Lib.hid (HO.out.alloc (.cells #[.string a, .string b] 25))
        clear HO HB0
        go_wp2_with fail
        go_roundg g
        case measure => omega
        case rel => exact ⟨k + 1, A, m, c2, by omega, by go_num, rfl, by rw [HNX.out]; exact HML.out, by rw [HNX.out]; exact HO3.out, HB3.out⟩
set_option maxHeartbeats 4000000 in
theorem drop_any (A0 AN : Option Addr) (n c nn cn B BN : Nat) (l : List (ByteArray × ByteArray)) (ns : List ByteArray) (w : World) (h : Sees w B 2 A0 n (lbls l)) (hB : B ≤ w.heap.size) (hn : n ≤ 100000) (hN : Sees w BN 1 AN nn (strs ns)) (hBN : BN ≤ w.heap.size) (hnn : nn ≤ 9223372036854775807) :
    Calls Try.prog 13 #[.slice A0 n c, .slice AN nn cn] w (OwnAns 25 2 (l.filter fun x => !hasS ns x.1).length (lbls (l.filter fun x => !hasS ns x.1)) w) := by
  obtain ⟨i0, hi0, hz0, hz1, hz2⟩ := info_parts Try.infoLabel
  have H := Lib.hid h
  have HL := Lib.hid h.lbl_len
  have HN := Lib.hid hN
  clear h hN
  obtain ⟨P, hP⟩ : ∃ P : ByteArray × ByteArray → Bool, (fun x => !hasS ns x.1) = P := ⟨_, rfl⟩
  rw [hP]
  have HP := Lib.hid (fun x => congrFun hP x)
  clear hP
  go_enter Try.func13, Try.ntmps13
  go_wp2_with (at_make; refine wpList_make_own _ rfl _ _ 22 rfl w.heap.size 25 i0 (.agg #[.string ⟨#[]⟩, .string ⟨#[]⟩]) 2 Try.underlying22 hi0 hz0 hz1 _ _ _ n rfl rfl rfl (by rw [hz2]; omega) (by unfold maxLen; omega) (by simp) ?_)
  intro w2 hown2 hgr2
  have HO2 := Lib.hid hown2
  have HB2 := Lib.hid ((Below.refl w.heap.size w).grown hgr2 (by simp) (by simp))
  clear hown2 hgr2
  go_wp2_with fail
  go_loopg [13, 5] n (fun g x13 x5 wr => ∃ (k : Nat) (A : Option Addr) (m c2 : Nat), k + g = n ∧ x13 = .int .i64 k ∧ x5 = .slice A m c2 ∧ ((l.take k).filter P).length = m ∧ wr.ownsRow w.heap.size 25 2 (.slice A m c2) m (lbls ((l.take k).filter P)) ∧ Below w.heap.size w wr)
  case atStart => exact ⟨0, _, 0, n, by omega, rfl, rfl, rfl, HO2.out, HB2.out⟩
  case round =>
    obtain ⟨k, A, m, c2, hkg, rfl, rfl, hml, hown, hbel⟩ := hrel
    have HO := Lib.hid hown; have HB0 := Lib.hid hbel; have HML := Lib.hid hml
    have hws := hbel.size
    clear hown hbel hml HO2 HB2
    cases gk with
    | zero =>
      obtain rfl : k = n := by omega
      have HE := Lib.hid (show (l.take k).filter P = l.filter P by rw [List.take_of_length_le (by rw [HL.out]; exact Nat.le_refl _)])
      obtain ⟨A', c', h1, h2, h3⟩ := own_slice HO.out
      injection h1 with h1 h4 h5; subst h1; subst h5
      go_wp2_with fail
      go_ret
      exact ownAns (A := A) (c := c2) (by rw [← HE.out, HML.out]; exact HO.out) HB0.out (by rw [← HE.out, HML.out]; rfl) (by rw [← HE.out, HML.out]; exact h2) h3
    | succ g =>
      have hlt : k < n := by omega
      obtain ⟨ad, hkl, rfl, c0, c1⟩ := (H.out.below (HB0.out.mono hB)).lbl hlt
      have hal := World.block_lt_of_cell? wr _ c0
      have HTK := Lib.hid (List.take_succ_eq_append_getElem hkl)
      have HPX := Lib.hid (HP.out l[k])
      generalize l[k] = p at *
      obtain ⟨a, b⟩ := p
      simp only at c0 c1
      have HC := Lib.hid (fun W (hW : Sees W BN 1 AN nn (strs ns)) => contains_str AN nn cn BN ns a W hW hnn)
      obtain ⟨q, hq⟩ : ∃ q, hasS ns a = q := ⟨_, rfl⟩
      have HPX : Hid (P (a, b) = !q) := Lib.hid (by rw [← HPX.out, ← hq])
      rw [hq] at HC
      clear hq
      cases q with
      | true =>
        go_wp2_with fail
        refine (HC.out _ (HN.out.below ((HB0.out.alloc hws (.cells #[.string a, .string b] 25)).mono hBN))).mono ?_; rintro e w' ⟨rfl, rfl⟩
        have HNX : Hid ((l.take (k + 1)).filter P = (l.take k).filter P) := Lib.hid (by rw [HTK.out, List.filter_append, List.filter_cons, if_neg (by rw [HPX.out]; decide)]; simp)
        have HB3 := Lib.hid (HB0.out.alloc hws (.cells #[.string a, .string b] 25))
        have HO3 := Lib.hid (HO.out.alloc (.cells #[.string a, .string b] 25))
        clear HO HB0
        go_wp2_with fail
        go_roundg g
        case measure => omega
        case rel => exact ⟨k + 1, A, m, c2, by omega, by go_num, rfl, by rw [HNX.out]; exact HML.out, by rw [HNX.out]; exact HO3.out, HB3.out⟩
      | false =>
        go_wp2_with fail
        refine (HC.out _ (HN.out.below ((HB0.out.alloc hws (.cells #[.string a, .string b] 25)).mono hBN))).mono ?_; rintro e w' ⟨rfl, rfl⟩
        have HNX : Hid ((l.take (k + 1)).filter P = (l.take k).filter P ++ [(a, b)]) := Lib.hid (by rw [HTK.out, List.filter_append, List.filter_cons, if_pos (show P (a, b) = true from HPX.out)]; rfl)
        obtain ⟨W, hW⟩ : ∃ W, wr.alloc (.cells #[.string a, .string b] 25) = W := ⟨_, rfl⟩
        have HKW : Hid (Blk W wr.heap.size 25 [.string a, .string b]) := Lib.hid (by rw [← hW]; exact Blk.mk (heap_alloc_new wr _))
        have HOW : Hid (W.ownsRow w.heap.size 25 2 (.slice A m c2) m (lbls ((l.take k).filter P))) := Lib.hid (by rw [← hW]; exact HO.out.alloc _)
        have HBW : Hid (Below w.heap.size w W) := Lib.hid (by rw [← hW]; exact HB0.out.alloc hws _)
        have hWs := HBW.out.size
        go_upto_region 6 with fail
        try rw [hW]
        clear hW HO HB0
        have c0 := HKW.out.cell 0
        have c1 := HKW.out.cell 1
        simp only [List.getElem?_cons_zero, List.getElem?_cons_succ] at c0 c1
        have HX := Lib.hid (show Sees (W.alloc (.cells #[.string a, .string b] 25)) (W.alloc (.cells #[.string a, .string b] 25)).heap.size 2 (some ⟨W.heap.size, 0, none⟩) 1 (lbls [(a, b)]) from (Blk.mk (heap_alloc_new W _) : Blk _ W.heap.size 25 [.string a, .string b]).sees rfl (List.prefix_refl _))
        have HOA := Lib.hid (HOW.out.alloc (.cells #[.string a, .string b] 25))
        have HBA := Lib.hid (HBW.out.alloc hWs (.cells #[.string a, .string b] 25))
        have hbx : ∀ g, (Value.slice A m c2).ownBlock = some g → w.heap.size ≤ g := fun g hg => (HOW.out.lt g hg).1
        have HBX := Lib.hid hbx
        have hml : m ≤ 1000000 := by have h := HML.out; have h2 := List.length_filter_le P (l.take k); have h3 : (l.take k).length ≤ k := List.length_take_le _ _; omega
        clear HOW HBW HKW hbx
        go_wp2_with (at_builtin; refine wpList_append_at rfl (.tmp 22) (.tmp 24) 22 rfl w.heap.size 25 i0 (.agg #[.string ⟨#[]⟩, .string ⟨#[]⟩]) 2 32 Try.underlying22 hi0 hz0 hz1 hz2 rfl (by decide) _ m (lbls ((l.take k).filter P)) rfl HOA.out _ _ 1 1 (lbls [(a, b)]) rfl HX.out (lbls_one _) (by unfold maxLen; omega) (by omega) (by simp; omega) ?_)
        intro v3 w3 hown3 hgr3 hwh3
        obtain ⟨A3, c3, rfl, hc3, hc4⟩ := own_slice hown3
        rw [← lbls_append, ← HNX.out] at hown3
        have HO3 := Lib.hid hown3
        have HB3 := Lib.hid (HBA.out.grown hgr3 (by simp; omega) HBX.out)
        have HML3 : Hid (((l.take (k + 1)).filter P).length = m + 1) := Lib.hid (by rw [HNX.out, List.length_append, HML.out]; rfl)
        clear hown3 hgr3 hwh3 HOA HX HBA HBX HNX
        go_wp2_with fail
        go_roundg g
        case measure => omega
        case rel => exact ⟨k + 1, A3, m + 1, c3, by omega, by go_num, rfl, HML3.out, HO3.out, HB3.out⟩
end Go.Proofs.Ytjpjpcockhmbeaa
