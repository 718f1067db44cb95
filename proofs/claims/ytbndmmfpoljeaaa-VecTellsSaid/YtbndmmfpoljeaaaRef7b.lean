/- klaxonref7: bare, key, find, twice; klaxonlaw9.result. -/
import Derived.Test.YtbndmmfpoljeaaaRef7
import Derived.Test.YtbndmmfpoljeaaaRefSet
import Derived.Test.YtbndmmfpoljeaaaVecMath
namespace Go.Proofs.Ytbndmmfpoljeaaa
open Go.ChangeShapes Go.WideShapes Go.ChangeAt Go.RowKit
set_option linter.unusedVariables false
set_option linter.unusedSimpArgs false
set_option maxRecDepth 100000
set_option maxHeartbeats 4000000 in
theorem bare_r (A0 : Option Addr) (n c B : Nat) (l : List (ByteArray × ByteArray)) (w : World) (h : Sees w B 2 A0 n (lbls l)) (hB : B ≤ w.heap.size) (hn : n ≤ 100000) :
    Calls Try.prog 45 #[.slice A0 n c] w (OwnAns 53 2 (bareL l).length (lbls (bareL l)) w) := by
  obtain ⟨i0, hi0, hz0, hz1, hz2⟩ := info_parts Try.infoLabel
  have H := Lib.hid h
  have HL := Lib.hid h.lbl_len
  clear h
  obtain ⟨P, hP⟩ : ∃ P : ByteArray × ByteArray → Bool, (fun x => decide (x.1 ≠ nameB)) = P := ⟨_, rfl⟩
  have hbl : ∀ l, bareL l = l.filter P := fun l => by unfold bareL; rw [← hP]; exact List.filter_congr fun x _ => by rw [hasS_one]; simp; exact eq_comm
  rw [hbl]
  have HP := Lib.hid (fun x => congrFun hP x)
  clear hP hbl
  go_enter Try.func45, Try.ntmps45
  go_wp2_with fail
  go_loopg [8, 3] n (fun g x8 x3 wr => ∃ (k : Nat) (A : Option Addr) (m c2 : Nat), k + g = n ∧ x8 = .int .i64 k ∧ x3 = .slice A m c2 ∧ ((l.take k).filter P).length = m ∧ wr.ownsRow w.heap.size 53 2 (.slice A m c2) m (lbls ((l.take k).filter P)) ∧ Below w.heap.size w wr)
  case atStart => exact ⟨0, none, 0, 0, by omega, rfl, rfl, rfl, World.ownsRow_nil w _ _ _, Below.refl _ _⟩
  case round =>
    obtain ⟨k, A, m, c2, hkg, rfl, rfl, hml, hown, hbel⟩ := hrel
    have HO := Lib.hid hown; have HB0 := Lib.hid hbel; have HML := Lib.hid hml
    have hws := hbel.size
    clear hown hbel hml
    cases gk with
    | zero =>
      obtain rfl : k = n := by omega
      have HE := Lib.hid (show (l.take k).filter P = l.filter P by rw [List.take_of_length_le (by rw [HL.out]; exact Nat.le_refl _)])
      obtain ⟨A', c', h1, h2, h3⟩ := own_slice HO.out
      injection h1 with h1 h4 h5; subst h1; subst h5
      go_wp2_with fail
      go_ret
      exact ownAns (A := A) (c := c2) (by rw [← HE.out, HML.out]; exact HO.out) HB0.out (by rw [← HE.out, HML.out]; rfl) (by rw [← HE.out, HML.out]; exact h2) h3
    | succ g =>
      have hlt : k < n := by omega
      obtain ⟨ad, hkl, rfl, c0, c1⟩ := (H.out.below (HB0.out.mono hB)).lbl hlt
      have hal := World.block_lt_of_cell? wr _ c0
      have HTK := Lib.hid (List.take_succ_eq_append_getElem hkl)
      have HPX := Lib.hid (HP.out l[k])
      generalize l[k] = p at *
      obtain ⟨a, b⟩ := p
      simp only at c0 c1
      by_cases hne : a = ⟨#[110, 97, 109, 101]⟩
      · have HPX : Hid (P (a, b) = false) := Lib.hid (by rw [← HPX.out, hne]; exact decide_eq_false (fun h => h rfl))
        have HNX : Hid ((l.take (k + 1)).filter P = (l.take k).filter P) := Lib.hid (by rw [HTK.out, List.filter_append, List.filter_cons, if_neg (by rw [HPX.out]; decide)]; simp)
        have HB3 := Lib.hid (HB0.out.alloc hws (.cells #[.string a, .string b] 53))
        have HO3 := Lib.hid (HO.out.alloc (.cells #[.string a, .string b] 53))
        clear HO HB0 HPX
        subst hne
        go_wp2_with fail
        go_roundg g
        case measure => omega
        case rel => exact ⟨k + 1, A, m, c2, by omega, by go_num, rfl, by rw [HNX.out]; exact HML.out, by rw [HNX.out]; exact HO3.out, HB3.out⟩
      · have HPX : Hid (P (a, b) = true) := Lib.hid (by rw [← HPX.out]; exact decide_eq_true hne)
        have hnb : (a.toList == [110, 97, 109, 101]) = false := by rw [beq_eq_false_iff_ne]; exact fun h => hne (ba_ext (h.trans (by rw [ByteArray.toList_eq])))
        go_upto_region 6 with fail
        have HNX : Hid ((l.take (k + 1)).filter P = (l.take k).filter P ++ [(a, b)]) := Lib.hid (by rw [HTK.out, List.filter_append, List.filter_cons, if_pos (show P (a, b) = true from HPX.out)]; rfl)
        obtain ⟨W, hW⟩ : ∃ W, wr.alloc (.cells #[.string a, .string b] 53) = W := ⟨_, rfl⟩
        have HKW : Hid (Blk W wr.heap.size 53 [.string a, .string b]) := Lib.hid (by rw [← hW]; exact Blk.mk (heap_alloc_new wr _))
        have HOW : Hid (W.ownsRow w.heap.size 53 2 (.slice A m c2) m (lbls ((l.take k).filter P))) := Lib.hid (by rw [← hW]; exact HO.out.alloc _)
        have HBW : Hid (Below w.heap.size w W) := Lib.hid (by rw [← hW]; exact HB0.out.alloc hws _)
        have hWs := HBW.out.size
        try rw [hW]
        clear hW HO HB0 hne
        have c0 := HKW.out.cell 0
        have c1 := HKW.out.cell 1
        simp only [List.getElem?_cons_zero, List.getElem?_cons_succ] at c0 c1
        have HX := Lib.hid (show Sees (W.alloc (.cells #[.string a, .string b] 53)) (W.alloc (.cells #[.string a, .string b] 53)).heap.size 2 (some ⟨W.heap.size, 0, none⟩) 1 (lbls [(a, b)]) from (Blk.mk (heap_alloc_new W _) : Blk _ W.heap.size 53 [.string a, .string b]).sees rfl (List.prefix_refl _))
        have HOA := Lib.hid (HOW.out.alloc (.cells #[.string a, .string b] 53))
        have HBA := Lib.hid (HBW.out.alloc hWs (.cells #[.string a, .string b] 53))
        have hbx : ∀ g, (Value.slice A m c2).ownBlock = some g → w.heap.size ≤ g := fun g hg => (HOW.out.lt g hg).1
        have HBX := Lib.hid hbx
        have hml : m ≤ 1000000 := by have h := HML.out; have h2 := List.length_filter_le P (l.take k); have h3 : (l.take k).length ≤ k := List.length_take_le _ _; omega
        clear HOW HBW HKW hbx
        go_wp2_with (at_builtin; refine wpList_append_at rfl (.tmp 15) (.tmp 17) 26 rfl w.heap.size 53 i0 (.agg #[.string ⟨#[]⟩, .string ⟨#[]⟩]) 2 32 Try.underlying26 hi0 hz0 hz1 hz2 rfl (by decide) _ m (lbls ((l.take k).filter P)) rfl HOA.out _ _ 1 1 (lbls [(a, b)]) rfl HX.out (lbls_one _) (by unfold maxLen; omega) (by omega) (by simp; omega) ?_)
        intro v3 w3 hown3 hgr3 hwh3
        obtain ⟨A3, c3, rfl, hc3, hc4⟩ := own_slice hown3
        rw [← lbls_append, ← HNX.out] at hown3
        have HO3 := Lib.hid hown3
        have HB3 := Lib.hid (HBA.out.grown hgr3 (by simp; omega) HBX.out)
        have HML3 : Hid (((l.take (k + 1)).filter P).length = m + 1) := Lib.hid (by rw [HNX.out, List.length_append, HML.out]; rfl)
        clear hown3 hgr3 hwh3 HOA HX HBA HBX HNX
        go_wp2_with fail
        go_roundg g
        case measure => omega
        case rel => exact ⟨k + 1, A3, m + 1, c3, by omega, by go_num, rfl, HML3.out, HO3.out, HB3.out⟩
theorem key_r {W : World} {v : Value} {l : List Lbl} (h : HasL W v l) (hl : l.length ≤ 1000) (hr : ∀ x ∈ l, x.1.size ≤ 9223372036854775807) : Calls Try.prog 47 #[v] W fun e w' => e = .returned (.string ⟨(keyT l).toArray⟩) ∧ Below W.heap.size W w' := by
  obtain ⟨A, c, rfl, hs, h3, h4⟩ := h
  have HC := Lib.hid (bare_r A _ c W.heap.size l W hs (Nat.le_refl _) (by omega))
  have HR := Lib.hid hr
  have HBL := Lib.hid (bare_len l)
  have HLL := Lib.hid hl
  generalize l.length = n at *
  clear hs hr hl
  go_enter Try.func47, Try.ntmps47
  go_wp2_with fail
  refine HC.out.mono ?_; rintro e w1 ⟨A2, c2, rfl, hown, hb, hc2, hc3⟩
  have HO := Lib.hid hown; have HB := Lib.hid hb
  clear hown hb HC
  go_wp2_with fail
  (with_reducible refine (rprint_any A2 (bareL l).length c2 (bareL l) w1.heap.size w1 ((Sees.of_own HO.out).more (Nat.le_refl _)) (Nat.le_refl _) (by have := HBL.out; have := HLL.out; omega) (fun x hx => HR.out x (List.mem_filter.1 hx).1)).mono ?_); rintro e w2 ⟨rfl, hb⟩
  have HB2 := Lib.hid (HB.out.trans (hb.mono HB.out.size))
  clear hb
  go_wp2_with fail
  go_ret
  exact ⟨rfl, HB2.out⟩
theorem result_any (A : Option Addr) (n c : Nat) (w : World) : Calls Try.prog 17 #[.slice A n c] w fun e w' => e = .returned (.agg #[.int .i64 2, .int .i64 0, .slice A n c]) ∧ Below w.heap.size w w' := by
  have HB := Lib.hid ((Below.refl w.heap.size w).alloc (Nat.le_refl _) (.cells #[.int .i64 0, .int .i64 0, .slice none 0 0] 41))
  have HB2 := Lib.hid ((Below.refl w.heap.size w).alloc (Nat.le_refl _) (.cells #[.int .i64 2, .int .i64 0, .slice A n c] 41))
  have HQ := Lib.hid (Blk.mk (heap_alloc_new w (.cells #[.int .i64 2, .int .i64 0, .slice A n c] 41)) : Blk _ w.heap.size 41 [.int .i64 2, .int .i64 0, .slice A n c])
  go_enter Try.func17, Try.ntmps17
  go_wp2_with fail
  have q0 := HQ.out.cell 0
  have q1 := HQ.out.cell 1
  have q2 := HQ.out.cell 2
  simp only [List.getElem?_cons_zero, List.getElem?_cons_succ] at q0 q1 q2
  refine bodyPost_ret (v := .agg #[.int .i64 2, .int .i64 0, .slice A n c]) (by simp [results, Try.results17, go_sem, q0, q1, q2]) rfl ⟨rfl, HB2.out⟩
end Go.Proofs.Ytbndmmfpoljeaaa
