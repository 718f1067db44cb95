/- slices.Equal, slices.Clone at labels (gen_lbl.py). -/
import Derived.Test.YtfcjalojgmpnoaaBase
import Derived.Test.YtfcjalojgmpnoaaKept
import Derived.Test.YtfcjalojgmpnoaaKeep
import Derived.WalkSpells
namespace Go.Proofs.Ytfcjalojgmpnoaa
open Go.ChangeShapes Go.WideShapes Go.ChangeAt Go.RowKit
set_option linter.unusedVariables false
set_option maxRecDepth 100000
theorem equal_lbl (A A2 : Option Addr) (n c n2 c2 B B2 : Nat) (zs ys : List (ByteArray × ByteArray)) (w : World) (h : Sees w B 2 A n (lbls zs)) (h2 : Sees w B2 2 A2 n2 (lbls ys)) (hn : n ≤ 9223372036854775807) (hn2 : n2 ≤ 9223372036854775807) :
    Calls Try.prog 20 #[.slice A n c, .slice A2 n2 c2] w fun e w' => e = .returned (.bool (decide (zs = ys))) ∧ ∃ m, w' = w.drewN m := by
  have H := Lib.hid h; clear h
  have H2 := Lib.hid h2; clear h2
  have HL := Lib.hid H.out.lbl_len
  have HL2 := Lib.hid H2.out.lbl_len
  by_cases hnn : n = n2
  · subst hnn
    go_enter Try.func20, Try.ntmps20
    go_wp2
    go_loopw [13] (fun i wr => ∃ k m : Nat, k ≤ n ∧ i = .int .i64 k ∧ wr = w.drewN m ∧ zs.take k = ys.take k) (fun i _ => n - (intOf i).toNat)
    case atStart => exact ⟨0, 0, Nat.zero_le _, rfl, rfl, rfl⟩
    case round =>
      obtain ⟨k, m, hk, rfl, rfl, ht⟩ := hrel
      have HT := Lib.hid ht; clear ht
      by_cases hlt : k < n
      · obtain ⟨ad, hkl, rfl, hc, hd⟩ := H.out.lbl hlt
        obtain ⟨ad2, hkl2, rfl, hc2, hd2⟩ := H2.out.lbl hlt
        have hq := Lib.hid (take_eq_snoc_l hkl hkl2 HT.out)
        have hne : Hid (zs[k] ≠ ys[k] → zs ≠ ys) := fun h e => h (by subst e; rfl)
        generalize zs[k] = x at *
        generalize ys[k] = y at *
        obtain ⟨x1, x2⟩ := x
        obtain ⟨y1, y2⟩ := y
        simp only at hc hd hc2 hd2
        by_cases hxy : x1 = y1 ∧ x2 = y2
        · obtain ⟨rfl, rfl⟩ := hxy
          have he1 : (x1.toList == x1.toList) = true := by simp
          have he2 : (x2.toList == x2.toList) = true := by simp
          go_wp2
          go_quiet (fail)
          go_wp2
          go_roundw
          case rel => exact ⟨k + 1, _, by omega, by go_num, rfl, hq.out (by simp)⟩
          case measure => simp [intOf]; omega
        · have hz := Lib.hid (hne.out (fun h => hxy (by injection h with h1 h2; exact ⟨h1, h2⟩)))
          by_cases h1 : x1 = y1
          · subst h1
            have he1 : (x1.toList == x1.toList) = true := by simp
            have he2 : (x2.toList == y2.toList) = false := by rw [beq_eq_false_iff_ne]; exact fun h => hxy ⟨rfl, ba_ext h⟩
            clear hxy
            go_wp2
            go_quiet (fail)
            go_wp2
            go_ret
            exact ⟨ret_bool (decide_eq_false hz.out).symm, _, World.drewN_drewN _ _ _⟩
          · have he1 : (x1.toList == y1.toList) = false := by rw [beq_eq_false_iff_ne]; exact fun h => h1 (ba_ext h)
            clear hxy h1
            go_wp2
            go_quiet (fail)
            go_wp2
            go_ret
            exact ⟨ret_bool (decide_eq_false hz.out).symm, _, World.drewN_drewN _ _ _⟩
      · obtain rfl : k = n := by omega
        have he : zs = ys := by
          have := HT.out; rwa [List.take_of_length_le (by rw [HL.out]; omega), List.take_of_length_le (by rw [HL2.out]; omega)] at this
        have HE := Lib.hid (decide_eq_true he); clear he
        go_wp2
        go_ret
        exact ⟨ret_bool HE.out.symm, m, rfl⟩
  · have hz : zs ≠ ys := fun e => hnn (by rw [← HL.out, ← HL2.out, e])
    have hb : ((n : Int) == n2) = false := beq_eq_false_iff_ne.2 (by omega)
    have HE := Lib.hid (decide_eq_false hz); clear hz
    go_enter Try.func20, Try.ntmps20
    go_wp2
    go_ret
    exact ⟨ret_bool HE.out.symm, 0, rfl⟩
/-- slices.Clone at labels. -/
theorem clone_lbl (A : Option Addr) (n c B : Nat) (zs : List (ByteArray × ByteArray)) (w : World) (h : Sees w B 2 A n (lbls zs)) (hB : B ≤ w.heap.size) (hn : n ≤ 1000000) :
    Calls Try.prog 22 #[.slice A n c] w (OwnAns 23 2 n (lbls zs) w) := by
  have HL := Lib.hid h.lbl_len
  have H := Lib.hid h; clear h
  obtain ⟨i0, hi, hz0, hz1, hz2⟩ := info_parts Try.infoLabel
  have hnil := fun w => Lib.run_eql_slice_nil (P := Try.prog) w 24 23 A n c 0 0 Try.underlying24
  cases A with
  | none =>
    have hn0 : n = 0 := by
      rcases Nat.eq_zero_or_pos n with h | h
      · exact h
      · obtain ⟨ad, h, _⟩ := H.out.at_ h; cases h
    subst hn0
    have hl0 : zs = [] := List.eq_nil_of_length_eq_zero HL.out
    subst hl0
    have hr := Lib.hid (show w.ownsRow w.heap.size 23 2 (.slice none 0 0) 0 (lbls []) by simpa [lbls] using World.ownsRow_nil w w.heap.size 23 2)
    go_enter Try.func22, Try.ntmps22
    go_wp2_with fail
    go_ret
    exact ownAns hr.out (Below.refl _ _) rfl (Nat.le_refl _) (by omega)
  | some ad =>
    have hown0 : (w.alloc (.cells #[] 23)).ownsRow w.heap.size 23 2 (.slice (some ⟨w.heap.size, 0, none⟩) 0 0) 0 [] := World.ownsRow_made w #[] 0 (Nat.le_refl _) (by unfold maxLen; omega) rfl
    have HO := Lib.hid hown0; clear hown0
    have HS := Lib.hid (H.out.below (((Below.refl B w).alloc hB (.cells #[] 23)))); clear H
    go_enter Try.func22, Try.ntmps22
    go_wp2_with (at_builtin; refine wpList_append_sees rfl (.tmp 5) (.tmp 6) 24 rfl w.heap.size 23 i0 (.agg #[.string ⟨#[]⟩, .string ⟨#[]⟩]) 2 32 Try.underlying24 hi hz0 hz1 hz2 rfl (by decide) _ 0 [] rfl HO.out B (some ad) n _ (lbls zs) rfl HS.out (lbls_one _) (by unfold maxLen; omega) (by omega) (by simp) ?_)
    intro v' w1 hown hg
    have hb := ((Below.refl w.heap.size w).alloc (Nat.le_refl _) _).grown hg (by simp) (by simp [Value.ownBlock])
    try simp only [Nat.zero_add, List.nil_append] at hown
    obtain ⟨A2, c2, rfl, hc3, hc4⟩ := own_slice hown
    have H1 := Lib.hid hown; have H2 := Lib.hid hb; clear hown hb hg
    go_wp2_with fail
    go_ret
    exact ownAns H1.out H2.out rfl hc3 hc4
end Go.Proofs.Ytfcjalojgmpnoaa
