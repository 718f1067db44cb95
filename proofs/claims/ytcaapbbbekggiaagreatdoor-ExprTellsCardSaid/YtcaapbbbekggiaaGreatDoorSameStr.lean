/- Slices of texts: klaxonbook.Same, klaxonref17.same, slices.Equal, slices.Clone (gen_str.py). -/
import Derived.Test.YtcaapbbbekggiaaGreatDoorBase
import Derived.Test.YtcaapbbbekggiaaGreatDoorRows
import Derived.WalkSpells
import Derived.Deep.QuietTactic
import Derived.BigQuiet
namespace Go.Proofs.YtcaapbbbekggiaaGreatDoor
open Go.ChangeShapes Go.WideShapes Go.ChangeAt Go.RowKit
set_option linter.unusedVariables false
set_option maxRecDepth 100000
theorem strs_one (l : List ByteArray) : ∀ u ∈ strs l, u.oneCell' = true := by
  intro u hu; simp only [strs, List.mem_map] at hu; obtain ⟨b, _, rfl⟩ := hu; rfl
theorem Tryz.infoStr : (Tryz.prog.info? 9).map (fun i => (i.zero, i.size, i.bytes)) = some (some (.string ⟨#[]⟩), 1, 16) := by kernel_rfl
theorem strs_append (l m : List ByteArray) : strs (l ++ m) = strs l ++ strs m := by simp [strs]
theorem strs_take (l : List ByteArray) (k : Nat) : (strs l).take k = strs (l.take k) := by simp [strs, List.map_take]
theorem strs_drop (l : List ByteArray) (k : Nat) : (strs l).drop k = strs (l.drop k) := by simp [strs, List.map_drop]
theorem take_eq_snoc_s {zs ys : List ByteArray} {k : Nat} (h1 : k < zs.length) (h2 : k < ys.length) (h : zs.take k = ys.take k) (he : zs[k] = ys[k]) : zs.take (k + 1) = ys.take (k + 1) := by
  rw [List.take_succ_eq_append_getElem h1, List.take_succ_eq_append_getElem h2, h, he]
theorem equal_str (A A2 : Option Addr) (n c n2 c2 B B2 : Nat) (zs ys : List ByteArray) (w : World) (h : Sees w B 1 A n (strs zs)) (h2 : Sees w B2 1 A2 n2 (strs ys)) (hn : n ≤ 9223372036854775807) (hn2 : n2 ≤ 9223372036854775807) :
    Calls Tryz.prog 31 #[.slice A n c, .slice A2 n2 c2] w fun e w' => e = .returned (.bool (decide (zs = ys))) ∧ ∃ m, w' = w.drewN m := by
  have H := Lib.hid h; clear h
  have H2 := Lib.hid h2; clear h2
  have HL := Lib.hid H.out.str_len
  have HL2 := Lib.hid H2.out.str_len
  by_cases hnn : n = n2
  · subst hnn
    go_enter Tryz.func31, Tryz.ntmps31
    go_wp2
    go_loopw [13] (fun i wr => ∃ k m : Nat, k ≤ n ∧ i = .int .i64 k ∧ wr = w.drewN m ∧ zs.take k = ys.take k) (fun i _ => n - (intOf i).toNat)
    case atStart => exact ⟨0, 0, Nat.zero_le _, rfl, rfl, rfl⟩
    case round =>
      obtain ⟨k, m, hk, rfl, rfl, ht⟩ := hrel
      have HT := Lib.hid ht; clear ht
      by_cases hlt : k < n
      · obtain ⟨ad, hkl, rfl, hc⟩ := H.out.str hlt
        obtain ⟨ad2, hkl2, rfl, hc2⟩ := H2.out.str hlt
        have hq := Lib.hid (take_eq_snoc_s hkl hkl2 HT.out)
        have hne : Hid (zs[k] ≠ ys[k] → zs ≠ ys) := fun h e => h (by subst e; rfl)
        generalize zs[k] = x at *
        generalize ys[k] = y at *
        by_cases hxy : x = y
        · subst hxy
          have he1 : (x.toList == x.toList) = true := by simp
          go_wp2
          go_quiet (fail)
          go_wp2
          go_roundw
          case rel => exact ⟨k + 1, _, by omega, by go_num, rfl, hq.out (by simp)⟩
          case measure => simp [intOf]; omega
        · have hz := Lib.hid (hne.out hxy)
          have he1 : (x.toList == y.toList) = false := by rw [beq_eq_false_iff_ne]; exact fun h => hxy (ba_ext h)
          clear hxy
          go_wp2
          go_quiet (fail)
          go_wp2
          go_ret
          exact ⟨ret_bool (decide_eq_false hz.out).symm, _, World.drewN_drewN _ _ _⟩
      · obtain rfl : k = n := by omega
        have he : zs = ys := by
          have := HT.out; rwa [List.take_of_length_le (by rw [HL.out]; omega), List.take_of_length_le (by rw [HL2.out]; omega)] at this
        have HE := Lib.hid (decide_eq_true he); clear he
        go_wp2
        go_ret
        exact ⟨ret_bool HE.out.symm, m, rfl⟩
  · have hz : zs ≠ ys := fun e => hnn (by rw [← HL.out, ← HL2.out, e])
    have hb : ((n : Int) == n2) = false := beq_eq_false_iff_ne.2 (by omega)
    have HE := Lib.hid (decide_eq_false hz); clear hz
    go_enter Tryz.func31, Tryz.ntmps31
    go_wp2
    go_ret
    exact ⟨ret_bool HE.out.symm, 0, rfl⟩
/-- slices.Clone at texts. -/
theorem clone_str (A : Option Addr) (n c B : Nat) (zs : List ByteArray) (w : World) (h : Sees w B 1 A n (strs zs)) (hB : B ≤ w.heap.size) (hn : n ≤ 1000000) :
    Calls Tryz.prog 56 #[.slice A n c] w (OwnAns 9 1 n (strs zs) w) := by
  have HL := Lib.hid h.str_len
  have H := Lib.hid h; clear h
  obtain ⟨i0, hi, hz0, hz1, hz2⟩ := info_parts Tryz.infoStr
  have hnil := fun w => Lib.run_eql_slice_nil (P := Tryz.prog) w 23 9 A n c 0 0 Tryz.underlying23
  cases A with
  | none =>
    have hn0 : n = 0 := by
      rcases Nat.eq_zero_or_pos n with h | h
      · exact h
      · obtain ⟨ad, h, _⟩ := H.out.at_ h; cases h
    subst hn0
    have hl0 : zs = [] := List.eq_nil_of_length_eq_zero HL.out
    subst hl0
    have hr := Lib.hid (show w.ownsRow w.heap.size 9 1 (.slice none 0 0) 0 (strs []) by simpa [strs] using World.ownsRow_nil w w.heap.size 9 1)
    go_enter Tryz.func56, Tryz.ntmps56
    go_wp2_with fail
    go_ret
    exact ownAns hr.out (Below.refl _ _) rfl (Nat.le_refl _) (by omega)
  | some ad =>
    have hown0 : (w.alloc (.cells #[] 9)).ownsRow w.heap.size 9 1 (.slice (some ⟨w.heap.size, 0, none⟩) 0 0) 0 [] := World.ownsRow_made w #[] 0 (Nat.le_refl _) (by unfold maxLen; omega) rfl
    have HO := Lib.hid hown0; clear hown0
    have HS := Lib.hid (H.out.below (((Below.refl B w).alloc hB (.cells #[] 9)))); clear H
    go_enter Tryz.func56, Tryz.ntmps56
    go_wp2_with (at_builtin; refine wpList_append_sees rfl (.tmp 5) (.tmp 6) 23 rfl w.heap.size 9 i0 (.string ⟨#[]⟩) 1 16 Tryz.underlying23 hi hz0 hz1 hz2 rfl (by decide) _ 0 [] rfl HO.out B (some ad) n _ (strs zs) rfl HS.out (strs_one _) (by unfold maxLen; omega) (by omega) (by simp) ?_)
    intro v' w1 hown hg
    have hb := ((Below.refl w.heap.size w).alloc (Nat.le_refl _) _).grown hg (by simp) (by simp [Value.ownBlock])
    try simp only [Nat.zero_add, List.nil_append] at hown
    obtain ⟨A2, c2, rfl, hc3, hc4⟩ := own_slice hown
    have H1 := Lib.hid hown; have H2 := Lib.hid hb; clear hown hb hg
    go_wp2_with fail
    go_ret
    exact ownAns H1.out H2.out rfl hc3 hc4
end Go.Proofs.YtcaapbbbekggiaaGreatDoor
