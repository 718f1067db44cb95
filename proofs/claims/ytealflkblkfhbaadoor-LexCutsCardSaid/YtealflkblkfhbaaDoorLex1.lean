/- lex.number, word. -/
import Derived.Test.YtealflkblkfhbaaDoorLexMath
namespace Go.Proofs.YtealflkblkfhbaaDoor
open Go.ChangeShapes Go.WideShapes Go.ChangeAt Go.RowKit
set_option linter.unusedVariables false
set_option linter.unusedSimpArgs false
set_option maxRecDepth 100000
set_option maxHeartbeats 4000000 in
theorem lword_any (s : ByteArray) (w : World) (h0 : 0 < s.size) (hs : s.size ≤ 35184372088832) :
    Calls Tryd.prog 29 #[.string s] w (FirstAns (wordT s) w) := by
  obtain ⟨n, hn⟩ : ∃ n, s.size = n := ⟨_, rfl⟩
  have HL := Lib.hid (show s.data.toList.length = n by rw [← hn]; simp)
  have HB := Lib.hid ((Below.refl w.heap.size w).alloc (Nat.le_refl _) (.cells #[.int .i64 0, .int .i64 0, .int .i64 0, .string ⟨#[]⟩] 27))
  have HK := Lib.hid (Blk.mk (heap_alloc_new w (.cells #[.int .i64 0, .int .i64 0, .int .i64 0, .string ⟨#[]⟩] 27)) : Blk _ w.heap.size 27 [.int .i64 0, .int .i64 0, .int .i64 0, .string ⟨#[]⟩])
  have HW : Hid (wordT s = if spanW (s.data.toList.drop 1) + 1 > 24 then none else some (⟨2, 0, 0, s.extract 0 (spanW (s.data.toList.drop 1) + 1)⟩, spanW (s.data.toList.drop 1) + 1)) := Lib.hid rfl
  obtain ⟨b2, hb2⟩ : ∃ b, w.heap.size = b := ⟨_, rfl⟩
  obtain ⟨W1, hW1⟩ : ∃ W, w.alloc (.cells #[.int .i64 0, .int .i64 0, .int .i64 0, .string ⟨#[]⟩] 27) = W := ⟨_, rfl⟩
  rw [hW1] at HB HK
  rw [hb2] at HK
  have HB2 := Lib.hid hb2; have HW1 := Lib.hid hW1
  have HN := Lib.hid hn
  clear hb2 hW1
  generalize wordT s = tot at *
  go_enter Tryd.func29, Tryd.ntmps29
  go_upto_block 0 with fail
  rw [HW1.out, HB2.out]
  go_cut [4] from 5 to 16 (fun x4 wx => ∃ u : Nat, x4 = .int .i64 u ∧ spanW (s.data.toList.drop 1) + 1 = u ∧ u ≤ n ∧ wx = W1)
  case first =>
    go_wp2_with fail
    go_loopg [4] (n - 1) (fun g x4 wr => ∃ k : Nat, k + g = n ∧ x4 = .int .i64 k ∧ 1 ≤ k ∧ wr = W1 ∧ spanW (s.data.toList.drop 1) + 1 = k + spanW (s.data.toList.drop k))
    case atStart => exact ⟨1, by omega, rfl, Nat.le_refl _, rfl, by omega⟩
    case round =>
      obtain ⟨k, hkg, rfl, hk1, rfl, hsp⟩ := hrel
      have HSP := Lib.hid hsp
      clear hsp
      cases gk with
      | zero =>
        have HZ := Lib.hid (show spanW (s.data.toList.drop 1) + 1 = k from by rw [HSP.out, List.drop_eq_nil_of_le (by rw [HL.out]; omega), spanW_nil]; rfl)
        have hkn : k ≤ n := by omega
        have hkn2 : (n : Int) ≤ k := by omega
        go_wp2_with fail
        go_meet
        exact ⟨k, rfl, HZ.out, hkn, rfl⟩
      | succ g =>
        have hlt : k < n := by omega
        have hks : k < s.size := by omega
        have HDR := Lib.hid (drop_byte s.data.toList k (by rw [HL.out]; exact hlt))
        have HC := Lib.hid (textWithin_any (s[k].toNat) wr)
        have HGK : Hid (s.data.toList[k]'(by rw [HL.out]; exact hlt) = s[k]) := Lib.hid rfl
        rw [HGK.out] at HDR
        obtain ⟨b, hb⟩ : ∃ b, withinN (s[k]).toNat = b := ⟨_, rfl⟩
        rw [hb] at HC
        have HBB := Lib.hid hb
        clear hb
        cases b with
        | false =>
          have HZ := Lib.hid (show spanW (s.data.toList.drop 1) + 1 = k from by rw [HSP.out, HDR.out, spanW_no HBB.out]; rfl)
          have hkn : k ≤ n := by omega
          go_wp2_with fail
          (with_reducible refine HC.out.mono ?_); rintro e w' ⟨rfl, rfl⟩
          go_wp2_with fail
          go_meet
          exact ⟨k, rfl, HZ.out, hkn, rfl⟩
        | true =>
          have HZ := Lib.hid (show spanW (s.data.toList.drop 1) + 1 = (k + 1) + spanW (s.data.toList.drop (k + 1)) from by rw [HSP.out, HDR.out, spanW_yes HBB.out]; omega)
          go_wp2_with fail
          (with_reducible refine HC.out.mono ?_); rintro e w' ⟨rfl, rfl⟩
          go_wp2_with fail
          go_roundg g
          case measure => omega
          case rel => exact ⟨k + 1, by omega, by go_num, by omega, rfl, HZ.out⟩
  case rest =>
    obtain ⟨u, rfl, hu, hun, rfl⟩ := hcut
    have HU := Lib.hid hu
    rw [HU.out] at HW
    clear hu
    have f0 := HK.out.frozen 0
    have f1 := HK.out.frozen 1
    have f2 := HK.out.frozen 2
    have f3 := HK.out.frozen 3
    have c0 := HK.out.cell 0
    have c1 := HK.out.cell 1
    have c2 := HK.out.cell 2
    have c3 := HK.out.cell 3
    simp only [List.getElem?_cons_zero, List.getElem?_cons_succ] at c0 c1 c2 c3
    have hb2le : w.heap.size ≤ b2 := by rw [HB2.out]; exact Nat.le_refl _
    by_cases hu24 : 24 < u
    · have HE := Lib.hid (show tot = none by rw [HW.out, if_pos hu24])
      have hui : (24 : Int) < u := by omega
      have HBZ := Lib.hid (set4W_below HB.out hb2le (.int .i64 0) (.int .i64 0) (.int .i64 0) (.string ⟨#[]⟩))
      have HKZ := Lib.hid (set4W_blk HK.out (.int .i64 0) (.int .i64 0) (.int .i64 0) (.string ⟨#[]⟩))
      go_wp2_with fail
      obtain ⟨q0, q1, q2, q3⟩ := blk_cells4 HKZ.out
      unfold set4W at q0 q1 q2 q3 HBZ
      refine bodyPost_ret (v := .tuple #[.agg #[.int .i64 0, .int .i64 0, .int .i64 0, .string ⟨#[]⟩], .int .i64 0]) (by simp [results, Tryd.results29, go_sem, q0, q1, q2, q3]) rfl ?_
      exact firstAns_no HE.out HBZ.out rfl
    · have HE := Lib.hid (show tot = some (⟨2, 0, 0, s.extract 0 u⟩, u) by rw [HW.out, if_neg hu24])
      have hui : (u : Int) ≤ 24 := by omega
      have hus : u ≤ s.size := by omega
      have huz : (0 : Int) ≤ u := by omega
      have HBZ := Lib.hid (set4W_below HB.out hb2le (.int .i64 2) (.int .i64 0) (.int .i64 0) (.string (s.extract 0 u)))
      have HKZ := Lib.hid (set4W_blk HK.out (.int .i64 2) (.int .i64 0) (.int .i64 0) (.string (s.extract 0 u)))
      go_wp2_with fail
      obtain ⟨q0, q1, q2, q3⟩ := blk_cells4 HKZ.out
      unfold set4W at q0 q1 q2 q3 HBZ
      refine bodyPost_ret (v := .tuple #[.agg #[.int .i64 2, .int .i64 0, .int .i64 0, .string (s.extract 0 u)], .int .i64 u]) (by simp [results, Tryd.results29, go_sem, q0, q1, q2, q3]) rfl ?_
      exact firstAns_yes HE.out HBZ.out rfl
end Go.Proofs.YtealflkblkfhbaaDoor
