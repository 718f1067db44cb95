/- lex.number. -/
import Derived.Test.YtealflkblkfhbaaDoorLexMath
namespace Go.Proofs.YtealflkblkfhbaaDoor
open Go.ChangeShapes Go.WideShapes Go.ChangeAt Go.RowKit
set_option linter.unusedVariables false
set_option linter.unusedSimpArgs false
set_option maxRecDepth 100000
theorem digit_range {c : Nat} (h : digitN c = true) : 48 ≤ c ∧ c ≤ 57 := by simpa [digitN] using h
set_option maxHeartbeats 4000000 in
theorem lnumber_any (s : ByteArray) (w : World) (h0 : 0 < s.size) (hs : s.size ≤ 35184372088832) :
    Calls Tryd.prog 27 #[.string s] w (FirstAns (numT (numF s.data.toList)) w) := by
  obtain ⟨m, hm⟩ : ∃ n, s.size = n := ⟨_, rfl⟩
  have HL := Lib.hid (show s.data.toList.length = m by rw [← hm]; simp)
  have HB := Lib.hid ((Below.refl w.heap.size w).alloc (Nat.le_refl _) (.cells #[.int .i64 0, .int .i64 0, .int .i64 0, .string ⟨#[]⟩] 27))
  have HK := Lib.hid (Blk.mk (heap_alloc_new w (.cells #[.int .i64 0, .int .i64 0, .int .i64 0, .string ⟨#[]⟩] 27)) : Blk _ w.heap.size 27 [.int .i64 0, .int .i64 0, .int .i64 0, .string ⟨#[]⟩])
  obtain ⟨below, hbe⟩ : ∃ b, ((s[0]'h0).toNat == 45) = b := ⟨_, rfl⟩
  have hhd : (s.data.toList.head? = some 45) ↔ below = true := by
    rw [← hbe, beq_iff_eq]
    have h1 : s.data.toList.head? = some (s[0]'h0) := by
      rw [List.head?_eq_getElem?, List.getElem?_eq_getElem (by simpa using h0)]; rfl
    rw [h1]
    constructor
    · intro h; injection h with h; rw [h]; rfl
    · intro h; congr 1; exact UInt8.toNat_inj.1 (by rw [h]; rfl)
  obtain ⟨k0, hk0⟩ : ∃ k0 : Nat, (if below = true then 1 else 0) = k0 := ⟨_, rfl⟩
  have HNF : Hid (numF s.data.toList = if below = true then numAt k0 0 (s.data.toList.drop k0) else match numAt k0 0 (s.data.toList.drop k0) with | none => none | some (n, u) => if n = -9223372036854775808 then none else some (-n, u)) := Lib.hid (by
    unfold numF
    cases below with
    | true => rw [if_pos (hhd.2 rfl), if_pos rfl, ← hk0]; rfl
    | false => rw [if_neg (fun h => by have := hhd.1 h; cases this), if_neg (by simp), ← hk0]; rfl)
  obtain ⟨tot, htot⟩ : ∃ tot, numT (numF s.data.toList) = tot := ⟨_, rfl⟩
  have HTOT := Lib.hid htot.symm
  rw [htot]
  obtain ⟨tot0, htot0⟩ : ∃ tot0, numAt k0 0 (s.data.toList.drop k0) = tot0 := ⟨_, rfl⟩
  have HT0 := Lib.hid htot0.symm
  rw [htot0] at HNF
  have t0 : (((s[0]'h0).toNat : Int) == 45) = below := by
    rw [← hbe]
    by_cases h : (s[0]'h0).toNat = 45
    · rw [h]; rfl
    · rw [beq_eq_false_iff_ne.2 h, beq_eq_false_iff_ne.2 (by omega)]
  have HK0 := Lib.hid hk0
  have hk1 : k0 ≤ 1 := by rw [← hk0]; split <;> omega
  obtain ⟨b2, hb2⟩ : ∃ b, w.heap.size = b := ⟨_, rfl⟩
  obtain ⟨W1, hW1⟩ : ∃ W, w.alloc (.cells #[.int .i64 0, .int .i64 0, .int .i64 0, .string ⟨#[]⟩] 27) = W := ⟨_, rfl⟩
  rw [hW1] at HB HK
  rw [hb2] at HK
  have HB2 := Lib.hid hb2; have HW1 := Lib.hid hW1
  have hb2le : w.heap.size ≤ b2 := by rw [hb2]; exact Nat.le_refl _
  obtain ⟨f0, f1, f2, f3⟩ : W1.frozen? ⟨b2, 0, none⟩ = false ∧ W1.frozen? ⟨b2, 1, none⟩ = false ∧ W1.frozen? ⟨b2, 2, none⟩ = false ∧ W1.frozen? ⟨b2, 3, none⟩ = false := ⟨HK.out.frozen 0, HK.out.frozen 1, HK.out.frozen 2, HK.out.frozen 3⟩
  obtain ⟨c0, c1, c2, c3⟩ := blk_cells4 HK.out
  clear hb2 hW1 hbe hhd htot htot0 hk0
  go_enter Tryd.func27, Tryd.ntmps27
  go_upto_region 3 with fail
  rw [HW1.out, HB2.out]
  clear t0
  go_upto_if 11 with fail
  go_cut [4] (fun x4 wx => x4 = .int .i64 k0 ∧ wx = W1)
  case first =>
    cases below with
    | true =>
      have hk := HK0.out
      have hk' : k0 = 1 := by rw [← hk]; rfl
      go_wp2_with fail
      go_meet
      exact ⟨by rw [hk']; rfl, rfl⟩
    | false =>
      have hk := HK0.out
      have hk' : k0 = 0 := by rw [← hk]; rfl
      go_wp2_with fail
      go_meet
      exact ⟨by rw [hk']; rfl, rfl⟩
  case rest =>
    obtain ⟨rfl, rfl⟩ := hcut
    clear HK0
    go_wp2_with fail
    go_loopg [4, 6] (m - k0) (fun g x4 x6 wr => ∃ (k : Nat) (n : Int), k + g = m ∧ x4 = .int .i64 k ∧ x6 = .int .i64 n ∧ wr = wc ∧ Hid (tot0 = numAt k n (s.data.toList.drop k)) ∧ Hid (-9223372036854775808 ≤ n) ∧ Hid (n ≤ 0))
    case atStart => exact ⟨k0, 0, by omega, rfl, rfl, rfl, HT0, Lib.hid (by omega), Lib.hid (by omega)⟩
    case round =>
      obtain ⟨k, n, hkg, rfl, rfl, rfl, HT, HLO, HHI⟩ := hrel
      clear HT0
      cases gk with
      | zero =>
        have hkm : k = m := by omega
        have HS := Lib.hid (show tot0 = some (n, k) by rw [HT.out, List.drop_eq_nil_of_le (by rw [HL.out]; omega), numAt_end])
        have hkm2 : (m : Int) ≤ k := by omega
        clear hkm
        have hlo : True := trivial
        have hhi : True := trivial
        clear HT hlo hhi
        cases below with
        | true =>
          have HE := Lib.hid (show tot = some (⟨1, n, 0, ⟨#[]⟩⟩, k) by rw [HTOT.out, HNF.out, if_pos rfl, HS.out]; rfl)
          have HBZ := Lib.hid (set4W_below HB.out hb2le (.int .i64 1) (.int .i64 n) (.int .i64 0) (.string ⟨#[]⟩))
          have HKZ := Lib.hid (set4W_blk HK.out (.int .i64 1) (.int .i64 n) (.int .i64 0) (.string ⟨#[]⟩))
          go_wp2_with fail
          obtain ⟨q0, q1, q2, q3⟩ := blk_cells4 HKZ.out
          unfold set4W at q0 q1 q2 q3 HBZ
          refine bodyPost_ret (v := .tuple #[.agg #[.int .i64 1, .int .i64 n, .int .i64 0, .string ⟨#[]⟩], .int .i64 k]) (by simp [results, Tryd.results27, go_sem, q0, q1, q2, q3]) rfl ?_
          exact firstAns_yes HE.out HBZ.out rfl
        | false =>
          by_cases hmin : n = -9223372036854775808
          · have HE := Lib.hid (show tot = none by rw [HTOT.out, HNF.out, if_neg (by simp), HS.out]; simp only; rw [if_pos hmin]; rfl)
            have t9 : (n == -9223372036854775808) = true := by rw [hmin]; rfl
            clear hmin
            have HBZ := Lib.hid (set4W_below HB.out hb2le (.int .i64 0) (.int .i64 0) (.int .i64 0) (.string ⟨#[]⟩))
            have HKZ := Lib.hid (set4W_blk HK.out (.int .i64 0) (.int .i64 0) (.int .i64 0) (.string ⟨#[]⟩))
            go_wp2_with fail
            obtain ⟨q0, q1, q2, q3⟩ := blk_cells4 HKZ.out
            unfold set4W at q0 q1 q2 q3 HBZ
            refine bodyPost_ret (v := .tuple #[.agg #[.int .i64 0, .int .i64 0, .int .i64 0, .string ⟨#[]⟩], .int .i64 0]) (by simp [results, Tryd.results27, go_sem, q0, q1, q2, q3]) rfl ?_
            exact firstAns_no HE.out HBZ.out rfl
          · have HE := Lib.hid (show tot = some (⟨1, -n, 0, ⟨#[]⟩⟩, k) by rw [HTOT.out, HNF.out, if_neg (by simp), HS.out]; simp only; rw [if_neg hmin]; rfl)
            have t9 : (n == -9223372036854775808) = false := by rw [beq_eq_false_iff_ne]; exact hmin
            have t8 : IntKind.i64.wrap (-n) = -n := by have h1 := HLO.out; have h2 := HHI.out; rw [IntKind.wrap_i64]; omega
            clear hmin
            have HBZ := Lib.hid (set4W_below HB.out hb2le (.int .i64 1) (.int .i64 (-n)) (.int .i64 0) (.string ⟨#[]⟩))
            have HKZ := Lib.hid (set4W_blk HK.out (.int .i64 1) (.int .i64 (-n)) (.int .i64 0) (.string ⟨#[]⟩))
            go_wp2_with fail
            obtain ⟨q0, q1, q2, q3⟩ := blk_cells4 HKZ.out
            unfold set4W at q0 q1 q2 q3 HBZ
            refine bodyPost_ret (v := .tuple #[.agg #[.int .i64 1, .int .i64 (-n), .int .i64 0, .string ⟨#[]⟩], .int .i64 k]) (by simp [results, Tryd.results27, go_sem, q0, q1, q2, q3]) rfl ?_
            exact firstAns_yes HE.out HBZ.out rfl
      | succ g =>
        have hlt : k < m := by omega
        have hks : k < s.size := by omega
        have HDR := Lib.hid (drop_byte s.data.toList k (by rw [HL.out]; exact hlt))
        have HGK : Hid (s.data.toList[k]'(by rw [HL.out]; exact hlt) = s[k]) := Lib.hid rfl
        rw [HGK.out] at HDR
        have HC := Lib.hid (digit_any (s[k].toNat) wr)
        obtain ⟨b, hb⟩ : ∃ b, digitN (s[k]).toNat = b := ⟨_, rfl⟩
        rw [hb] at HC
        have HBB := Lib.hid hb
        clear hb
        cases b with
        | false =>
          have HS := Lib.hid (show tot0 = some (n, k) by rw [HT.out, HDR.out, numAt_stop HBB.out])
          have hlo : True := trivial
          have hhi : True := trivial
          go_wp2_with fail
          (with_reducible refine HC.out.mono ?_); rintro e w' ⟨rfl, rfl⟩
          clear HT hlo hhi
          cases below with
          | true =>
            have HE := Lib.hid (show tot = some (⟨1, n, 0, ⟨#[]⟩⟩, k) by rw [HTOT.out, HNF.out, if_pos rfl, HS.out]; rfl)
            have HBZ := Lib.hid (set4W_below HB.out hb2le (.int .i64 1) (.int .i64 n) (.int .i64 0) (.string ⟨#[]⟩))
            have HKZ := Lib.hid (set4W_blk HK.out (.int .i64 1) (.int .i64 n) (.int .i64 0) (.string ⟨#[]⟩))
            go_wp2_with fail
            obtain ⟨q0, q1, q2, q3⟩ := blk_cells4 HKZ.out
            unfold set4W at q0 q1 q2 q3 HBZ
            refine bodyPost_ret (v := .tuple #[.agg #[.int .i64 1, .int .i64 n, .int .i64 0, .string ⟨#[]⟩], .int .i64 k]) (by simp [results, Tryd.results27, go_sem, q0, q1, q2, q3]) rfl ?_
            exact firstAns_yes HE.out HBZ.out rfl
          | false =>
            by_cases hmin : n = -9223372036854775808
            · have HE := Lib.hid (show tot = none by rw [HTOT.out, HNF.out, if_neg (by simp), HS.out]; simp only; rw [if_pos hmin]; rfl)
              have t9 : (n == -9223372036854775808) = true := by rw [hmin]; rfl
              clear hmin
              have HBZ := Lib.hid (set4W_below HB.out hb2le (.int .i64 0) (.int .i64 0) (.int .i64 0) (.string ⟨#[]⟩))
              have HKZ := Lib.hid (set4W_blk HK.out (.int .i64 0) (.int .i64 0) (.int .i64 0) (.string ⟨#[]⟩))
              go_wp2_with fail
              obtain ⟨q0, q1, q2, q3⟩ := blk_cells4 HKZ.out
              unfold set4W at q0 q1 q2 q3 HBZ
              refine bodyPost_ret (v := .tuple #[.agg #[.int .i64 0, .int .i64 0, .int .i64 0, .string ⟨#[]⟩], .int .i64 0]) (by simp [results, Tryd.results27, go_sem, q0, q1, q2, q3]) rfl ?_
              exact firstAns_no HE.out HBZ.out rfl
            · have HE := Lib.hid (show tot = some (⟨1, -n, 0, ⟨#[]⟩⟩, k) by rw [HTOT.out, HNF.out, if_neg (by simp), HS.out]; simp only; rw [if_neg hmin]; rfl)
              have t9 : (n == -9223372036854775808) = false := by rw [beq_eq_false_iff_ne]; exact hmin
              have t8 : IntKind.i64.wrap (-n) = -n := by have h1 := HLO.out; have h2 := HHI.out; rw [IntKind.wrap_i64]; omega
              clear hmin
              have HBZ := Lib.hid (set4W_below HB.out hb2le (.int .i64 1) (.int .i64 (-n)) (.int .i64 0) (.string ⟨#[]⟩))
              have HKZ := Lib.hid (set4W_blk HK.out (.int .i64 1) (.int .i64 (-n)) (.int .i64 0) (.string ⟨#[]⟩))
              go_wp2_with fail
              obtain ⟨q0, q1, q2, q3⟩ := blk_cells4 HKZ.out
              unfold set4W at q0 q1 q2 q3 HBZ
              refine bodyPost_ret (v := .tuple #[.agg #[.int .i64 1, .int .i64 (-n), .int .i64 0, .string ⟨#[]⟩], .int .i64 k]) (by simp [results, Tryd.results27, go_sem, q0, q1, q2, q3]) rfl ?_
              exact firstAns_yes HE.out HBZ.out rfl
        | true =>
          obtain ⟨hd1, hd2⟩ := digit_range HBB.out
          obtain ⟨dg, hdg⟩ : ∃ dg : Nat, s[k].toNat = 48 + dg := ⟨s[k].toNat - 48, by omega⟩
          have hdg9 : dg ≤ 9 := by omega
          obtain ⟨td, htd, htd1, htd2, htd3⟩ := tdiv_min (dg : Int) (by omega) (by omega)
          have z0 : IntKind.u8.wrap ((s[k].toNat : Int) - 48) = dg := by rw [hdg]; simp [IntKind.wrap, IntKind.bits, IntKind.signed]; omega
          have HDG := Lib.hid (show ((s[k].toNat : Int) - 48) = dg by omega)
          have z1 : IntKind.i64.wrap (-9223372036854775808 + (dg : Int)) = -9223372036854775808 + (dg : Int) := by rw [IntKind.wrap_i64]; omega
          have z2 : IntKind.i64.wrap td = td := by rw [IntKind.wrap_i64]; omega
          by_cases hov : n < td
          · have HS := Lib.hid (show tot0 = none by rw [HT.out, HDR.out, numAt_over HBB.out (by rw [HDG.out, htd]; exact hov)])
            have HE := Lib.hid (show tot = none by
              rw [HTOT.out, HNF.out, HS.out]
              cases below <;> rfl)
            clear htd1 htd2 htd3 hdg hd1 hd2 HT HLO HHI
            go_wp2_with fail
            (with_reducible refine HC.out.mono ?_); rintro e w' ⟨rfl, rfl⟩
            have HBZ := Lib.hid (set4W_below HB.out hb2le (.int .i64 0) (.int .i64 0) (.int .i64 0) (.string ⟨#[]⟩))
            have HKZ := Lib.hid (set4W_blk HK.out (.int .i64 0) (.int .i64 0) (.int .i64 0) (.string ⟨#[]⟩))
            go_wp2_with fail
            obtain ⟨q0, q1, q2, q3⟩ := blk_cells4 HKZ.out
            unfold set4W at q0 q1 q2 q3 HBZ
            refine bodyPost_ret (v := .tuple #[.agg #[.int .i64 0, .int .i64 0, .int .i64 0, .string ⟨#[]⟩], .int .i64 0]) (by simp [results, Tryd.results27, go_sem, q0, q1, q2, q3]) rfl ?_
            exact firstAns_no HE.out HBZ.out rfl
          · have HN := Lib.hid (show tot0 = numAt (k + 1) (n * 10 - (dg : Int)) (s.data.toList.drop (k + 1)) by rw [HT.out, HDR.out, numAt_next HBB.out (by rw [HDG.out, htd]; exact hov), HDG.out])
            have z3 : IntKind.i64.wrap (n * 10) = n * 10 := by have h1 := HLO.out; have h2 := HHI.out; rw [IntKind.wrap_i64]; omega
            have z4 : IntKind.i64.wrap (n * 10 - (dg : Int)) = n * 10 - (dg : Int) := by have h1 := HLO.out; have h2 := HHI.out; rw [IntKind.wrap_i64]; omega
            have HLO2 := Lib.hid (show -9223372036854775808 ≤ n * 10 - (dg : Int) by omega)
            have HHI2 := Lib.hid (show n * 10 - (dg : Int) ≤ 0 by have h2 := HHI.out; omega)
            have hov2 : td ≤ n := by omega
            clear htd1 htd2 htd3 hdg hd1 hd2 HT HLO HHI hov
            go_wp2_with fail
            (with_reducible refine HC.out.mono ?_); rintro e w' ⟨rfl, rfl⟩
            go_wp2_with fail
            go_roundg g
            case measure => omega
            case rel => exact ⟨k + 1, n * 10 - (dg : Int), by omega, by go_num, rfl, rfl, HN, HLO2, HHI2⟩
end Go.Proofs.YtealflkblkfhbaaDoor
