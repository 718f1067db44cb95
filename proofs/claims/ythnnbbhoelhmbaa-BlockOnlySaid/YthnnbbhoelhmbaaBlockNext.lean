/- block.Next. -/
import Derived.Test.YthnnbbhoelhmbaaBlockNum
namespace Go.Proofs.Ythnnbbhoelhmbaa
open Go.ChangeShapes Go.WideShapes Go.ChangeAt Go.RowKit
set_option linter.unusedVariables false
set_option maxRecDepth 100000
def nextV (l : List Int) : Int := match nextF l with | none => 0 | some (u, _) => zag u
def nextK (l : List Int) : Nat := match nextF l with | none => 0 | some (_, k) => k
theorem nextK_le (l : List Int) : nextK l ≤ l.length ∧ nextK l ≤ 10 := by
  unfold nextK; split
  · omega
  · rename_i u k h; have := next_used h; omega
theorem nextV_in (l : List Int) : I64 (nextV l) := by
  unfold nextV; split
  · unfold I64; omega
  · rename_i u k h; exact zag_in (next_lt h)
theorem ret_two {a b c d : Int} (h : a = c) (h2 : b = d) : Ending.returned (.tuple #[.int .i64 a, .int .i64 b]) = .returned (.tuple #[.int .i64 c, .int .i64 d]) := by rw [h, h2]
theorem byte_low {c d : Nat} (h : c < 256) (hd : c % 128 = d) : bits .and .u8 (c : Int) 127 = (d : Int) := by
  have := u8_and_nat c 127 h (by omega)
  rw [nat_mask7, hd] at this; exact this
theorem byte_top {c : Nat} (h : c < 256) : bits .and .u8 (c : Int) 128 = if 128 ≤ c then 128 else 0 := by
  have := u8_and_nat c 128 h (by omega)
  have e := nat_bit 7 c
  rw [show (2 : Nat) ^ 7 = 128 by decide] at e
  rw [e] at this
  rw [show ((128 : Nat) : Int) = 128 from rfl] at this
  rw [this]
  split
  · rw [show c / 128 % 2 = 1 by omega]; rfl
  · rw [show c / 128 % 2 = 0 by omega]; rfl
theorem pow_seven (i : Nat) : ((2 : Int) ^ (7 * i)) = ((128 ^ i : Nat) : Int) := by
  rw [Int.pow_mul, Int.natCast_pow]; rfl
theorem shl_low {d i D : Nat} (hD : d * 128 ^ i = D) (h : D < 18446744073709551616) : IntKind.u64.wrap ((d : Int) * 2 ^ (7 * i)) = (D : Int) := by
  rw [pow_seven, ← Int.natCast_mul, hD]
  simp [IntKind.wrap, IntKind.bits, IntKind.signed]; omega
theorem or_low {u d i D U : Nat} (hu : u < 128 ^ i) (hD : d * 128 ^ i = D) (hU : u + D = U) (h : U < 18446744073709551616) : bits .or .u64 (u : Int) (D : Int) = (U : Int) := by
  have := u64_or_nat u D (by omega) (by omega)
  have e128 : (128 : Nat) ^ i = 2 ^ (7 * i) := by rw [Nat.pow_mul]
  have e : u ||| D = U := by
    rw [Nat.or_comm, nat_join (7 * i) D u (by rw [← hD, e128]; exact Nat.mul_mod_left _ _) (by rw [← e128]; exact hu)]; omega
  rw [e] at this; exact this
theorem low_bit {U b : Nat} (h : U < 18446744073709551616) (hb : U % 2 = b) : bits .and .u64 (U : Int) 1 = (b : Int) := by
  have := u64_and_nat U 1 h (by omega)
  rw [nat_mask1, hb] at this; exact this
theorem xor_even {U : Nat} (h : U < 18446744073709551616) (hb : U % 2 = 0) : bits .xor .i64 ((U : Int) / 2) 0 = zag U := by
  have h1 : bits .xor .i64 ((U : Int) / 2) 0 = IntKind.i64.wrap ((BitVec.ofInt 64 ((U : Int) / 2) ^^^ BitVec.ofInt 64 0).toNat : Int) := rfl
  rw [h1, show BitVec.ofInt 64 0 = 0#64 from rfl, BitVec.xor_zero, show (U : Int) / 2 = ((U / 2 : Nat) : Int) by omega, BitVec.ofInt_natCast, BitVec.toNat_ofNat, Nat.mod_eq_of_lt (by omega), IntKind.wrap_i64]
  unfold zag; rw [if_pos hb]; omega
theorem xor_odd {U : Nat} (h : U < 18446744073709551616) (hb : U % 2 = 1) : bits .xor .i64 ((U : Int) / 2) (-1) = zag U := by
  have h1 : bits .xor .i64 ((U : Int) / 2) (-1) = IntKind.i64.wrap ((BitVec.ofInt 64 ((U : Int) / 2) ^^^ BitVec.ofInt 64 (-1)).toNat : Int) := rfl
  rw [h1, show BitVec.ofInt 64 (-1) = BitVec.allOnes 64 from by decide, BitVec.xor_allOnes, show (U : Int) / 2 = ((U / 2 : Nat) : Int) by omega, BitVec.ofInt_natCast, BitVec.toNat_not, BitVec.toNat_ofNat, Nat.mod_eq_of_lt (by omega), IntKind.wrap_i64]
  unfold zag; rw [if_neg (by omega)]
  omega
theorem half_wrap {U : Nat} (h : U < 18446744073709551616) : wrap64 ((U : Int) / 2) = (U : Int) / 2 := by unfold wrap64; omega
theorem half_wrap' {U : Nat} (h : U < 18446744073709551616) : IntKind.i64.wrap ((U : Int) / 2) = (U : Int) / 2 := by rw [IntKind.wrap_i64]; omega
set_option maxHeartbeats 4000000 in
theorem next_any (A : Option Addr) (n c B : Nat) (l : List Int) (w : World) (h : Sees w B 1 A n (u8s l)) (hn : n ≤ 9223372036854775807) (hb : ∀ z ∈ l, 0 ≤ z ∧ z < 256) :
    Calls Try.prog 18 #[.slice A n c] w fun e w' => e = .returned (.tuple #[.int .i64 (nextV l), .int .i64 (nextK l)]) ∧ ∃ m, w' = w.drewN m := by
  have H := Lib.hid h
  have HLN := Lib.hid h.u8_len
  clear h
  have HBB := Lib.hid hb; clear hb
  have HNO : Hid (nextF l = none → (0 : Int) = nextV l ∧ (0 : Int) = (nextK l : Int)) := fun h => by unfold nextV nextK; rw [h]; exact ⟨rfl, rfl⟩
  have HYES : Hid (∀ u k, nextF l = some (u, k) → zag u = nextV l ∧ (k : Int) = (nextK l : Int)) := fun u k h => by unfold nextV nextK; rw [h]; exact ⟨rfl, rfl⟩
  generalize nextV l = V at *
  generalize nextK l = K at *
  go_enter Try.func18, Try.ntmps18
  go_wp2_with fail
  go_loopg [4, 5] 10 (fun g x4 x5 wr => ∃ (u i m : Nat), i + g = 10 ∧ x4 = .int .u64 u ∧ x5 = .int .i64 i ∧ u < 128 ^ i ∧ i ≤ n ∧ nextF l = nxt i u (l.drop i) ∧ wr = w.drewN m)
  case atStart => exact ⟨0, 0, 0, rfl, rfl, rfl, by simp, by omega, rfl, rfl⟩
  case round =>
    obtain ⟨u, i, m, hig, rfl, rfl, hu, hin, hnx, rfl⟩ := hrel
    have HU := Lib.hid hu; have HX := Lib.hid hnx; clear hu hnx
    by_cases hlt : i < n
    · obtain ⟨ad, hil, rfl, hc⟩ := (H.out.drewN m).u8 hlt
      have hby := HBB.out l[i] (List.getElem_mem _)
      have HD := Lib.hid (List.drop_eq_getElem_cons hil)
      generalize l[i] = cc at *
      obtain ⟨cn, rfl⟩ := Int.eq_ofNat_of_zero_le hby.1
      have hcn : cn < 256 := by omega
      by_cases h10 : i < 10
      · obtain ⟨g, rfl⟩ : ∃ g, gk = g + 1 := ⟨gk - 1, by omega⟩
        by_cases h9 : i = 9 ∧ 1 < cn
        · have hN := Lib.hid (HNO.out (by rw [HX.out, HD.out, nxt, if_neg (by omega), if_pos ⟨h9.1, by omega⟩]))
          obtain ⟨rfl, h91⟩ := h9
          have h91' : (1 : Int) < cn := by omega
          have hc9 : (w.drewN m).cell? ⟨ad.block, ad.off + 9, none⟩ = some (.int .u8 cn) := by simpa [Addr.add] using hc
          clear HU HX HD hil hc
          go_wp2_with fail
          all_goals try (go_quiet (fail))
          all_goals try (go_wp2_with fail)
          go_ret2
          exact ⟨ret_two hN.out.1 hN.out.2, by first | exact ⟨_, rfl⟩ | exact ⟨_, World.drewN_drewN _ _ _⟩⟩
        · by_cases hi9 : i = 9
          · obtain rfl : i = 9 := hi9
            have hc9 : (w.drewN m).cell? ⟨ad.block, ad.off + 9, none⟩ = some (.int .u8 cn) := by simpa [Addr.add] using hc
            have e128 : (128 : Nat) ^ 9 = 9223372036854775808 := by decide
            have hu9 := HU.out
            by_cases hz : cn = 0
            · subst hz
              have hN := Lib.hid (HNO.out (by rw [HX.out, HD.out, nxt, if_neg (by omega), if_neg (by omega), if_neg (by omega), if_pos ⟨by omega, rfl⟩]))
              obtain ⟨V9, hV9⟩ : ∃ V9, bits .or .u64 (u : Int) 0 = V9 := ⟨_, rfl⟩
              have e1 : bits .and .u8 0 127 = 0 := byte_low (c := 0) (by omega) rfl
              have e4 : bits .and .u8 0 128 = 0 := byte_top (c := 0) (by omega)
              clear HU HX HD hil hu9 hc e128 h9
              go_wp2_with fail
              all_goals try (go_quiet (fail))
              all_goals try (go_wp2_with fail)
              go_ret2
              exact ⟨ret_two hN.out.1 hN.out.2, by first | exact ⟨_, rfl⟩ | exact ⟨_, World.drewN_drewN _ _ _⟩⟩
            · obtain rfl : cn = 1 := by omega
              obtain ⟨U, hUU⟩ : ∃ U, u + 9223372036854775808 = U := ⟨_, rfl⟩
              have hUL : U < 18446744073709551616 := by omega
              have hY := Lib.hid (HYES.out U 10 (by
                rw [HX.out, HD.out, nxt, if_neg (by omega), if_neg (by omega), if_neg (by omega), if_neg (by omega)]
                rw [e128, show ((1 : Nat) : Int).toNat % 128 * 9223372036854775808 = 9223372036854775808 by decide, hUU]))
              have e1 : bits .and .u8 1 127 = 1 := byte_low (c := 1) (by omega) rfl
              have e4 : bits .and .u8 1 128 = 0 := byte_top (c := 1) (by omega)
              have e3 : bits .or .u64 (u : Int) 9223372036854775808 = (U : Int) := or_low (d := 1) (i := 9) (D := 9223372036854775808) hu9 (by decide) hUU hUL
              have e5 := low_bit hUL (rfl : U % 2 = U % 2)
              have e6 := half_wrap hUL
              have e7 := half_wrap' hUL
              rcases Nat.mod_two_eq_zero_or_one U with hp | hp
              all_goals
                rw [hp] at e5
                first | have e8 := xor_even hUL hp | have e8 := xor_odd hUL hp
                clear hp HX HD HU hUU hu9 hil hc e128 h9
                go_wp2_with fail
                all_goals try (go_quiet (fail))
                all_goals try (go_wp2_with fail)
                go_ret2
                exact ⟨ret_two hY.out.1 hY.out.2, by first | exact ⟨_, rfl⟩ | exact ⟨_, World.drewN_drewN _ _ _⟩⟩
          have hlt9 : i < 9 := by omega
          obtain ⟨d, hd⟩ : ∃ d, cn % 128 = d := ⟨_, rfl⟩
          obtain ⟨D, hD⟩ : ∃ D, d * 128 ^ i = D := ⟨_, rfl⟩
          obtain ⟨U, hUU⟩ : ∃ U, u + D = U := ⟨_, rfl⟩
          have hUlt : U < 18446744073709551616 ∧ U < 128 ^ (i + 1) := by
            have hu := HU.out
            have hdm : d < 128 := by omega
            have h1 : d * 128 ^ i ≤ 127 * 128 ^ i := Nat.mul_le_mul_right _ (by omega)
            have h2 : U < 128 ^ (i + 1) := by rw [Nat.pow_succ]; omega
            refine ⟨?_, h2⟩
            by_cases hi9 : i = 9
            · subst hi9
              have e : (128 : Nat) ^ 9 = 9223372036854775808 := by decide
              rw [e] at hD hu
              have : d ≤ 1 := by omega
              omega
            · have h3 := Nat.pow_le_pow_right (n := 128) (by omega) (show i + 1 ≤ 9 by omega)
              have e : (128 : Nat) ^ 9 = 9223372036854775808 := by decide
              omega
          have HUL := Lib.hid hUlt
          have hDlt : D < 18446744073709551616 := by omega
          have e1 := byte_low hcn hd
          have e2 := shl_low hD hDlt
          have e3 := or_low HU.out hD hUU hUlt.1
          have e4 := byte_top hcn
          have e5 := low_bit hUlt.1 (rfl : U % 2 = U % 2)
          have e6 := half_wrap hUlt.1
          have e7 := half_wrap' hUlt.1
          have hd128 : d < 128 := by omega
          have hcd : (cn : Int).toNat % 128 = d := by omega
          have HST : Hid (u + (cn : Int).toNat % 128 * 128 ^ i = U) := Lib.hid (by rw [hcd, hD, hUU])
          have h1819 : 1 < (cn : Int) → i < 9 := by omega
          have HU0 := Lib.hid HU.out
          have HDD := Lib.hid hd
          clear hcd hDlt hUlt hD hUU HU hd
          by_cases h128 : 128 ≤ cn
          · have HXC : Hid (nextF l = nxt (i + 1) U (l.drop (i + 1))) := Lib.hid (by rw [HX.out, HD.out, nxt, if_neg (by omega), if_neg (by omega), if_pos (by omega), HST.out])
            have he : ((i : Int) == 9) = false := by simp; omega
            rw [if_pos h128] at e4
            clear e5 e6 e7 h9 h1819
            go_wp2_with fail
            all_goals try (go_quiet (fail))
            all_goals try (go_wp2_with fail)
            go_roundg g
            case measure => omega
            case rel => exact ⟨U, i + 1, _, by omega, rfl, by go_num, HUL.out.2, by omega, HXC.out, by first | rfl | exact World.drewN_drewN _ _ _⟩
          · rw [if_neg h128] at e4
            by_cases hi0 : i = 0
            · obtain rfl : i = 0 := hi0
              have hu0 := HU0.out
              obtain rfl : u = 0 := by simpa using hu0
              obtain rfl : d = cn := by have := HDD.out; omega
              obtain rfl : U = d := by have := HST.out; simp at this; omega
              have hY := Lib.hid (HYES.out U 1 (by rw [HX.out, HD.out, nxt, if_neg (by omega), if_neg (by omega), if_neg (by omega), if_neg (by omega), HST.out]))
              have hc0 : (w.drewN m).cell? ad = some (.int .u8 U) := by simpa [Addr.add] using hc
              have e3' : bits .or .u64 0 (U : Int) = (U : Int) := or_low (u := 0) (d := U) (i := 0) (D := U) (by simp) (by simp) (by simp) HUL.out.1
              clear e2 e3 hc h9 h1819 hlt9 HX HD
              rcases Nat.mod_two_eq_zero_or_one U with hp | hp
              all_goals
                rw [hp] at e5
                first | have e8 := xor_even HUL.out.1 hp | have e8 := xor_odd HUL.out.1 hp
                clear hp
                go_wp2_with fail
                all_goals try (go_quiet (fail))
                all_goals try (go_wp2_with fail)
                go_ret2
                exact ⟨ret_two hY.out.1 hY.out.2, by first | exact ⟨_, rfl⟩ | exact ⟨_, World.drewN_drewN _ _ _⟩⟩
            have hle : i = 9 → ¬ (1 : Int) < cn := by omega
            have he : ((i : Int) == 9) = false := by simp; omega
            by_cases hz : 0 < i ∧ cn = 0
            · have hN := Lib.hid (HNO.out (by rw [HX.out, HD.out, nxt, if_neg (by omega), if_neg (by omega), if_neg (by omega), if_pos ⟨hz.1, by omega⟩]))
              obtain ⟨hz1, hz2⟩ := hz
              have hcz : ((cn : Int) == 0) = true := by simp; omega
              clear e5 e6 e7 h9 h1819 hle HX HD hz2
              go_wp2_with fail
              all_goals try (go_quiet (fail))
              all_goals try (go_wp2_with fail)
              go_ret2
              exact ⟨ret_two hN.out.1 hN.out.2, by first | exact ⟨_, rfl⟩ | exact ⟨_, World.drewN_drewN _ _ _⟩⟩
            · have hY := Lib.hid (HYES.out U (i + 1) (by rw [HX.out, HD.out, nxt, if_neg (by omega), if_neg (by omega), if_neg (by omega), if_neg (by omega), HST.out]))
              have hcz : 0 < i → ((cn : Int) == 0) = false := fun h => by simp; omega
              have hi1 : ((i : Int) + 1) = ((i + 1 : Nat) : Int) := by omega
              have HI1 := Lib.hid hi1
              clear HX HD h9 h1819 hz hi1 hle
              rcases Nat.mod_two_eq_zero_or_one U with hp | hp
              all_goals
                rw [hp] at e5
                first | have e8 := xor_even HUL.out.1 hp | have e8 := xor_odd HUL.out.1 hp
                clear hp
                have hpos : 0 < i := by omega
                have hcz1 := hcz hpos
                clear hcz hi0
                go_wp2_with fail
                all_goals try (go_quiet (fail))
                all_goals try (go_wp2_with fail)
                go_ret2
                exact ⟨ret_two hY.out.1 (HI1.out.trans hY.out.2), by first | exact ⟨_, rfl⟩ | exact ⟨_, World.drewN_drewN _ _ _⟩⟩
      · obtain rfl : i = 10 := by omega
        have hN := Lib.hid (HNO.out (by rw [HX.out, HD.out, nxt, if_pos (by omega)]))
        clear HX HD HU
        go_wp2_with fail
        go_ret2
        exact ⟨ret_two hN.out.1 hN.out.2, by first | exact ⟨_, rfl⟩ | exact ⟨_, World.drewN_drewN _ _ _⟩⟩
    · obtain rfl : i = n := by omega
      have hN := Lib.hid (HNO.out (by rw [HX.out, List.drop_of_length_le (by rw [HLN.out]; omega), nxt]))
      clear HX HU
      rcases Nat.lt_or_ge i 10 with hi | hi
      all_goals
        go_wp2_with fail
        go_ret2
        exact ⟨ret_two hN.out.1 hN.out.2, by first | exact ⟨_, rfl⟩ | exact ⟨_, World.drewN_drewN _ _ _⟩⟩
end Go.Proofs.Ythnnbbhoelhmbaa
