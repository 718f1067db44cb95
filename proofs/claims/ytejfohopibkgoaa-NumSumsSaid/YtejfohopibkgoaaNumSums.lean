/- The walk of NumSums, out of the contracts. -/
import Derived.Test.YtejfohopibkgoaaNumRun
import Derived.Test.YtejfohopibkgoaaNumRef
import Derived.Test.YtejfohopibkgoaaNumSum
import Derived.Test.YtejfohopibkgoaaBook
import Derived.Test.YtejfohopibkgoaaBookInt
import Derived.Test.YtejfohopibkgoaaAppend
import Derived.Deep.DeepCutAuto
namespace Go.Proofs.Ytejfohopibkgoaa
open Go.ChangeShapes Go.WideShapes Go.ChangeAt Go.RowKit
set_option linter.unusedVariables false
set_option maxRecDepth 100000

theorem own_shape' {w : World} {base : Nat} {e : TypeId} {size n : Nat} {v : Value} {xs : List Value} (h : w.ownsRow base e size v n xs) : ∃ A c, v = .slice A n c ∧ n ≤ c ∧ c ≤ maxLen := by
  rcases h.2 with ⟨rfl, rfl⟩ | ⟨g, cap, cur, rfl, _, _, hc, hm, _⟩
  · exact ⟨none, 0, rfl, Nat.le_refl _, by unfold maxLen; omega⟩
  · exact ⟨_, _, rfl, hc, hm⟩
theorem sumO_sum {acc s : Int} {l : List Int} (h : sumO acc l = some s) : s = acc + l.sum := by
  induction l generalizing acc with
  | nil => simp [sumO] at h; simp [h]
  | cons z l ih =>
    rw [sumO] at h
    split at h
    · have := ih h; simp [List.sum_cons]; omega
    · cases h
theorem sumO_in {acc s : Int} {l : List Int} (ha : I64 acc) (h : sumO acc l = some s) : I64 s := by
  induction l generalizing acc with
  | nil => simp [sumO] at h; subst h; exact ha
  | cons z l ih =>
    rw [sumO] at h
    split at h
    · exact ih ‹_› h
    · cases h
/-- A sum tells: it goes, or it doesn't. -/
def SumTold (l : List Int) (v e : Int) : Prop := (e = 0 ∧ v = l.sum ∧ I64 v) ∨ (e = 3 ∧ v = 0)
theorem sum_told (l : List Int) : SumTold l (sumV (sumO 0 l)) (sumE (sumO 0 l)) := by
  cases h : sumO 0 l with
  | none => exact .inr ⟨rfl, rfl⟩
  | some s => exact .inl ⟨rfl, by have := sumO_sum h; simp [sumV]; omega, sumO_in (by unfold I64; omega) h⟩

/-- What Add tells: it goes, or it doesn't. -/
def AddTold (n v e : Int) : Prop := (I64 n ∧ v = n ∧ e = 0) ∨ (¬ I64 n ∧ v = 0 ∧ e = 3)
theorem add_told (n : Int) : AddTold n (nV n) (nE n) := by
  by_cases h : I64 n
  · exact .inl ⟨h, nV_in h, nE_in h⟩
  · exact .inr ⟨h, nV_out h, nE_out h⟩
theorem below_drewN' {B : Nat} {a w : World} (h : Below B a w) (n : Nat) : Below B a (w.drewN n) := ⟨h.os, h.tape, h.output, h.size, h.block⟩
theorem up_facts {x y : Int} (hx1 : 0 ≤ x) (hx2 : x ≤ 1099511627776) (hy1 : 1 ≤ y) (hy2 : y ≤ 1048576) :
    x ≤ nUp x y * y ∧ nUp x y * y ≤ 1099512676352 ∧ (nUp x y - 1) * y < x + 1 ∧ (x = 0 ∨ (nUp x y - 1) * y < x ∧ 0 ≤ (nUp x y - 1) * y ∧ 1 ≤ nUp x y ∧ nUp x y ≤ 1099511627776) ∧ (x = 0 → nUp x y = 0) := by
  unfold nUp
  rw [if_neg (by omega)]
  have h1 := Int.mul_ediv_add_emod (x + y - 1) y
  have h2 := Int.emod_nonneg (x + y - 1) (show y ≠ 0 by omega)
  have h3 := Int.emod_lt_of_pos (x + y - 1) (show 0 < y by omega)
  have h4 : (x + y - 1) / y * y = y * ((x + y - 1) / y) := Int.mul_comm _ _
  have h5 : ((x + y - 1) / y - 1) * y = y * ((x + y - 1) / y) - y := by rw [Int.sub_mul, h4]; omega
  refine ⟨by omega, by omega, by omega, ?_, ?_⟩
  · by_cases h0 : x = 0
    · exact .inl h0
    · have h6 : 1 ≤ (x + y - 1) / y := by rw [Int.le_ediv_iff_mul_le (by omega)]; omega
      have h7 : (x + y - 1) / y ≤ x := by
        rw [Int.ediv_le_iff_le_mul (by omega)]
        have : x ≤ x * y := by
          have := Int.mul_le_mul_of_nonneg_left hy1 hx1; omega
        omega
      refine .inr ⟨by omega, ?_, h6, by omega⟩
      have : 0 ≤ ((x + y - 1) / y - 1) * y := Int.mul_nonneg (by omega) (by omega)
      exact this
  · intro h0
    subst h0
    exact Int.ediv_eq_zero_of_lt (by omega) (by omega)
set_option maxHeartbeats 4000000 in
theorem sums_walk (A : Option Addr) (n c k : Nat) (cut a b : Int) (zs : List Int) (w : World) (hl : Sees w w.heap.size 1 A n (ints zs)) (hz : ∀ z ∈ zs, I64 z) (hnc : n ≤ c) (hn : c ≤ 9223372036854775807)
    (wcut : I64 cut) (wa : I64 a) (wb : I64 b) (hk : min (n : Int) 20 = k) (hk2 : k ≤ n) (hk3 : k ≤ 20) :
    Calls Try.prog 5 #[.slice A n c, .int .i64 cut, .int .i64 a, .int .i64 b] w fun e w' => e = .returned (.bool true) ∧ Below w.heap.size w w' := by
  obtain ⟨i0, hi, hz0, hz1, hz2⟩ := info_parts Try.infoInt'
  have ht := hl.take hk2
  rw [Nat.mul_one, ints_take] at ht
  have HT := Lib.hid ht; clear hl ht
  have HZ : Hid (∀ z ∈ zs.take k, I64 z) := fun z h => hz z (List.mem_of_mem_take h)
  clear hz
  have HL : Hid ((zs.take k).length = k) := HT.out.int_len
  generalize zs.take k = l at *
  go_enter Try.func5, Try.ntmps5
  go_upto_region 1 with fail
  go_cut [9] (fun v wx => wx.ownsRow w.heap.size 3 1 v k (ints l) ∧ Below w.heap.size w wx)
  case first =>
    have hown0 : (w.alloc (.cells #[] 3)).ownsRow w.heap.size 3 1 (.slice (some ⟨w.heap.size, 0, none⟩) 0 0) 0 [] := World.ownsRow_made w #[] 0 (Nat.le_refl _) (by unfold maxLen; omega) rfl
    have HO := Lib.hid hown0; clear hown0
    by_cases h20 : n ≤ 20
    · obtain rfl : k = n := by omega
      clear hk
      go_wp2_with (at_builtin; refine wpList_append_sees rfl (.tmp 29) (.tmp 34) 30 rfl w.heap.size 3 i0 (.int .i64 0) 1 8 Try.underlying30 hi hz0 hz1 hz2 rfl (by decide) _ 0 [] rfl HO.out w.heap.size A k _ (ints l) rfl (HT.out.alloc (Nat.le_refl _) _) (ints_oneCell _ _) (by unfold maxLen; omega) (by omega) (by simp) ?_)
      intro v' w1 hown hg
      have hb := ((Below.refl w.heap.size w).alloc (Nat.le_refl _) _).grown hg (by simp) (by simp [Value.ownBlock])
      have H1 := Lib.hid hown; have H2 := Lib.hid hb; clear hown hb hg
      go_wp2
      go_meet
      exact ⟨H1.out, H2.out⟩
    · obtain rfl : k = 20 := by omega
      clear hk
      go_wp2_with (at_builtin; refine wpList_append_sees rfl (.tmp 29) (.tmp 34) 30 rfl w.heap.size 3 i0 (.int .i64 0) 1 8 Try.underlying30 hi hz0 hz1 hz2 rfl (by decide) _ 0 [] rfl HO.out w.heap.size A 20 _ (ints l) rfl (HT.out.alloc (Nat.le_refl _) _) (ints_oneCell _ _) (by unfold maxLen; omega) (by omega) (by simp) ?_)
      intro v' w1 hown hg
      have hb := ((Below.refl w.heap.size w).alloc (Nat.le_refl _) _).grown hg (by simp) (by simp [Value.ownBlock])
      have H1 := Lib.hid hown; have H2 := Lib.hid hb; clear hown hb hg
      go_wp2
      go_meet
      exact ⟨H1.out, H2.out⟩
  case rest =>
    obtain ⟨hown, hbel⟩ := hcut
    clear hk hk2 hnc hn HT
    obtain ⟨A1, c1, rfl, hc1, hc2⟩ := own_shape' hown
    unfold maxLen at hc2
    have HS1 := Lib.hid (Sees.of_own hown)
    have HB1 := Lib.hid hbel
    clear hown hbel
    go_wp2_with fail
    have hcs := HB1.out.size
    refine (roomy_int A1 k c1 _ l 7 wc HS1.out (Nat.le_refl _) (by omega)).mono ?_; rintro e w2 ⟨rfl, hown2, hbel2⟩
    have hcs2 := hbel2.size
    have HS2 := Lib.hid (Sees.of_own hown2)
    have ht : Sees w2 w2.heap.size 1 (some ⟨wc.heap.size, 0, none⟩) k (ints l) := by
      have := (Sees.of_own hown2).take (k := k) (by omega)
      rw [Nat.mul_one, ints_take, List.take_append_of_le_length (by rw [HL.out]; exact Nat.le_refl _), List.take_of_length_le (by rw [HL.out]; exact Nat.le_refl _)] at this
      exact this
    have HST := Lib.hid ht; clear ht
    have HS1' := Lib.hid (HS1.out.below hbel2)
    have HB2 := Lib.hid (HB1.out.trans (hbel2.mono hcs)); clear hown2 hbel2
    go_wp2_with fail
    refine (sum_any _ k _ l _ w2 HST.out HZ.out (by omega)).mono ?_; rintro e w' ⟨rfl, rfl⟩
    generalize hgs : sumV (sumO 0 l) = s
    generalize hge : sumE (sumO 0 l) = e
    have HTO : Hid (SumTold l s e) := by rw [← hgs, ← hge]; exact sum_told l
    have HGS := Lib.hid hgs; have HGE := Lib.hid hge; clear hgs hge
    go_wp2_with fail
    go_loop [13, 14, 48] (fun v o i => ∃ (j : Nat) (acc : Int) (ok : Bool), j ≤ k ∧ i = .int .i64 j ∧ v = .int .i64 acc ∧ o = .bool ok ∧ I64 acc ∧ (ok = true → sumO acc (l.drop j) = sumO 0 l) ∧ (ok = false → sumO 0 l = none)) (fun _ _ i => k - (intOf i).toNat)
    case atStart => exact ⟨0, 0, true, Nat.zero_le _, rfl, rfl, rfl, by unfold I64; omega, fun _ => by simp, (fun h => by cases h)⟩
    case round =>
      obtain ⟨j, acc, ok, hj, rfl, rfl, rfl, ha, ho1, ho2⟩ := hrel
      have HA := Lib.hid ha; clear ha
      have HO1 := Lib.hid ho1; have HO2 := Lib.hid ho2; clear ho1 ho2
      by_cases hlt : j < k
      · obtain ⟨ad, hkl, rfl, hc⟩ := HS1'.out.int hlt
        have hI := HZ.out l[j] (List.getElem_mem _)
        have hst := Lib.hid (sumO_step (acc := acc) hkl)
        generalize hzk : l[j] = z at *
        have HZK := Lib.hid hzk; clear hzk
        have HI := Lib.hid hI; clear hI
        by_cases hf : I64 (acc + z)
        · have e1 := nV_in hf
          have e2 := nB_in hf
          have HF := Lib.hid hf; clear hf
          cases ok
          · go_wp2_with (go_at_call 14; refine (ref_add_any _ _ _ HA.out HI.out).mono ?_; rintro e w' ⟨rfl, rfl⟩)
            go_round
            case rel => exact ⟨j + 1, acc, false, by omega, by go_num, rfl, rfl, HA.out, (fun h => by cases h), fun _ => HO2.out (by trivial)⟩
            case measure => simp [intOf]; omega
          · go_wp2_with (go_at_call 14; refine (ref_add_any _ _ _ HA.out HI.out).mono ?_; rintro e w' ⟨rfl, rfl⟩)
            go_round
            case rel => exact ⟨j + 1, acc + z, true, by omega, by go_num, rfl, rfl, HF.out, (fun _ => by rw [← HO1.out (by trivial), hst.out, if_pos HF.out]), (fun h => by cases h)⟩
            case measure => simp [intOf]; omega
        · have e1 := nV_out hf
          have e2 := nB_out hf
          have HF := Lib.hid hf; clear hf
          cases ok
          · go_wp2_with (go_at_call 14; refine (ref_add_any _ _ _ HA.out HI.out).mono ?_; rintro e w' ⟨rfl, rfl⟩)
            go_round
            case rel => exact ⟨j + 1, acc, false, by omega, by go_num, rfl, rfl, HA.out, (fun h => by cases h), fun _ => HO2.out (by trivial)⟩
            case measure => simp [intOf]; omega
          · go_wp2_with (go_at_call 14; refine (ref_add_any _ _ _ HA.out HI.out).mono ?_; rintro e w' ⟨rfl, rfl⟩)
            go_round
            case rel => exact ⟨j + 1, acc, false, by omega, by go_num, rfl, rfl, HA.out, (fun h => by cases h), fun _ => by rw [← HO1.out (by trivial), hst.out, if_neg HF.out]⟩
            case measure => simp [intOf]; omega
      · obtain rfl : j = k := by omega
        have hd : l.drop j = [] := List.drop_of_length_le (by rw [HL.out]; exact Nat.le_refl _)
        have HD := Lib.hid hd; clear hd
        cases ok
        · have h1 : s = 0 := by rw [← HGS.out, HO2.out rfl]; rfl
          have h2 : e = 3 := by rw [← HGE.out, HO2.out rfl]; rfl
          subst h1; subst h2
          go_wp2_with fail
          have hcq := nWithin_in cut (lo := 0) (hi := (j : Int)) (by omega)
          refine (within_any cut 0 j w2 wcut (by omega) (by omega) (by omega)).mono ?_; rintro e w' ⟨rfl, rfl⟩
          generalize hgq : nWithin cut 0 j = q0 at hcq
          obtain ⟨q, rfl⟩ := Int.eq_ofNat_of_zero_le hcq.1
          have hqj : q ≤ j := by omega
          clear hgq hcq
          have hs1 := (HS1'.out.take hqj)
          rw [Nat.mul_one, ints_take] at hs1
          have hs2 := (HS1'.out.drop hqj hc1)
          rw [Nat.mul_one, ints_drop] at hs2
          obtain ⟨X, hX⟩ : ∃ X, (if c1 = q then A1 else Option.map (fun x => x.add q) A1) = X := ⟨_, rfl⟩
          rw [hX] at hs2
          have HQ1 := Lib.hid hs1; have HQ2 := Lib.hid hs2; clear hs1 hs2
          go_wp2_with fail
          refine (sum_any A1 q _ (l.take q) _ w2 HQ1.out (fun z hz => HZ.out z (List.mem_of_mem_take hz)) (by omega)).mono ?_; rintro e w' ⟨rfl, rfl⟩
          have t1 := sum_told (l.take q)
          generalize sumV (sumO 0 (l.take q)) = u at *
          generalize sumE (sumO 0 (l.take q)) = f at *
          have T1 := Lib.hid t1; clear t1
          go_wp2_with fail
          refine (sum_any X (j - q) _ (l.drop q) _ w2 HQ2.out (fun z hz => HZ.out z (List.mem_of_mem_drop hz)) (by omega)).mono ?_; rintro e w' ⟨rfl, rfl⟩
          clear hX
          have t2 := sum_told (l.drop q)
          generalize sumV (sumO 0 (l.drop q)) = v at *
          generalize sumE (sumO 0 (l.drop q)) = g at *
          have T2 := Lib.hid t2; clear t2
          have hu64 : I64 u := by rcases T1.out with ⟨_, _, h⟩ | ⟨_, h⟩; exact h; subst h; unfold I64; omega
          have hv64 : I64 v := by rcases T2.out with ⟨_, _, h⟩ | ⟨_, h⟩; exact h; subst h; unfold I64; omega
          go_wp2_with fail
          refine (num_add_any u v w2 hu64 hv64).mono ?_; rintro e w' ⟨rfl, rfl⟩
          clear hu64 hv64
          have hat := add_told (u + v)
          generalize nV (u + v) = p at hat ⊢
          generalize nE (u + v) = h at hat ⊢
          have HAT := Lib.hid hat; clear hat
          go_upto_region 19 with fail
          go_cut [109] (fun t wx => t = .bool false ∧ wx = w2)
          case first =>
            go_wp2_with fail
            go_meet
            exact ⟨rfl, rfl⟩
          case rest =>
            obtain ⟨rfl, rfl⟩ := hcut
            clear T1 T2 HAT
            obtain ⟨hx1, hx2⟩ := nWithin_in a (lo := 0) (hi := 1099511627776) (by omega)
            obtain ⟨hy1, hy2⟩ := nWithin_in b (lo := 1) (hi := 1048576) (by omega)
            go_wp2_with fail
            refine (within_any a 0 1099511627776 _ wa (by omega) (by omega) (by omega)).mono ?_; rintro e w' ⟨rfl, rfl⟩
            go_wp2_with fail
            refine (within_any b 1 1048576 _ wb (by omega) (by omega) (by omega)).mono ?_; rintro e w' ⟨rfl, rfl⟩
            generalize nWithin a 0 1099511627776 = x at *
            generalize nWithin b 1 1048576 = y at *
            go_wp2_with fail
            refine (num_up_any x y _ (by unfold I64; omega) (by unfold I64; omega) hx1 hy1).mono ?_; rintro e w' ⟨rfl, rfl⟩
            obtain ⟨hn1, hn2, hn3, hn4, hn5⟩ := up_facts hx1 hx2 hy1 hy2
            generalize nUp x y = n0 at *
            have HN5 := Lib.hid hn5; clear hn5
            by_cases hx0 : x = 0
            · obtain ⟨rfl, rfl⟩ : n0 = 0 ∧ x = 0 := ⟨HN5.out hx0, hx0⟩
              go_wp2_with fail
              refine (intact_int _ _ _ _ _ _ _ _ _ _ 7 _ HS2.out HS1'.out (Nat.le_refl _) (by omega) (by omega)).mono ?_; rintro e w' ⟨rfl, m, rfl⟩; rw [decide_eq_true rfl]
              go_wp2_with fail
              refine (num_up_none (-1) (y) _ (by omega)).mono ?_; rintro e w' ⟨rfl, rfl⟩
              go_wp2_with fail
              refine (num_up_none (0) (-y) _ (by omega)).mono ?_; rintro e w' ⟨rfl, rfl⟩
              go_wp2_with fail
              refine (num_up_none (0) (0) _ (by omega)).mono ?_; rintro e w' ⟨rfl, rfl⟩
              go_wp2_with fail
              refine (num_runs _).mono ?_; rintro e w' ⟨rfl, rfl⟩
              go_wp2_with fail
              go_ret
              exact ⟨rfl, below_drewN' HB2.out _⟩
            · have hx0' : (x == 0) = false := by simpa using hx0
              have hn0 : ¬ n0 = 0 := by omega
              go_wp2_with fail
              refine (intact_int _ _ _ _ _ _ _ _ _ _ 7 _ HS2.out HS1'.out (Nat.le_refl _) (by omega) (by omega)).mono ?_; rintro e w' ⟨rfl, m, rfl⟩; rw [decide_eq_true rfl]
              go_wp2_with fail
              refine (num_up_none (-x - 1) (y) _ (by omega)).mono ?_; rintro e w' ⟨rfl, rfl⟩
              go_wp2_with fail
              refine (num_up_none (x) (-y) _ (by omega)).mono ?_; rintro e w' ⟨rfl, rfl⟩
              go_wp2_with fail
              refine (num_up_none (x) (0) _ (by omega)).mono ?_; rintro e w' ⟨rfl, rfl⟩
              go_wp2_with fail
              refine (num_runs _).mono ?_; rintro e w' ⟨rfl, rfl⟩
              go_wp2_with fail
              go_ret
              exact ⟨rfl, below_drewN' HB2.out _⟩
        · have h0 : sumO 0 l = some acc := by rw [← HO1.out rfl, HD.out]; rfl
          have h1 : s = acc := by rw [← HGS.out, h0]; rfl
          have h2 : e = 0 := by rw [← HGE.out, h0]; rfl
          subst h1; subst h2
          have H0 := Lib.hid h0; clear h0
          go_wp2_with fail
          have hcq := nWithin_in cut (lo := 0) (hi := (j : Int)) (by omega)
          refine (within_any cut 0 j w2 wcut (by omega) (by omega) (by omega)).mono ?_; rintro e w' ⟨rfl, rfl⟩
          generalize hgq : nWithin cut 0 j = q0 at hcq
          obtain ⟨q, rfl⟩ := Int.eq_ofNat_of_zero_le hcq.1
          have hqj : q ≤ j := by omega
          clear hgq hcq
          have hs1 := (HS1'.out.take hqj)
          rw [Nat.mul_one, ints_take] at hs1
          have hs2 := (HS1'.out.drop hqj hc1)
          rw [Nat.mul_one, ints_drop] at hs2
          obtain ⟨X, hX⟩ : ∃ X, (if c1 = q then A1 else Option.map (fun x => x.add q) A1) = X := ⟨_, rfl⟩
          rw [hX] at hs2
          have HQ1 := Lib.hid hs1; have HQ2 := Lib.hid hs2; clear hs1 hs2
          go_wp2_with fail
          refine (sum_any A1 q _ (l.take q) _ w2 HQ1.out (fun z hz => HZ.out z (List.mem_of_mem_take hz)) (by omega)).mono ?_; rintro e w' ⟨rfl, rfl⟩
          have t1 := sum_told (l.take q)
          generalize sumV (sumO 0 (l.take q)) = u at *
          generalize sumE (sumO 0 (l.take q)) = f at *
          have T1 := Lib.hid t1; clear t1
          go_wp2_with fail
          refine (sum_any X (j - q) _ (l.drop q) _ w2 HQ2.out (fun z hz => HZ.out z (List.mem_of_mem_drop hz)) (by omega)).mono ?_; rintro e w' ⟨rfl, rfl⟩
          clear hX
          have t2 := sum_told (l.drop q)
          generalize sumV (sumO 0 (l.drop q)) = v at *
          generalize sumE (sumO 0 (l.drop q)) = g at *
          have T2 := Lib.hid t2; clear t2
          have hu64 : I64 u := by rcases T1.out with ⟨_, _, h⟩ | ⟨_, h⟩; exact h; subst h; unfold I64; omega
          have hv64 : I64 v := by rcases T2.out with ⟨_, _, h⟩ | ⟨_, h⟩; exact h; subst h; unfold I64; omega
          have HSUM : Hid (s = (l.take q).sum + (l.drop q).sum) := by
            show s = _
            have h3 := sumO_sum H0.out
            rw [← List.take_append_drop q l, List.sum_append] at h3; omega
          go_wp2_with fail
          refine (num_add_any u v w2 hu64 hv64).mono ?_; rintro e w' ⟨rfl, rfl⟩
          clear hu64 hv64
          have hat := add_told (u + v)
          generalize nV (u + v) = p at hat ⊢
          generalize nE (u + v) = h at hat ⊢
          have HAT := Lib.hid hat; clear hat
          go_upto_region 19 with fail
          go_cut [109] (fun t wx => t = .bool false ∧ wx = w2)
          case first =>
            rcases T1.out with ⟨rfl, hu, _⟩ | ⟨rfl, _⟩
            · rcases T2.out with ⟨rfl, hv, _⟩ | ⟨rfl, _⟩
              · rcases HAT.out with ⟨_, hp, rfl⟩ | ⟨_, _, rfl⟩
                · have hs : p = s := by rw [hp, hu, hv]; exact HSUM.out.symm
                  have hs' : (p != s) = false := by rw [hs]; simp
                  clear hs hp hu hv
                  go_wp2_with fail
                  go_meet
                  exact ⟨rfl, rfl⟩
                · clear hu hv
                  go_wp2_with fail
                  go_meet
                  exact ⟨rfl, rfl⟩
              · clear hu
                go_wp2_with fail
                go_meet
                exact ⟨rfl, rfl⟩
            · go_wp2_with fail
              go_meet
              exact ⟨rfl, rfl⟩
          case rest =>
            obtain ⟨rfl, rfl⟩ := hcut
            clear T1 T2 HAT
            obtain ⟨hx1, hx2⟩ := nWithin_in a (lo := 0) (hi := 1099511627776) (by omega)
            obtain ⟨hy1, hy2⟩ := nWithin_in b (lo := 1) (hi := 1048576) (by omega)
            go_wp2_with fail
            refine (within_any a 0 1099511627776 _ wa (by omega) (by omega) (by omega)).mono ?_; rintro e w' ⟨rfl, rfl⟩
            go_wp2_with fail
            refine (within_any b 1 1048576 _ wb (by omega) (by omega) (by omega)).mono ?_; rintro e w' ⟨rfl, rfl⟩
            generalize nWithin a 0 1099511627776 = x at *
            generalize nWithin b 1 1048576 = y at *
            go_wp2_with fail
            refine (num_up_any x y _ (by unfold I64; omega) (by unfold I64; omega) hx1 hy1).mono ?_; rintro e w' ⟨rfl, rfl⟩
            obtain ⟨hn1, hn2, hn3, hn4, hn5⟩ := up_facts hx1 hx2 hy1 hy2
            generalize nUp x y = n0 at *
            have HN5 := Lib.hid hn5; clear hn5
            by_cases hx0 : x = 0
            · obtain ⟨rfl, rfl⟩ : n0 = 0 ∧ x = 0 := ⟨HN5.out hx0, hx0⟩
              go_wp2_with fail
              refine (intact_int _ _ _ _ _ _ _ _ _ _ 7 _ HS2.out HS1'.out (Nat.le_refl _) (by omega) (by omega)).mono ?_; rintro e w' ⟨rfl, m, rfl⟩; rw [decide_eq_true rfl]
              go_wp2_with fail
              refine (num_up_none (-1) (y) _ (by omega)).mono ?_; rintro e w' ⟨rfl, rfl⟩
              go_wp2_with fail
              refine (num_up_none (0) (-y) _ (by omega)).mono ?_; rintro e w' ⟨rfl, rfl⟩
              go_wp2_with fail
              refine (num_up_none (0) (0) _ (by omega)).mono ?_; rintro e w' ⟨rfl, rfl⟩
              go_wp2_with fail
              refine (num_runs _).mono ?_; rintro e w' ⟨rfl, rfl⟩
              go_wp2_with fail
              go_ret
              exact ⟨rfl, below_drewN' HB2.out _⟩
            · have hx0' : (x == 0) = false := by simpa using hx0
              have hn0 : ¬ n0 = 0 := by omega
              go_wp2_with fail
              refine (intact_int _ _ _ _ _ _ _ _ _ _ 7 _ HS2.out HS1'.out (Nat.le_refl _) (by omega) (by omega)).mono ?_; rintro e w' ⟨rfl, m, rfl⟩; rw [decide_eq_true rfl]
              go_wp2_with fail
              refine (num_up_none (-x - 1) (y) _ (by omega)).mono ?_; rintro e w' ⟨rfl, rfl⟩
              go_wp2_with fail
              refine (num_up_none (x) (-y) _ (by omega)).mono ?_; rintro e w' ⟨rfl, rfl⟩
              go_wp2_with fail
              refine (num_up_none (x) (0) _ (by omega)).mono ?_; rintro e w' ⟨rfl, rfl⟩
              go_wp2_with fail
              refine (num_runs _).mono ?_; rintro e w' ⟨rfl, rfl⟩
              go_wp2_with fail
              go_ret
              exact ⟨rfl, below_drewN' HB2.out _⟩
theorem num_sums (A : Option Addr) (n c : Nat) (cut a b : Int) (zs : List Int) (w : World) (hl : Sees w w.heap.size 1 A n (ints zs)) (hz : ∀ z ∈ zs, I64 z) (hnc : n ≤ c) (hn : c ≤ 9223372036854775807)
    (wcut : I64 cut) (wa : I64 a) (wb : I64 b) :
    Calls Try.prog 5 #[.slice A n c, .int .i64 cut, .int .i64 a, .int .i64 b] w fun e w' => e = .returned (.bool true) ∧ Below w.heap.size w w' :=
  sums_walk A n c (min n 20) cut a b zs w hl hz hnc hn wcut wa wb (by omega) (by omega) (by omega)
end Go.Proofs.Ytejfohopibkgoaa
