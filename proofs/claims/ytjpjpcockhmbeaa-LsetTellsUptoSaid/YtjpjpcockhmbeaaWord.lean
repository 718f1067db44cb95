/- Words: lset.Word, klaxonref1.word. -/
import Derived.Test.YtjpjpcockhmbeaaText
namespace Go.Proofs.Ytjpjpcockhmbeaa
open Go.ChangeShapes Go.WideShapes Go.ChangeAt Go.RowKit
set_option linter.unusedVariables false
set_option maxRecDepth 100000
/-- The k'th byte of s. -/
def byteAt (s : ByteArray) (k : Nat) : Nat := if h : k < s.size then (s[k]).toNat else 0
theorem byteAt_get {s : ByteArray} {k : Nat} (h : k < s.size) : byteAt s k = (s[k]).toNat := dif_pos h
/-- Each of the first k bytes may stand in a word. -/
def allIn (s : ByteArray) : Nat → Bool
  | 0 => true
  | k + 1 => allIn s k && withinN (byteAt s k)
theorem allIn_false {s : ByteArray} {k : Nat} (h : withinN (byteAt s k) = false) : ∀ n, k < n → allIn s n = false
  | 0, hn => by omega
  | n + 1, hn => by
    unfold allIn
    by_cases e : k = n
    · subst e; rw [h, Bool.and_false]
    · rw [allIn_false h n (by omega), Bool.false_and]
/-- May s be a name. -/
def wordF (s : ByteArray) : Bool := decide (1 ≤ s.size) && decide (s.size ≤ 24) && smallN (byteAt s 0) && allIn s s.size
theorem wordF_short {s : ByteArray} (h : ¬ 1 ≤ s.size) : wordF s = false := by simp [wordF, h]
theorem wordF_long {s : ByteArray} (h : ¬ s.size ≤ 24) : wordF s = false := by simp [wordF, h]
theorem wordF_first {s : ByteArray} (h : smallN (byteAt s 0) = false) : wordF s = false := by simp [wordF, h]
theorem wordF_bad {s : ByteArray} {k : Nat} (hk : k < s.size) (h : withinN (byteAt s k) = false) : wordF s = false := by simp [wordF, allIn_false h s.size hk]
theorem wordF_yes {s : ByteArray} (h1 : 1 ≤ s.size) (h2 : s.size ≤ 24) (h3 : smallN (byteAt s 0) = true) (h4 : allIn s s.size = true) : wordF s = true := by simp [wordF, h1, h2, h3, h4]
set_option maxHeartbeats 1000000 in
theorem word_any (s : ByteArray) (w : World) : Calls Try.prog 14 #[.string s] w fun e w' => e = .returned (.bool (wordF s)) ∧ w = w' := by
  have i0 : (0 : Int) ≤ s.size := by omega
  by_cases h1 : 1 ≤ s.size
  · have j1 : ¬ (s.size : Int) < 1 := by omega
    have h0 : 0 < s.size := by omega
    by_cases h2 : s.size ≤ 24
    · have j2 : ¬ (24 : Int) < s.size := by omega
      have hb0 := byteAt_get (s := s) (k := 0) (by omega)
      have HC := Lib.hid (small_any (byteAt s 0) w)
      rw [hb0] at HC
      obtain ⟨b, hb⟩ : ∃ b, smallN (s[0]).toNat = b := ⟨_, rfl⟩
      rw [hb] at HC
      have HF := Lib.hid (hb0 ▸ hb : smallN (byteAt s 0) = b)
      have H1 := Lib.hid h1; have H2 := Lib.hid h2
      clear hb hb0 h1 h2
      cases b with
      | false =>
        have HR := Lib.hid (wordF_first HF.out)
        go_enter Try.func14, Try.ntmps14
        go_wp2_with fail
        refine HC.out.mono ?_; rintro e w' ⟨rfl, rfl⟩
        go_wp2_with fail
        go_ret
        exact ⟨ret_no rfl HR.out, rfl⟩
      | true =>
        obtain ⟨n, hn⟩ : ∃ n, s.size = n := ⟨_, rfl⟩
        go_enter Try.func14, Try.ntmps14
        go_wp2_with fail
        refine HC.out.mono ?_; rintro e w' ⟨rfl, rfl⟩
        go_wp2_with fail
        go_loopg [20] n (fun g x20 wr => ∃ k : Nat, k + g = n ∧ x20 = .int .i64 k ∧ wr = w ∧ allIn s k = true)
        case atStart => exact ⟨0, by omega, rfl, rfl, rfl⟩
        case round =>
          obtain ⟨k, hkg, rfl, rfl, hall⟩ := hrel
          have HA := Lib.hid hall; clear hall
          cases gk with
          | zero =>
            have hkn : ¬ (k : Int) < s.size := by omega
            have HR := Lib.hid (wordF_yes H1.out H2.out HF.out (by rw [hn, show n = k by omega]; exact HA.out))
            go_wp2_with fail
            go_ret
            exact ⟨ret_yes rfl HR.out, rfl⟩
          | succ g =>
            have hkn : k < s.size := by omega
            have hki : (k : Int) < s.size := by omega
            have hk0 : (0 : Int) ≤ k := by omega
            have hbk := byteAt_get hkn
            have HC2 := Lib.hid (textWithin_any (byteAt s k) wr)
            rw [hbk] at HC2
            obtain ⟨b, hb⟩ : ∃ b, withinN (s[k]).toNat = b := ⟨_, rfl⟩
            rw [hb] at HC2
            have HB := Lib.hid (hbk ▸ hb : withinN (byteAt s k) = b)
            clear hb hbk
            cases b with
            | false =>
              have HR := Lib.hid (wordF_bad hkn HB.out)
              go_wp2_with fail
              refine HC2.out.mono ?_; rintro e w' ⟨rfl, rfl⟩
              go_wp2_with fail
              go_ret
              exact ⟨ret_no rfl HR.out, rfl⟩
            | true =>
              have HN : Hid (allIn s (k + 1) = true) := Lib.hid (by unfold allIn; rw [HA.out, HB.out]; rfl)
              go_wp2_with fail
              refine HC2.out.mono ?_; rintro e w' ⟨rfl, rfl⟩
              go_wp2_with fail
              go_roundg g
              case measure => omega
              case rel => exact ⟨k + 1, by omega, by first | rfl | go_num, rfl, HN.out⟩
    · have j2 : (24 : Int) < s.size := by omega
      have HR := Lib.hid (wordF_long h2)
      clear h2
      go_enter Try.func14, Try.ntmps14
      go_wp2_with fail
      go_ret
      exact ⟨ret_no rfl HR.out, rfl⟩
  · have j1 : (s.size : Int) < 1 := by omega
    have HR := Lib.hid (wordF_short h1)
    clear h1
    go_enter Try.func14, Try.ntmps14
    go_wp2_with fail
    go_ret
    exact ⟨ret_no rfl HR.out, rfl⟩
theorem withinN_small {c : Nat} (h : smallN c = true) : withinN c = true := by simp [withinN, h]
theorem withinN_digit {c : Nat} (h1 : 48 ≤ c) (h2 : c ≤ 57) : withinN c = true := by simp [withinN, digitN_yes h1 h2]
theorem withinN_no {c : Nat} (h1 : smallN c = false) (h2 : digitN c = false) (h3 : c ≠ 95) : withinN c = false := by simp [withinN, h1, h2, h3]
set_option maxHeartbeats 1000000 in
theorem refWord_any (s : ByteArray) (w : World) (hs : s.size ≤ 9223372036854775807) : Calls Try.prog 19 #[.string s] w fun e w' => e = .returned (.bool (wordF s)) ∧ w = w' := by
  have i0 : (0 : Int) ≤ s.size := by omega
  obtain ⟨n, hn⟩ : ∃ n, s.size = n := ⟨_, rfl⟩
  go_enter Try.func19, Try.ntmps19
  go_wp2_with fail
  go_loopg [3] n (fun g x3 wr => ∃ k : Nat, k + g = n ∧ x3 = .int .i64 k ∧ wr = w ∧ allIn s k = true ∧ (0 < k → smallN (byteAt s 0) = true))
  case atStart => exact ⟨0, by omega, rfl, rfl, rfl, fun h => absurd h (by omega)⟩
  case round =>
    obtain ⟨k, hkg, rfl, rfl, hall, hfst⟩ := hrel
    have HA := Lib.hid hall; have HF := Lib.hid hfst
    clear hall hfst
    cases gk with
    | zero =>
      have hkn : ¬ (k : Int) < s.size := by omega
      by_cases h1 : 1 ≤ s.size
      · have j1 : (1 : Int) ≤ s.size := by omega
        by_cases h2 : s.size ≤ 24
        · have j2 : (s.size : Int) ≤ 24 := by omega
          have HR := Lib.hid (wordF_yes h1 h2 (HF.out (by omega)) (by rw [hn, show n = k by omega]; exact HA.out))
          clear h1 h2
          go_wp2_with fail
          go_ret
          exact ⟨ret_yes (show Ending.returned (.bool (decide ((n : Int) ≤ 24))) = .returned (.bool true) by rw [decide_eq_true (show (n : Int) ≤ 24 by omega)]) HR.out, rfl⟩
        · have j2 : ¬ (s.size : Int) ≤ 24 := by omega
          have HR := Lib.hid (wordF_long h2)
          clear h1 h2
          go_wp2_with fail
          go_ret
          exact ⟨ret_no (show Ending.returned (.bool (decide ((n : Int) ≤ 24))) = .returned (.bool false) by rw [decide_eq_false (show ¬ (n : Int) ≤ 24 by omega)]) HR.out, rfl⟩
      · have j1 : ¬ (1 : Int) ≤ s.size := by omega
        have HR := Lib.hid (wordF_short h1)
        clear h1
        go_wp2_with fail
        go_ret
        exact ⟨ret_no rfl HR.out, rfl⟩
    | succ g =>
      have hkn : k < s.size := by omega
      have hki : (k : Int) < s.size := by omega
      have hk0 : (0 : Int) ≤ k := by omega
      have hbk := byteAt_get hkn
      have HBK := Lib.hid hbk
      obtain ⟨c, hc⟩ : ∃ c, (s[k]).toNat = c := ⟨_, rfl⟩
      have HBC := Lib.hid (hbk.trans hc)
      have HNEXT : Hid (withinN c = true → allIn s (k + 1) = true) := Lib.hid fun h => by unfold allIn; rw [HA.out, HBC.out, h]; rfl
      have HBAD : Hid (withinN c = false → wordF s = false) := Lib.hid fun h => wordF_bad hkn (by rw [HBC.out]; exact h)
      have HFB : Hid (k = 0 → smallN c = false → wordF s = false) := Lib.hid fun e h => by subst e; exact wordF_first (by rw [HBC.out]; exact h)
      have HFN : Hid ((k = 0 → smallN c = true) → 0 < k + 1 → smallN (byteAt s 0) = true) := Lib.hid fun h _ => by
        rcases Nat.eq_zero_or_pos k with e | e
        · have := h e; subst e; rw [HBC.out]; exact this
        · exact HF.out e
      clear hbk HBK HBC HA HF
      by_cases h1 : 97 ≤ c
      · have i1 : (97 : Int) ≤ ((s[k]).toNat : Int) := by rw [hc]; omega
        by_cases h2 : c ≤ 122
        · have i2 : ((s[k]).toNat : Int) ≤ 122 := by rw [hc]; omega
          have HS := Lib.hid (smallN_yes h1 h2)
          clear h1 h2 hc
          have HR1 := Lib.hid (HNEXT.out (withinN_small HS.out))
          have HR2 := Lib.hid (HFN.out (fun _ => HS.out))
          clear HNEXT HBAD HFB HFN
          go_wp2_with fail
          go_roundg g
          case measure => omega
          case rel => exact ⟨k + 1, by omega, by first | rfl | go_num, rfl, HR1.out, HR2.out⟩
        · have i2 : ¬ ((s[k]).toNat : Int) ≤ 122 := by rw [hc]; omega
          have HS := Lib.hid (smallN_high h2)
          have HR0 := Lib.hid (HBAD.out (withinN_no HS.out (digitN_high (by omega)) (by omega)))
          have i3 : ¬ ((s[k]).toNat : Int) < 48 := by rw [hc]; omega
          have i4 : (57 : Int) < ((s[k]).toNat : Int) := by rw [hc]; omega
          have e1 : (((s[k]).toNat : Int) == 95) = false := by rw [hc, beq_eq_false_iff_ne]; omega
          have e2 : (((s[k]).toNat : Int) != 95) = true := by rw [hc, bne_iff_ne]; omega
          clear h1 h2 hc
          rcases Nat.eq_zero_or_pos k with hz | hz
          · have z1 : ((k : Int) == 0) = true := by simp [hz]
            clear hz
            have HR := Lib.hid (HR0.out)
            clear HNEXT HBAD HFB HFN
            go_wp2_with fail
            go_ret
            exact ⟨ret_no rfl HR.out, rfl⟩
          · have z1 : ((k : Int) == 0) = false := by rw [beq_eq_false_iff_ne]; omega
            clear hz
            have HR := Lib.hid (HR0.out)
            clear HNEXT HBAD HFB HFN
            go_wp2_with fail
            go_ret
            exact ⟨ret_no rfl HR.out, rfl⟩
      · have i1 : ¬ (97 : Int) ≤ ((s[k]).toNat : Int) := by rw [hc]; omega
        have HS := Lib.hid (smallN_low h1)
        rcases Nat.eq_zero_or_pos k with hz | hz
        · have HR0 := Lib.hid (HFB.out hz HS.out)
          have z1 : ((k : Int) == 0) = true := by simp [hz]
          clear hz h1 hc
          have HR := Lib.hid (HR0.out)
          clear HNEXT HBAD HFB HFN
          go_wp2_with fail
          go_ret
          exact ⟨ret_no rfl HR.out, rfl⟩
        · have z1 : ((k : Int) == 0) = false := by rw [beq_eq_false_iff_ne]; omega
          have HK : Hid (k = 0 → smallN c = true) := Lib.hid fun e => absurd e (by omega)
          by_cases h3 : c = 95
          · have HW := Lib.hid (show withinN c = true by rw [h3]; rfl)
            have e1 : (((s[k]).toNat : Int) == 95) = true := by rw [hc, beq_iff_eq]; omega
            have e2 : (((s[k]).toNat : Int) != 95) = false := by rw [hc, bne_eq_false_iff_eq]; omega
            clear hz h1 h3 hc
            have HR1 := Lib.hid (HNEXT.out HW.out)
            have HR2 := Lib.hid (HFN.out HK.out)
            clear HNEXT HBAD HFB HFN
            go_wp2_with fail
            go_roundg g
            case measure => omega
            case rel => exact ⟨k + 1, by omega, by first | rfl | go_num, rfl, HR1.out, HR2.out⟩
          · have e1 : (((s[k]).toNat : Int) == 95) = false := by rw [hc, beq_eq_false_iff_ne]; omega
            have e2 : (((s[k]).toNat : Int) != 95) = true := by rw [hc, bne_iff_ne]; omega
            by_cases h4 : 48 ≤ c
            · have i3 : ¬ ((s[k]).toNat : Int) < 48 := by rw [hc]; omega
              by_cases h5 : c ≤ 57
              · have i4 : ¬ (57 : Int) < ((s[k]).toNat : Int) := by rw [hc]; omega
                have HW := Lib.hid (withinN_digit h4 h5)
                clear hz h1 h3 h4 h5 hc
                have HR1 := Lib.hid (HNEXT.out HW.out)
                have HR2 := Lib.hid (HFN.out HK.out)
                clear HNEXT HBAD HFB HFN
                go_wp2_with fail
                go_roundg g
                case measure => omega
                case rel => exact ⟨k + 1, by omega, by first | rfl | go_num, rfl, HR1.out, HR2.out⟩
              · have i4 : (57 : Int) < ((s[k]).toNat : Int) := by rw [hc]; omega
                have HR0 := Lib.hid (HBAD.out (withinN_no HS.out (digitN_high h5) h3))
                clear hz h1 h3 h4 h5 hc
                have HR := Lib.hid (HR0.out)
                clear HNEXT HBAD HFB HFN
                go_wp2_with fail
                go_ret
                exact ⟨ret_no rfl HR.out, rfl⟩
            · have i3 : ((s[k]).toNat : Int) < 48 := by rw [hc]; omega
              have HR0 := Lib.hid (HBAD.out (withinN_no HS.out (digitN_low h4) h3))
              clear hz h1 h3 h4 hc
              have HR := Lib.hid (HR0.out)
              clear HNEXT HBAD HFB HFN
              go_wp2_with fail
              go_ret
              exact ⟨ret_no rfl HR.out, rfl⟩
end Go.Proofs.Ytjpjpcockhmbeaa
