/- Package define: place, known, kept, Fires, State, over a row of ticks. -/
import Derived.Test.YtokcmppcmobbmaaRowRef
import Derived.Deep.LoopGhost
import Derived.WalkMore
namespace Go.Proofs.Ytokcmppcmobbmaa
open Go.ChangeShapes Go.WideShapes Go.ChangeAt Go.RowKit
set_option linter.unusedVariables false
set_option maxRecDepth 100000
theorem place_yes (A : Option Addr) (n c t : Nat) (w : World) (ht : t < n) :
    Calls Try.prog 22 #[.slice A n c, .int .i64 t] w fun e w' => e = .returned (.bool true) ∧ w = w' := by
  go_enter Try.func22, Try.ntmps22
  go_wp2_with fail
  go_ret
  exact ⟨rfl, rfl⟩
/-- A call answers the last known tick. -/
def KnownAns (r : Nat → Int) (t : Nat) (w : World) (e : Ending) (w' : World) : Prop := ∃ v : Int, e = .returned (.int .i64 v) ∧ KnownIs r t v ∧ w = w'
theorem knownAns {r : Nat → Int} {t : Nat} {w : World} {v : Int} (h : KnownIs r t v) : KnownAns r t w (.returned (.int .i64 v)) w := ⟨v, rfl, h, rfl⟩
theorem known_any (A : Option Addr) (n c t : Nat) (r : Nat → Int) (B : Nat) (w : World) (h : Reads w B A n r) (ht : t < n) (hn : n ≤ 1000) :
    Calls Try.prog 23 #[.slice A n c, .int .i64 t] w (KnownAns r t w) := by
  have H := Lib.hid h; clear h
  go_enter Try.func23, Try.ntmps23
  go_wp2_with fail
  go_loop [1] (fun v => ∃ y : Int, -1 ≤ y ∧ y ≤ t ∧ v = .int .i64 y ∧ ∀ i : Nat, y < i → i ≤ t → r i = 2) (fun v => (intOf v + 1).toNat)
  case atStart => exact ⟨t, by omega, Int.le_refl _, rfl, fun i h1 h2 => by omega⟩
  case round =>
    obtain ⟨y, hy1, hy2, rfl, hall⟩ := hrel
    have HA := Lib.hid hall; clear hall
    by_cases hy : 0 ≤ y
    · obtain ⟨a, rfl⟩ := Int.eq_ofNat_of_zero_le hy
      obtain ⟨ad, rfl, hca⟩ := H.out.row (show a < n by omega)
      generalize hz : r a = z at *
      have HZ := Lib.hid hz; clear hz
      by_cases hz2 : z = 2
      · subst hz2
        go_wp2_with fail
        go_round
        case rel => exact ⟨(a : Int) - 1, by omega, by omega, rfl, fun i h1 h2 => by
          rcases Nat.lt_or_ge a i with h3 | h3
          · exact HA.out i (by omega) h2
          · rw [show i = a by omega]; exact HZ.out⟩
        case measure => simp [intOf] <;> omega
      · have hb2 : (z == 2) = false := by simpa using hz2
        have HL : Hid (Lst r (t + 1) a) := lst_at (by omega) (fun h => hz2 (HZ.out.symm.trans h)) HA.out
        clear hz2
        go_wp2_with fail
        go_ret
        exact knownAns (.inr ⟨a, rfl, HL.out⟩)
    · have hy3 : y = -1 := by omega
      subst hy3
      go_wp2_with fail
      go_ret
      exact knownAns (.inl ⟨rfl, fun i h => HA.out i (by omega) h⟩)
/-- A tick that is near, told in ticks. -/
def NearK (r : Nat → Int) (q : Int) (a i : Nat) : Prop := r i = 2 ∨ ∃ j, a ≤ j ∧ j ≤ i ∧ r j = 1 ∧ (i : Int) - j ≤ q
set_option maxHeartbeats 1000000 in
theorem kept_any (A : Option Addr) (n c a b : Nat) (q : Int) (r : Nat → Int) (B : Nat) (w : World) (h : Reads w B A n r) (hab : a ≤ b) (hb : b < n) (hn : n ≤ 1000) :
    Calls Try.prog 24 #[.slice A n c, .int .i64 q, .int .i64 a, .int .i64 b] w (Answers (Kept r q a b) w) := by
  have H := Lib.hid h; clear h
  go_enter Try.func24, Try.ntmps24
  go_wp2
  go_step3
  go_wp2
  go_step3
  go_wp2
  go_loopg [9] (b - a) (fun g v wx => ∃ j : Nat, j + g = b + 1 ∧ a < j ∧ v = .int .i64 j ∧ w = wx ∧ ∀ i, a < i → i < j → NearK r q a i)
  case atStart => exact ⟨a + 1, by omega, by omega, by go_num, rfl, fun i h1 h2 => by omega⟩
  case round =>
    obtain ⟨j, hjg, haj, rfl, rfl, hall⟩ := hrel
    have HA := Lib.hid hall; clear hall
    cases gk with
    | zero =>
      have hjz : ¬ ((j : Int) ≤ b) := by omega
      go_wp2_with fail
      try rw [Exit.noGoto_ret]
      go_ret
      exact ans_yes fun i h1 h2 => HA.out i h1 (by omega)
    | succ g =>
      have hjz : (j : Int) ≤ b := by omega
      obtain ⟨ad, rfl, hcj⟩ := H.out.row (show j < n by omega)
      generalize hz : r j = z at *
      have HZ := Lib.hid hz; clear hz
      have hnext : Hid (NearK r q a j → ∀ i, a < i → i < j + 1 → NearK r q a i) := fun hn i h1 h2 => by
        rcases Nat.lt_or_ge i j with h3 | h3
        · exact HA.out i h1 h3
        · rw [show i = j by omega]; exact hn
      by_cases hz2 : z = 2
      · subst hz2
        go_wp2_with fail
        go_roundg g
        case measure => omega
        case rel => exact ⟨j + 1, by omega, by omega, by go_num, rfl, hnext.out (.inl HZ.out)⟩
      · have hb2 : (z == 2) = false := by simpa using hz2
        have HZ2 := Lib.hid hz2; clear hz2
        go_wp2_with fail
        go_loopg [10] (j + 1 - a) (fun g2 v wx => v = .int .i64 ((a : Int) + g2 - 1) ∧ w = wx ∧ a + g2 ≤ j + 1 ∧ ∀ x, a + g2 ≤ x → x ≤ j → r x ≠ 1)
        case atStart => exact ⟨by rw [show (a : Int) + ((j + 1 - a : Nat) : Int) - 1 = j by omega], rfl, by omega, fun x h1 h2 => by omega⟩
        case round =>
          obtain ⟨rfl, rfl, hle, hno⟩ := hrel
          have HNO := Lib.hid hno; clear hno
          cases gk with
          | zero =>
            rw [show (a : Int) + ((0 : Nat) : Int) - 1 = (a : Int) - 1 by omega]
            have hja : ¬ ((a : Int) - 1 ≥ a) := by omega
            go_wp2_with fail
            try rw [Exit.noGoto_ret]
            go_ret
            refine ans_no fun h => ?_
            rcases h j haj (by omega) with h1 | ⟨x, h1, h2, h3, h4⟩
            · exact HZ2.out (HZ.out.symm.trans h1)
            · exact HNO.out x (by omega) h2 h3
          | succ y =>
            obtain ⟨u, hu⟩ : ∃ u, u = a + y := ⟨_, rfl⟩
            rw [show (a : Int) + ((y + 1 : Nat) : Int) - 1 = (u : Int) by omega]
            have HU := Lib.hid hu
            have hju : (u : Int) ≥ a := by omega
            have huj : u ≤ j := by omega
            clear hu
            by_cases hq : (j : Int) - u ≤ q
            · obtain ⟨ad', hA', hcu⟩ := H.out.row (show u < n by omega)
              injection hA' with hA'; subst hA'
              generalize hy : r u = y' at *
              have HY := Lib.hid hy; clear hy
              by_cases hy1 : y' = 1
              · subst hy1
                go_wp2_with fail
                go_roundg g
                case measure => omega
                case rel => exact ⟨j + 1, by omega, by omega, by go_num, rfl, hnext.out (.inr ⟨u, by omega, huj, HY.out, hq⟩)⟩
              · have hb1 : (y' == 1) = false := by simpa using hy1
                have HY1 := Lib.hid hy1; clear hy1
                go_wp2_with fail
                go_roundg y
                case measure => omega
                case rel => exact ⟨by have := HU.out; rw [show (u : Int) - 1 = (a : Int) + y - 1 by omega], rfl, by omega, fun x h1 h2 h3 => by
                  rcases Nat.lt_or_ge u x with h4 | h4
                  · exact HNO.out x (by have := HU.out; omega) h2 h3
                  · have := HU.out
                    rw [show x = u by omega] at h3; exact HY1.out (HY.out.symm.trans h3)⟩
            · go_wp2_with fail
              try rw [Exit.noGoto_ret]
              go_ret
              refine ans_no fun h => ?_
              rcases h j haj (by omega) with h1 | ⟨x, h1, h2, h3, h4⟩
              · exact HZ2.out (HZ.out.symm.trans h1)
              · have := HU.out
                exact HNO.out x (by omega) h2 h3
theorem near_kept {r : Nat → Int} {s f k : Int} {m b : Nat} (hs : 1 ≤ s) (hr : r b = 1) (h : ¬ Stays r s k b m) : ∀ b' : Nat, b' ≤ b → ¬ FiresBy r s f k m b' := fun b' h1 h2 => h (h2.2.1.down hs h1 hr)
set_option maxHeartbeats 1000000 in
theorem dfires_any (A : Option Addr) (n c : Nat) (s f k : Int) (r : Nat → Int) (B : Nat) (w : World) (h : Reads w B A n r) (hn : n ≤ 1000) (hs1 : 1 ≤ s) (hs2 : s ≤ 1000) (hf : 0 ≤ f) (hk : 0 ≤ k) (wf : I64 f) (wk : I64 k) (t : Nat) (ht : t < n) :
    Calls Try.prog 12 #[.slice A n c, .int .i64 s, .int .i64 f, .int .i64 k, .int .i64 t] w (Answers (Fires r s f k (t + 1)) w) := by
  have H := Lib.hid h; clear h
  have WF := Lib.hid wf; have WK := Lib.hid wk; clear wf wk
  have WS : Hid (I64 s) := by unfold Hid I64; omega
  have hwait : nLeast s f = nUp f s := by unfold nLeast mx1; rw [if_pos hs1]
  have HW : Hid (∀ i, nLeast s f ≤ i ↔ f ≤ i * s) := fun i => by rw [hwait]; exact up_le_mul hs1 hf
  have HK : Hid (∀ a b, Kept r (nMost s k) a b ↔ Stays r s k a b) := fun a b => kept_stays hs1 hk
  have HL := Lib.hid (fun w => least_any s f w WS.out WF.out)
  have HM := Lib.hid (fun w => most_any s k w WS.out WK.out)
  clear hwait
  generalize nLeast s f = wt at *
  generalize nMost s k = mst at *
  go_enter Try.func12, Try.ntmps12
  go_wp2
  go_step3
  go_wp2_with fail
  refine (place_yes A n c t w ht).mono ?_; rintro e w' ⟨rfl, rfl⟩
  go_wp2_with fail
  refine (known_any A n c t r B w H.out ht hn).mono ?_; rintro e w' ⟨v, rfl, hkn, rfl⟩
  have HKN := Lib.hid hkn; clear hkn
  go_wp2_with fail
  refine (HL.out w).mono ?_; rintro e w' ⟨rfl, rfl⟩
  rcases HKN.out with ⟨hv, hall⟩ | ⟨m, hv, hm⟩
  · subst hv
    have HA := Lib.hid hall; clear hall HKN
    go_wp2_with fail
    go_step3
    go_wp2_with fail
    go_loopg [12] 0 (fun g v wx => g = 0 ∧ v = .int .i64 (-1) ∧ w = wx)
    case atStart => exact ⟨rfl, rfl, rfl⟩
    case round =>
      obtain ⟨rfl, rfl, rfl⟩ := hrel
      go_wp2_with fail
      try rw [Exit.noGoto_ret]
      go_ret
      exact ans_no (not_fires_known HA.out)
  · subst hv
    have HMM := Lib.hid hm
    have hmt : m ≤ t := by have := hm.1; omega
    clear hm HKN
    go_wp2_with fail
    go_step3
    go_wp2_with fail
    go_loopg [12] (m + 1) (fun g v wx => v = .int .i64 ((g : Int) - 1) ∧ g ≤ m + 1 ∧ w = wx ∧ ∀ b : Nat, g ≤ b → b ≤ m → ¬ FiresBy r s f k m b)
    case atStart => exact ⟨by rw [show ((m + 1 : Nat) : Int) - 1 = m by omega], Nat.le_refl _, rfl, fun b h1 h2 => by omega⟩
    case round =>
      obtain ⟨rfl, hgm, rfl, hno⟩ := hrel
      have HNO := Lib.hid hno; clear hno
      cases gk with
      | zero =>
        rw [show ((0 : Nat) : Int) - 1 = -1 from rfl]
        go_wp2_with fail
        try rw [Exit.noGoto_ret]
        go_ret
        refine ans_no fun h => ?_
        obtain ⟨b, hb, hfb⟩ := firesAt_by.1 ((fires_known HMM.out).1 h)
        exact HNO.out b (Nat.zero_le _) hb hfb
      | succ b =>
        rw [show ((b + 1 : Nat) : Int) - 1 = b by omega]
        obtain ⟨ad, rfl, hcb⟩ := H.out.row (show b < n by omega)
        generalize hy : r b = y at *
        have HY := Lib.hid hy; clear hy
        have hnext : Hid (¬ FiresBy r s f k m b → ∀ b' : Nat, b ≤ b' → b' ≤ m → ¬ FiresBy r s f k m b') := fun hb b' h1 h2 => by
          rcases Nat.lt_or_ge b b' with h3 | h3
          · exact HNO.out b' (by omega) h2
          · rw [show b' = b by omega]; exact hb
        by_cases hy1 : y = 1
        · subst hy1
          go_wp2_with fail
          refine (HM.out w).mono ?_; rintro e w' ⟨rfl, rfl⟩
          go_wp2_with fail
          refine (kept_any (some ad) n c b m mst r B w H.out (by omega) (by omega) hn).mono ?_
          rintro e w' ⟨q, rfl, hq, rfl⟩
          have HQ := Lib.hid hq; clear hq
          cases q
          · go_wp2_with fail
            try rw [Exit.noGoto_ret]
            go_ret
            refine ans_no fun h => ?_
            obtain ⟨b', hb', hfb⟩ := firesAt_by.1 ((fires_known HMM.out).1 h)
            have hns : ¬ Stays r s k b m := fun h => by have := HQ.out.2 ((HK.out b m).2 h); cases this
            rcases Nat.lt_or_ge b b' with h3 | h3
            · exact HNO.out b' (by omega) hb' hfb
            · exact near_kept hs1 HY.out hns b' h3 hfb
          · have HST : Hid (Stays r s k b m) := (HK.out b m).1 (HQ.out.1 rfl)
            clear HQ
            go_wp2_with fail
            go_loopg [13] (b + 1) (fun g2 v wx => v = .int .i64 ((g2 : Int) - 1) ∧ g2 ≤ b + 1 ∧ w = wx ∧ (∀ i, g2 ≤ i → i ≤ b → r i ≠ 0) ∧ ∀ a : Nat, g2 ≤ a → ¬ Begins r s f b a)
            case atStart => exact ⟨by rw [show ((b + 1 : Nat) : Int) - 1 = b by omega], Nat.le_refl _, rfl, fun i h1 h2 => by omega, fun a h1 h2 => by have := h2.1; omega⟩
            case round =>
              obtain ⟨rfl, hgb, rfl, hrun, hnb⟩ := hrel
              have HR := Lib.hid hrun; have HNB := Lib.hid hnb; clear hrun hnb
              cases gk with
              | zero =>
                rw [show ((0 : Nat) : Int) - 1 = -1 from rfl]
                go_wp2_with fail
                go_roundg b
                case measure => omega
                case rel => exact ⟨rfl, by omega, rfl, hnext.out fun h => by obtain ⟨_, _, a, ha⟩ := h; exact HNB.out a (Nat.zero_le _) ha⟩
              | succ a =>
                rw [show ((a + 1 : Nat) : Int) - 1 = a by omega]
                obtain ⟨ad', hA', hca⟩ := H.out.row (show a < n by omega)
                injection hA' with hA'; subst hA'
                generalize hz : r a = z at *
                have HZ := Lib.hid hz; clear hz
                by_cases hz0 : z = 0
                · subst hz0
                  go_wp2_with fail
                  go_roundg b
                  case measure => omega
                  case rel => exact ⟨rfl, by omega, rfl, hnext.out fun h => by
                    obtain ⟨_, _, a', ha⟩ := h
                    rcases Nat.lt_or_ge a a' with h3 | h3
                    · exact HNB.out a' (by omega) ha
                    · exact ha.2.2.2 a h3 (by omega) HZ.out⟩
                · have hz0b : (z != 0) = true := by simpa using hz0
                  have HZ0 := Lib.hid hz0; clear hz0
                  have hrun2 : Hid (∀ i, a ≤ i → i ≤ b → r i ≠ 0) := fun i h1 h2 => by
                    rcases Nat.lt_or_ge a i with h3 | h3
                    · exact HR.out i (by omega) h2
                    · rw [show i = a by omega]; exact fun h => HZ0.out (HZ.out.symm.trans h)
                  have hnext2 : Hid (¬ Begins r s f b a → ∀ a' : Nat, a ≤ a' → ¬ Begins r s f b a') := fun hb a' h1 => by
                    rcases Nat.lt_or_ge a a' with h3 | h3
                    · exact HNB.out a' (by omega)
                    · rw [show a' = a by omega]; exact hb
                  by_cases hz1 : z = 1
                  · subst hz1
                    have HWA := Lib.hid (HW.out ((b : Int) - a))
                    by_cases hwt : wt ≤ (b : Int) - a
                    · go_wp2_with fail
                      try rw [Exit.noGoto_ret]
                      go_ret
                      exact ans_yes ((fires_known HMM.out).2 (firesAt_by.2 ⟨b, by omega, HY.out, HST.out, a, by omega, HZ.out, HWA.out.1 hwt, fun i h1 h2 => hrun2.out i h1 h2⟩))
                    · go_wp2_with fail
                      go_roundg a
                      case measure => omega
                      case rel => exact ⟨rfl, by omega, rfl, hrun2.out, hnext2.out fun h => by have := HWA.out.2 h.2.2.1; omega⟩
                  · have hzb : (z == 1) = false := by simpa using hz1
                    have HZ1 := Lib.hid hz1; clear hz1
                    go_wp2_with fail
                    go_roundg a
                    case measure => omega
                    case rel => exact ⟨rfl, by omega, rfl, hrun2.out, hnext2.out fun h => HZ1.out (HZ.out.symm.trans h.2.1)⟩
        · have hyb : (y != 1) = true := by simpa using hy1
          have HY1 := Lib.hid hy1; clear hy1
          go_wp2_with fail
          go_roundg b
          case measure => omega
          case rel => exact ⟨rfl, by omega, rfl, hnext.out fun h => HY1.out (HY.out.symm.trans h.1)⟩
theorem dstate_any (A : Option Addr) (n c : Nat) (s f k : Int) (r : Nat → Int) (B : Nat) (w : World) (h : Reads w B A n r) (hn : n ≤ 1000) (hs1 : 1 ≤ s) (hs2 : s ≤ 1000) (hf : 0 ≤ f) (hk : 0 ≤ k) (wf : I64 f) (wk : I64 k) (t : Nat) (ht : t < n) :
    Calls Try.prog 13 #[.slice A n c, .int .i64 s, .int .i64 f, .int .i64 k, .int .i64 t] w (StateAns r s f k (t + 1) w) := by
  have H := Lib.hid h; clear h
  have WF := Lib.hid wf; have WK := Lib.hid wk; clear wf wk
  go_enter Try.func13, Try.ntmps13
  go_wp2_with fail
  refine (place_yes A n c t w ht).mono ?_; rintro e w' ⟨rfl, rfl⟩
  go_wp2_with fail
  refine (dfires_any A n c s f k r B w H.out hn hs1 hs2 hf hk WF.out WK.out t ht).mono ?_
  rintro e w' ⟨q, rfl, hq, rfl⟩
  have HQ := Lib.hid hq; clear hq
  cases q
  · have HNF : Hid (¬ Fires r s f k (t + 1)) := fun h => by have := HQ.out.2 h; cases this
    clear HQ
    go_wp2_with fail
    refine (known_any A n c t r B w H.out ht hn).mono ?_; rintro e w' ⟨v, rfl, hkn, rfl⟩
    rcases hkn with ⟨hv, hall⟩ | ⟨m, hv, hm⟩
    · subst hv
      have HA := Lib.hid hall; clear hall
      go_wp2_with fail
      go_ret
      exact stateAns (.inr ⟨HNF.out, .inr ⟨rfl, fun m hm h => hm.2.1 (HA.out m (by have := hm.1; omega))⟩⟩)
    · subst hv
      have HL := Lib.hid hm
      have hmt : m ≤ t := by have := hm.1; omega
      clear hm
      obtain ⟨ad, rfl, hca⟩ := H.out.row (show m < n by omega)
      generalize hz : r m = z at *
      have HZ := Lib.hid hz; clear hz
      by_cases hz1 : z = 1
      · subst hz1
        go_wp2_with fail
        go_ret
        exact stateAns (.inr ⟨HNF.out, .inl ⟨rfl, m, HL.out, HZ.out⟩⟩)
      · have hb1 : (z == 1) = false := by simpa using hz1
        have HZ1 := Lib.hid hz1; clear hz1
        go_wp2_with fail
        go_ret
        exact stateAns (.inr ⟨HNF.out, .inr ⟨rfl, fun m' hm h => HZ1.out (by rw [← HZ.out, lst_uniq HL.out hm]; exact h)⟩⟩)
  · go_wp2_with fail
    go_ret
    exact stateAns (.inl ⟨rfl, HQ.out.1 (by trivial)⟩)
end Go.Proofs.Ytokcmppcmobbmaa
