/- klaxonref11's runs, stays, Fires, State over a row. -/
import Derived.Test.YtokcmppcmobbmaaTicks
namespace Go.Proofs.Ytokcmppcmobbmaa
open Go.ChangeShapes Go.WideShapes Go.ChangeAt Go.RowKit
set_option linter.unusedVariables false
set_option maxRecDepth 100000
/-- A call answers a bool, which tells whether P is so, and leaves the world alone. -/
def Answers (P : Prop) (w : World) (e : Ending) (w' : World) : Prop := ∃ q : Bool, e = .returned (.bool q) ∧ (q = true ↔ P) ∧ w = w'
theorem ans_yes {P : Prop} {w : World} (h : P) : Answers P w (.returned (.bool true)) w := ⟨true, rfl, ⟨fun _ => h, fun _ => rfl⟩, rfl⟩
theorem ans_no {P : Prop} {w : World} (h : ¬ P) : Answers P w (.returned (.bool false)) w := ⟨false, rfl, ⟨(fun h => by cases h), fun h2 => absurd h2 h⟩, rfl⟩
/-- The n ints behind A are what r is of 0 to n - 1. -/
def Reads (w : World) (B : Nat) (A : Option Addr) (n : Nat) (r : Nat → Int) : Prop := Sees w B 1 A n (ints ((List.range n).map r))
theorem Reads.row {w : World} {B : Nat} {A : Option Addr} {n : Nat} {r : Nat → Int} (h : Reads w B A n r) {k : Nat} (hk : k < n) :
    ∃ ad, A = some ad ∧ w.cell? (ad.add k) = some (.int .i64 (r k)) := by
  obtain ⟨ad, hl, e, hc⟩ := Sees.int h hk
  simp at hc
  exact ⟨ad, e, hc⟩
theorem Reads.of_list {w : World} {B : Nat} {A : Option Addr} {n : Nat} {r : Nat → Int} {l : List Int} (h : Sees w B 1 A n (ints l)) (hl : ∀ i, i < l.length → l[i]? = some (r i)) : Reads w B A n r := by
  have hn := h.int_len
  have e : l = (List.range n).map r := by
    refine List.ext_getElem? fun i => ?_
    by_cases hi : i < n
    · rw [hl i (by omega)]; simp [hi]
    · rw [List.getElem?_eq_none (by omega), List.getElem?_eq_none (by simp; omega)]
  unfold Reads; rw [← e]; exact h
theorem Reads.below {w w' : World} {B : Nat} {A : Option Addr} {n : Nat} {r : Nat → Int} (h : Reads w B A n r) (hb : Below B w w') : Reads w' B A n r := Sees.below h hb
theorem Reads.congr {w : World} {B : Nat} {A : Option Addr} {n : Nat} {r r' : Nat → Int} (h : Reads w B A n r) (hr : ∀ i, i < n → r i = r' i) : Reads w B A n r' := by
  have e : (List.range n).map r = (List.range n).map r' := List.map_congr_left fun i hi => hr i (by simpa using hi)
  unfold Reads at *; rw [← e]; exact h
theorem runs_any (A : Option Addr) (n c a b : Nat) (r : Nat → Int) (B : Nat) (w : World) (h : Reads w B A n r) (hab : a ≤ b) (hb : b < n) (hn : n ≤ 1000000) :
    Calls Try.prog 26 #[.slice A n c, .int .i64 a, .int .i64 b] w (Answers (Runs r a b) w) := by
  have H := Lib.hid h; clear h
  go_enter Try.func26, Try.ntmps26
  go_wp2
  go_loop [7] (fun x => ∃ j : Nat, a ≤ j ∧ j ≤ b + 1 ∧ x = .int .i64 j ∧ ∀ i, a ≤ i → i < j → r i ≠ 0) (fun x => b + 1 - (intOf x).toNat)
  case atStart => exact ⟨a, Nat.le_refl _, by omega, rfl, fun i h1 h2 => by omega⟩
  case round =>
    obtain ⟨j, hj1, hj2, rfl, hr⟩ := hrel
    have HR := Lib.hid hr; clear hr
    by_cases hlt : j ≤ b
    · obtain ⟨ad, rfl, hc⟩ := H.out.row (show j < n by omega)
      generalize hz : r j = z at *
      have HZ := Lib.hid hz; clear hz
      by_cases h0 : z = 0
      · subst h0
        go_wp2
        go_ret
        exact ans_no fun h => absurd HZ.out (h j hj1 hlt)
      · have hb0 : (z == 0) = false := by simpa using h0
        have H0 := Lib.hid h0; clear h0
        go_wp2
        go_round
        case rel =>
          refine ⟨j + 1, by omega, by omega, by go_num, fun i h1 h2 => ?_⟩
          rcases Nat.lt_or_ge i j with h3 | h3
          · exact HR.out i h1 h3
          · rw [show i = j by omega, HZ.out]; exact H0.out
        case measure => simp [intOf]; omega
    · go_wp2
      go_ret
      exact ans_yes fun i h1 h2 => HR.out i h1 (by omega)

/-- A tick that is near: it erred, or one from a on to it holds no more than keep behind. -/
def Near (r : Nat → Int) (s k : Int) (a i j : Nat) : Prop := r i = 2 ∨ ∃ x, a ≤ x ∧ x < j ∧ r x = 1 ∧ ((i : Int) - x) * s ≤ k
theorem stays_any (A : Option Addr) (n c a b : Nat) (s k : Int) (r : Nat → Int) (B : Nat) (w : World) (h : Reads w B A n r) (hab : a ≤ b) (hb : b < n) (hn : n ≤ 1000) (hs1 : 1 ≤ s) (hs2 : s ≤ 1000) :
    Calls Try.prog 25 #[.slice A n c, .int .i64 s, .int .i64 k, .int .i64 a, .int .i64 b] w (Answers (Stays r s k a b) w) := by
  have H := Lib.hid h; clear h
  go_enter Try.func25, Try.ntmps25
  go_wp2
  go_loop [11] (fun x => ∃ j : Nat, a < j ∧ j ≤ b + 1 ∧ x = .int .i64 j ∧ ∀ i, a < i → i < j → Near r s k a i (i + 1)) (fun x => b + 1 - (intOf x).toNat)
  case atStart => exact ⟨a + 1, by omega, by omega, by go_num, fun i h1 h2 => by omega⟩
  case round =>
    obtain ⟨j, hj1, hj2, rfl, hr⟩ := hrel
    have HR := Lib.hid hr; clear hr
    by_cases hlt : j ≤ b
    · obtain ⟨ad, rfl, hc⟩ := H.out.row (show j < n by omega)
      generalize hz : r j = z at *
      have HZ := Lib.hid hz; clear hz
      go_wp2
      go_loop [12, 13] (fun q y => ∃ (i : Nat) (nr : Bool), a ≤ i ∧ i ≤ j + 1 ∧ y = .int .i64 i ∧ q = .bool nr ∧ (nr = true ↔ Near r s k a j i)) (fun _ y => j + 1 - (intOf y).toNat)
      case atStart =>
        refine ⟨a, decide (z = 2), Nat.le_refl _, by omega, rfl, ?_, ?_⟩
        · rfl
        · unfold Near; rw [HZ.out]; simp; intro x h1 h2; omega
      case round =>
        obtain ⟨i, nr, hi1, hi2, rfl, rfl, hnr⟩ := hrel
        have HN := Lib.hid hnr; clear hnr
        by_cases hlt2 : i ≤ j
        · obtain ⟨ad', hA', hc2⟩ := H.out.row (show i < n by omega)
          injection hA' with hA'; subst hA'
          generalize hy : r i = y at *
          have HY := Lib.hid hy; clear hy
          obtain ⟨hp1, hp2⟩ : 0 ≤ ((j : Int) - i) * s ∧ ((j : Int) - i) * s ≤ 1000 * 1000 := ⟨Int.mul_nonneg (by omega) (by omega), Int.mul_le_mul (by omega) hs2 (by omega) (by omega)⟩
          cases nr
          · have HNF : Hid (¬ Near r s k a j i) := fun h => by have := HN.out.2 h; cases this
            by_cases hy1 : y = 1
            · subst hy1
              by_cases hk : ((j : Int) - i) * s ≤ k
              · go_wp2
                go_round
                case rel =>
                  refine ⟨i + 1, true, by omega, by omega, by go_num, rfl, ⟨fun _ => .inr ⟨i, hi1, by omega, HY.out, hk⟩, fun _ => rfl⟩⟩
                case measure => simp [intOf]; omega
              · go_wp2
                go_round
                case rel =>
                  refine ⟨i + 1, false, by omega, by omega, by go_num, rfl, ⟨(fun h => by cases h), fun h => absurd h ?_⟩⟩
                  rintro (h | ⟨x, h1, h2, h3, h4⟩)
                  · exact HNF.out (.inl h)
                  · rcases Nat.lt_or_ge x i with h5 | h5
                    · exact HNF.out (.inr ⟨x, h1, h5, h3, h4⟩)
                    · rw [show x = i by omega] at h4; exact hk h4
                case measure => simp [intOf]; omega
            · have hyb : (y == 1) = false := by simpa using hy1
              have HY1 := Lib.hid hy1; clear hy1
              go_wp2
              go_round
              case rel =>
                refine ⟨i + 1, false, by omega, by omega, by go_num, rfl, ⟨(fun h => by cases h), fun h => absurd h ?_⟩⟩
                rintro (h | ⟨x, h1, h2, h3, h4⟩)
                · exact HNF.out (.inl h)
                · rcases Nat.lt_or_ge x i with h5 | h5
                  · exact HNF.out (.inr ⟨x, h1, h5, h3, h4⟩)
                  · rw [show x = i by omega, HY.out] at h3; exact HY1.out h3
              case measure => simp [intOf]; omega
          · have HNT : Hid (Near r s k a j i) := HN.out.1 rfl
            go_wp2
            go_round
            case rel =>
              refine ⟨i + 1, true, by omega, by omega, by go_num, rfl, ⟨fun _ => ?_, fun _ => rfl⟩⟩
              rcases HNT.out with h | ⟨x, h1, h2, h3, h4⟩
              · exact .inl h
              · exact .inr ⟨x, h1, by omega, h3, h4⟩
            case measure => simp [intOf]; omega
        · obtain rfl : i = j + 1 := by omega
          cases nr
          · have HNF : Hid (¬ Near r s k a j (j + 1)) := fun h => by have := HN.out.2 h; cases this
            go_wp2
            go_ret
            refine ans_no fun h => HNF.out ?_
            rcases h j hj1 hlt with h1 | ⟨x, h2, h3, h4, h5⟩
            · exact .inl h1
            · exact .inr ⟨x, h2, by omega, h4, h5⟩
          · have HNT : Hid (Near r s k a j (j + 1)) := HN.out.1 rfl
            go_wp2
            go_round
            case rel =>
              refine ⟨j + 1, by omega, by omega, by go_num, fun i h1 h2 => ?_⟩
              rcases Nat.lt_or_ge i j with h3 | h3
              · exact HR.out i h1 h3
              · rw [show i = j by omega]; exact HNT.out
            case measure => simp [intOf]; omega
    · go_wp2
      go_ret
      exact ans_yes fun i h1 h2 => by
        rcases HR.out i h1 (by omega) with h3 | ⟨x, h4, h5, h6, h7⟩
        · exact .inl h3
        · exact .inr ⟨x, h4, by omega, h6, h7⟩

set_option maxHeartbeats 1000000 in
theorem fires_any (A : Option Addr) (n c : Nat) (s f k : Int) (r : Nat → Int) (B : Nat) (hn : n ≤ 1000) (hs1 : 1 ≤ s) (hs2 : s ≤ 1000) (t : Nat) :
    ∀ w, Reads w B A n r → t < n → Calls Try.prog 15 #[.slice A n c, .int .i64 s, .int .i64 f, .int .i64 k, .int .i64 t] w (Answers (Fires r s f k (t + 1)) w) := by
  induction t using Nat.strongRecOn with
  | ind t ih =>
  intro w h ht
  have H := Lib.hid h; have IH := Lib.hid ih; clear ih
  obtain ⟨ad, rfl, hc⟩ := h.row ht
  clear h
  generalize hz : r t = z at *
  have HZ := Lib.hid hz; clear hz
  by_cases h2 : z = 2
  · subst h2
    by_cases h0 : t = 0
    · have hd : (t : Int) ≤ 0 := by omega
      have H0 := Lib.hid h0; clear h0
      go_enter Try.func15, Try.ntmps15
      go_wp2_with fail
      go_ret
      refine ans_no fun hf => ?_
      have hz := HZ.out
      have ht0 := H0.out
      subst ht0
      rcases hf with ⟨_, h⟩ | ⟨h, _⟩
      · exact h
      · exact h hz
    · obtain ⟨u, hu⟩ : ∃ u, t = u + 1 := ⟨t - 1, by omega⟩
      have hsub : (t : Int) - 1 = (u : Int) := by omega
      have HU := Lib.hid hu; clear hu h0
      go_enter Try.func15, Try.ntmps15
      go_wp2_with fail
      all_goals first
        | (exfalso; have := HU.out; omega)
        | skip
      refine (IH.out u (by have := HU.out; omega) w H.out (by have := HU.out; omega)).mono ?_
      rintro e w' ⟨q, rfl, hq, rfl⟩
      have HQ := Lib.hid hq; clear hq
      cases q
      · go_wp2_with fail
        go_ret
        refine ans_no fun hf => ?_
        rcases hf with ⟨_, h⟩ | ⟨h, _⟩
        · rw [HU.out] at h; have := HQ.out.2 h; cases this
        · exact h HZ.out
      · go_wp2_with fail
        go_ret
        refine ans_yes (.inl ⟨HZ.out, ?_⟩)
        rw [HU.out]; exact HQ.out.1 (by trivial)
  · have hz2 : (z == 2) = false := by simpa using h2
    have H2 := Lib.hid h2; clear h2
    go_enter Try.func15, Try.ntmps15
    go_wp2_with fail
    go_loop [11] (fun v => ∃ x : Int, -1 ≤ x ∧ x ≤ t ∧ v = .int .i64 x ∧ ∀ b : Nat, x < b → b ≤ t → ¬ FiresBy r s f k t b) (fun v => (intOf v + 1).toNat)
    case atStart => exact ⟨t, by omega, Int.le_refl _, rfl, fun b h1 h2 => by omega⟩
    case round =>
      obtain ⟨x, hx1, hx2, rfl, hno⟩ := hrel
      have HNO := Lib.hid hno; clear hno
      by_cases hx : 0 ≤ x
      · obtain ⟨b, rfl⟩ := Int.eq_ofNat_of_zero_le hx
        obtain ⟨ad', hA', hcb⟩ := H.out.row (show b < n by omega)
        injection hA' with hA'; subst hA'
        generalize hy : r b = y at *
        have HY := Lib.hid hy; clear hy
        have hnext : Hid (¬ FiresBy r s f k t b → ∀ b' : Nat, (b : Int) - 1 < b' → b' ≤ t → ¬ FiresBy r s f k t b') := fun hb b' h1 h2 => by
          rcases Nat.lt_or_ge b b' with h3 | h3
          · exact HNO.out b' (by omega) h2
          · rw [show b' = b by omega]; exact hb
        by_cases hy1 : y = 1
        · subst hy1
          go_wp2_with fail
          refine (stays_any (some ad) n c b t s k r B w H.out (by omega) ht hn hs1 hs2).mono ?_
          rintro e w' ⟨q, rfl, hq, rfl⟩
          have HQ := Lib.hid hq; clear hq
          cases q
          · go_wp2_with fail
            go_round
            case rel => exact ⟨(b : Int) - 1, by omega, by omega, rfl, hnext.out fun h => by have := HQ.out.2 h.2.1; cases this⟩
            case measure => simp [intOf] <;> omega
          · go_wp2_with fail
            go_loop [12] (fun v => ∃ y : Int, -1 ≤ y ∧ y ≤ b ∧ v = .int .i64 y ∧ ∀ a : Nat, y < a → ¬ Begins r s f b a) (fun v => (intOf v + 1).toNat)
            case atStart => exact ⟨b, by omega, Int.le_refl _, rfl, fun a h1 h2 => by have := h2.1; omega⟩
            case round =>
              obtain ⟨y, hy1, hy2, rfl, hnb⟩ := hrel
              have HNB := Lib.hid hnb; clear hnb
              by_cases hy : 0 ≤ y
              · obtain ⟨a, rfl⟩ := Int.eq_ofNat_of_zero_le hy
                obtain ⟨ad', hA', hca⟩ := H.out.row (show a < n by omega)
                injection hA' with hA'; subst hA'
                generalize hz : r a = z' at *
                have HZA := Lib.hid hz; clear hz
                have hnext2 : Hid (¬ Begins r s f b a → ∀ a' : Nat, (a : Int) - 1 < a' → ¬ Begins r s f b a') := fun hb a' h1 => by
                  rcases Nat.lt_or_ge a a' with h3 | h3
                  · exact HNB.out a' (by omega)
                  · rw [show a' = a by omega]; exact hb
                obtain ⟨hp1, hp2⟩ : 0 ≤ ((b : Int) - a) * s ∧ ((b : Int) - a) * s ≤ 1000 * 1000 := ⟨Int.mul_nonneg (by omega) (by omega), Int.mul_le_mul (by omega) hs2 (by omega) (by omega)⟩
                by_cases hz1 : z' = 1
                · subst hz1
                  by_cases hf : f ≤ ((b : Int) - a) * s
                  · go_wp2_with fail
                    refine (runs_any (some ad) n c a b r B w H.out (by omega) (by omega) (by omega)).mono ?_
                    rintro e w' ⟨q, rfl, hq, rfl⟩
                    have HQ2 := Lib.hid hq; clear hq
                    cases q
                    · go_wp2_with fail
                      go_round
                      case rel => exact ⟨(a : Int) - 1, by omega, by omega, rfl, hnext2.out fun h => by have := HQ2.out.2 h.2.2.2; cases this⟩
                      case measure => simp [intOf] <;> omega
                    · go_wp2_with fail
                      go_ret
                      refine ans_yes (.inr ⟨fun h => H2.out (HZ.out.symm.trans h), firesAt_by.2 ⟨b, by omega, HY.out, HQ.out.1 (by trivial), a, by omega, HZA.out, hf, HQ2.out.1 (by trivial)⟩⟩)
                  · go_wp2_with fail
                    go_round
                    case rel => exact ⟨(a : Int) - 1, by omega, by omega, rfl, hnext2.out fun h => hf h.2.2.1⟩
                    case measure => simp [intOf] <;> omega
                · have hzb : (z' == 1) = false := by simpa using hz1
                  have HZ1 := Lib.hid hz1; clear hz1
                  go_wp2_with fail
                  go_round
                  case rel => exact ⟨(a : Int) - 1, by omega, by omega, rfl, hnext2.out fun h => HZ1.out (HZA.out.symm.trans h.2.1)⟩
                  case measure => simp [intOf] <;> omega
              · go_wp2_with fail
                go_round
                case rel => exact ⟨(b : Int) - 1, by omega, by omega, rfl, hnext.out fun h => by obtain ⟨_, _, a, ha⟩ := h; exact HNB.out a (by omega) ha⟩
                case measure => simp [intOf] <;> omega
        · have hyb : (y != 1) = true := by simpa using hy1
          have HY1 := Lib.hid hy1; clear hy1
          go_wp2_with fail
          go_round
          case rel => exact ⟨(b : Int) - 1, by omega, by omega, rfl, hnext.out fun h => HY1.out (HY.out.symm.trans h.1)⟩
          case measure => simp [intOf] <;> omega
      · go_wp2_with fail
        go_ret
        refine ans_no fun hf => ?_
        rcases hf with ⟨h, _⟩ | ⟨_, h⟩
        · rw [HZ.out] at h; exact H2.out h
        · obtain ⟨b, hb, hfb⟩ := firesAt_by.1 h
          exact HNO.out b (by omega) hb hfb
/-- A call answers a state. -/
def StateAns (r : Nat → Int) (s f k : Int) (n : Nat) (w : World) (e : Ending) (w' : World) : Prop := ∃ q : Int, e = .returned (.int .i64 q) ∧ StateIs r s f k n q ∧ w = w'
theorem stateAns {r : Nat → Int} {s f k : Int} {n : Nat} {w : World} {q : Int} (h : StateIs r s f k n q) : StateAns r s f k n w (.returned (.int .i64 q)) w := ⟨q, rfl, h, rfl⟩
theorem lst_at {r : Nat → Int} {t m : Nat} (h : m ≤ t) (hm : r m ≠ 2) (ha : ∀ i : Nat, (m : Int) < i → i ≤ t → r i = 2) : Lst r (t + 1) m := ⟨by omega, hm, fun i h1 h2 => ha i (by omega) (by omega)⟩
set_option maxHeartbeats 1000000 in
theorem state_any (A : Option Addr) (n c : Nat) (s f k : Int) (r : Nat → Int) (B : Nat) (hn : n ≤ 1000) (hs1 : 1 ≤ s) (hs2 : s ≤ 1000) (t : Nat) (w : World) (h : Reads w B A n r) (ht : t < n) :
    Calls Try.prog 10 #[.slice A n c, .int .i64 s, .int .i64 f, .int .i64 k, .int .i64 t] w (StateAns r s f k (t + 1) w) := by
  have H := Lib.hid h; clear h
  go_enter Try.func10, Try.ntmps10
  go_wp2_with fail
  refine (fires_any A n c s f k r B hn hs1 hs2 t w H.out ht).mono ?_
  rintro e w' ⟨q, rfl, hq, rfl⟩
  have HQ := Lib.hid hq; clear hq
  cases q
  · have HNF : Hid (¬ Fires r s f k (t + 1)) := fun h => by have := HQ.out.2 h; cases this
    clear HQ
    go_wp2_with fail
    go_loop [4] (fun v => ∃ y : Int, -1 ≤ y ∧ y ≤ t ∧ v = .int .i64 y ∧ ∀ i : Nat, y < i → i ≤ t → r i = 2) (fun v => (intOf v + 1).toNat)
    case atStart => exact ⟨t, by omega, Int.le_refl _, rfl, fun i h1 h2 => by omega⟩
    case round =>
      obtain ⟨y, hy1, hy2, rfl, hall⟩ := hrel
      have HA := Lib.hid hall; clear hall
      by_cases hy : 0 ≤ y
      · obtain ⟨a, rfl⟩ := Int.eq_ofNat_of_zero_le hy
        obtain ⟨ad, rfl, hca⟩ := H.out.row (show a < n by omega)
        generalize hz : r a = z at *
        have HZ := Lib.hid hz; clear hz
        by_cases hz2 : z = 2
        · subst hz2
          go_wp2_with fail
          go_round
          case rel => exact ⟨(a : Int) - 1, by omega, by omega, rfl, fun i h1 h2 => by
            rcases Nat.lt_or_ge a i with h3 | h3
            · exact HA.out i (by omega) h2
            · rw [show i = a by omega]; exact HZ.out⟩
          case measure => simp [intOf] <;> omega
        · have hb2 : (z == 2) = false := by simpa using hz2
          have HL : Hid (Lst r (t + 1) a) := lst_at (by omega) (fun h => hz2 (HZ.out.symm.trans h)) HA.out
          clear hz2
          by_cases hz1 : z = 1
          · subst hz1
            go_wp2_with fail
            go_ret
            exact stateAns (.inr ⟨HNF.out, .inl ⟨rfl, a, HL.out, HZ.out⟩⟩)
          · have hb1 : (z == 1) = false := by simpa using hz1
            have HZ1 := Lib.hid hz1; clear hz1
            go_wp2_with fail
            go_ret
            exact stateAns (.inr ⟨HNF.out, .inr ⟨rfl, fun m hm h => HZ1.out (by rw [← HZ.out, lst_uniq HL.out hm]; exact h)⟩⟩)
      · go_wp2_with fail
        go_ret
        exact stateAns (.inr ⟨HNF.out, .inr ⟨rfl, fun m hm h => hm.2.1 (HA.out m (by omega) (by have := hm.1; omega))⟩⟩)
  · go_wp2_with fail
    go_ret
    exact stateAns (.inl ⟨rfl, HQ.out.1 (by trivial)⟩)
end Go.Proofs.Ytokcmppcmobbmaa
