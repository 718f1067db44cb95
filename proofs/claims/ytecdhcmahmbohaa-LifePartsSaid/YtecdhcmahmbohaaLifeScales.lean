/- The walk of LifeScales, out of the contracts. -/
import Derived.Test.YtecdhcmahmbohaaLifeRuns
import Derived.Test.YtecdhcmahmbohaaBook
import Derived.Deep.DeepCutAuto
namespace Go.Proofs.Ytecdhcmahmbohaa
open Go.ChangeShapes Go.WideShapes Go.ChangeAt Go.RowKit
set_option linter.unusedVariables false
set_option maxRecDepth 100000
theorem Try.infoBool : (Try.prog.info? 4).map (fun i => (i.zero, i.size, i.bytes)) = some (some (.bool false), 1, 1) := by kernel_rfl

theorem up_scale {a b n : Int} (hb : 1 ≤ b) (hn : 1 ≤ n) (ha : 0 ≤ a) : nUp (a * n) (b * n) = nUp a b := by
  have hbn : 1 ≤ b * n := by have := Int.mul_le_mul hb hn (by omega) (by omega); simpa using this
  have han : 0 ≤ a * n := Int.mul_nonneg ha (by omega)
  unfold nUp
  rw [if_neg (by omega), if_neg (by omega)]
  have h1 := Int.mul_ediv_add_emod (a + b - 1) b
  have h2 := Int.emod_nonneg (a + b - 1) (show b ≠ 0 by omega)
  have h3 := Int.emod_lt_of_pos (a + b - 1) (show 0 < b by omega)
  generalize (a + b - 1) / b = q at *
  generalize (a + b - 1) % b = r at *
  have h4 : a * n + b * n - 1 = ((r + 1) * n - 1) + b * n * q := by
    have : a = b * q + r + 1 - b := by omega
    rw [this]
    simp only [Int.add_mul, Int.sub_mul, Int.one_mul]
    rw [Int.mul_right_comm b q n]; omega
  have h5 : 0 ≤ (r + 1) * n - 1 := by have := Int.mul_le_mul (show 1 ≤ r + 1 by omega) hn (by omega) (by omega); simp at this; omega
  have h6 : (r + 1) * n - 1 < b * n := by have := Int.mul_le_mul_of_nonneg_right (show r + 1 ≤ b by omega) (show 0 ≤ n by omega); omega
  rw [h4, Int.add_mul_ediv_left _ _ (by omega), Int.ediv_eq_zero_of_lt h5 h6]; omega
theorem least_scale {s f n : Int} (hs : 1 ≤ s) (hn : 1 ≤ n) (hf : 0 ≤ f) : nLeast (s * n) (f * n) = nLeast s f := by
  have hsn : 1 ≤ s * n := by have := Int.mul_le_mul hs hn (by omega) (by omega); simpa using this
  unfold nLeast mx1
  rw [if_pos hsn, if_pos hs, up_scale hs hn hf]
theorem most_scale {s k n : Int} (hs : 1 ≤ s) (hn : 1 ≤ n) (hk : 0 ≤ k) : nMost (s * n) (k * n) = nMost s k := by
  have hsn : 1 ≤ s * n := by have := Int.mul_le_mul hs hn (by omega) (by omega); simpa using this
  have hkn : 0 ≤ k * n := Int.mul_nonneg hk (by omega)
  unfold nMost mx1
  rw [if_pos hsn, if_pos hs, if_neg (by omega), if_neg (by omega), Int.mul_ediv_mul_of_pos_left _ _ (by omega)]
theorem next_scale {s f k n : Int} (hs : 1 ≤ s) (hn : 1 ≤ n) (hf : 0 ≤ f) (hk : 0 ≤ k) (l : Lf) (t : Int) (b : Bool) : l.next t (s * n) (f * n) (k * n) b = l.next t s f k b := by
  unfold Lf.next; rw [least_scale hs hn hf, most_scale hs hn hk]
theorem run_scale {s f k n : Int} (hs : 1 ≤ s) (hn : 1 ≤ n) (hf : 0 ≤ f) (hk : 0 ≤ k) (l : Lf) (t : Int) (hs' : List Bool) : lifeRun (s * n) (f * n) (k * n) l t hs' = lifeRun s f k l t hs' := by
  induction hs' generalizing l t with
  | nil => rfl
  | cons b bs ih => simp only [lifeRun]; rw [next_scale hs hn hf hk, ih]
/-- With a wait of nought and a keep below a step: what holds fires at once, what doesn't is off. -/
def atOnce (l : List Bool) : List Int := l.map fun b => if b then 2 else 0
theorem next_once {s : Int} (hs : 1 ≤ s) (l : Lf) (t : Int) (b : Bool) (hl : l = .zero ∨ l.st = 2 ∧ l.last < t ∧ l.since ≤ l.last) :
    (l.next t s 0 (s - 1) b).st = (if b then 2 else 0) ∧ (l.next t s 0 (s - 1) b = .zero ∨ (l.next t s 0 (s - 1) b).st = 2 ∧ (l.next t s 0 (s - 1) b).last < t + 1 ∧ (l.next t s 0 (s - 1) b).since ≤ (l.next t s 0 (s - 1) b).last) := by
  have h1 : nLeast s 0 = 0 := by
    unfold nLeast mx1 nUp; rw [if_pos hs, if_neg (by omega)]; exact Int.ediv_eq_zero_of_lt (by omega) (by omega)
  have h2 : nMost s (s - 1) = 0 := by
    unfold nMost mx1; rw [if_pos hs, if_neg (by omega)]; exact Int.ediv_eq_zero_of_lt (by omega) (by omega)
  unfold Lf.next
  rw [h1, h2]
  cases b
  · have : ¬ (l.st = 2 ∧ t - l.last ≤ 0) := by
      rcases hl with rfl | ⟨h, h3, _⟩
      · simp [Lf.zero]
      · omega
    simp [this, Lf.zero]
  · rcases hl with rfl | ⟨h, h3, h4⟩
    · simp [Lf.held, Lf.zero]; omega
    · simp [Lf.held, h]; omega
theorem run_once {s : Int} (hs : 1 ≤ s) (l : Lf) (t : Int) (bs : List Bool) (hl : l = .zero ∨ l.st = 2 ∧ l.last < t ∧ l.since ≤ l.last) : lifeRun s 0 (s - 1) l t bs = atOnce bs := by
  induction bs generalizing l t with
  | nil => rfl
  | cons b bs ih =>
    obtain ⟨h1, h2⟩ := next_once hs l t b hl
    simp only [lifeRun, atOnce, List.map_cons]
    rw [h1, ih _ _ h2]; rfl
theorem atOnce_get (l : List Bool) (k : Nat) (h : k < l.length) (h' : k < (atOnce l).length) : (atOnce l)[k] = if l[k] then 2 else 0 := by simp [atOnce]
theorem prod_in {a b A B : Int} (ha : 0 ≤ a) (hb : 0 ≤ b) (hA : a ≤ A) (hB : b ≤ B) : 0 ≤ a * b ∧ a * b ≤ A * B :=
  ⟨Int.mul_nonneg ha hb, Int.mul_le_mul hA hB hb (by omega)⟩

set_option maxHeartbeats 4000000 in
theorem scales_walk (A : Option Addr) (n c k : Nat) (s0 f0 k0 m0 : Int) (zs : List Bool) (w : World) (hl : Sees w w.heap.size 1 A n (bools zs)) (hnc : n ≤ c) (hn : c ≤ 9223372036854775807)
    (wd : I64 s0) (wf : I64 f0) (wk : I64 k0) (wm : I64 m0) (hk : min (n : Int) 40 = k) (hk2 : k ≤ n) (hk3 : k ≤ 40) :
    Calls Try.prog 8 #[.slice A n c, .int .i64 s0, .int .i64 f0, .int .i64 k0, .int .i64 m0] w fun e w' => e = .returned (.bool true) ∧ Below w.heap.size w w' := by
  obtain ⟨i0, hi, hz0, hz1, hz2⟩ := info_parts Try.infoBool
  have ht := hl.take hk2
  rw [Nat.mul_one, bools_take] at ht
  have HT := Lib.hid ht; clear hl ht
  have HL : Hid ((zs.take k).length = k) := HT.out.bool_len
  generalize zs.take k = l at *
  go_enter Try.func8, Try.ntmps8
  go_upto_region 1 with fail
  go_cut [11] (fun v wx => wx.ownsRow w.heap.size 4 1 v k (bools l) ∧ Below w.heap.size w wx)
  case first =>
    have hown0 : (w.alloc (.cells #[] 4)).ownsRow w.heap.size 4 1 (.slice (some ⟨w.heap.size, 0, none⟩) 0 0) 0 [] := World.ownsRow_made w #[] 0 (Nat.le_refl _) (by unfold maxLen; omega) rfl
    have HO := Lib.hid hown0; clear hown0
    by_cases h20 : n ≤ 40
    · obtain rfl : k = n := by omega
      clear hk
      go_wp2_with (at_builtin; refine wpList_append_sees rfl (.tmp 18) (.tmp 23) 35 rfl w.heap.size 4 i0 (.bool false) 1 1 Try.underlying35 hi hz0 hz1 hz2 rfl (by decide) _ 0 [] rfl HO.out w.heap.size A k _ (bools l) rfl (HT.out.alloc (Nat.le_refl _) _) (bools_one _) (by unfold maxLen; omega) (by omega) (by simp) ?_)
      intro v' w1 hown hg
      have hb := ((Below.refl w.heap.size w).alloc (Nat.le_refl _) _).grown hg (by simp) (by simp [Value.ownBlock])
      have H1 := Lib.hid hown; have H2 := Lib.hid hb; clear hown hb hg
      go_wp2
      go_meet
      exact ⟨H1.out, H2.out⟩
    · obtain rfl : k = 40 := by omega
      clear hk
      go_wp2_with (at_builtin; refine wpList_append_sees rfl (.tmp 18) (.tmp 23) 35 rfl w.heap.size 4 i0 (.bool false) 1 1 Try.underlying35 hi hz0 hz1 hz2 rfl (by decide) _ 0 [] rfl HO.out w.heap.size A 40 _ (bools l) rfl (HT.out.alloc (Nat.le_refl _) _) (bools_one _) (by unfold maxLen; omega) (by omega) (by simp) ?_)
      intro v' w1 hown hg
      have hb := ((Below.refl w.heap.size w).alloc (Nat.le_refl _) _).grown hg (by simp) (by simp [Value.ownBlock])
      have H1 := Lib.hid hown; have H2 := Lib.hid hb; clear hown hb hg
      go_wp2
      go_meet
      exact ⟨H1.out, H2.out⟩
  case rest =>
    obtain ⟨hown, hbel⟩ := hcut
    clear hk hk2

    clear hnc hn HT
    obtain ⟨A1, c1, rfl, hc1, hc2⟩ := own_slice hown
    have HS1 := Lib.hid (Sees.of_own hown)
    have HB1 := Lib.hid hbel
    have hcs := hbel.size
    clear hown hbel
    obtain ⟨hs1, hs2⟩ := nWithin_in s0 (lo := 1) (hi := 9) (by omega)
    obtain ⟨hf1, hf2⟩ := nWithin_in f0 (lo := 0) (hi := 40) (by omega)
    obtain ⟨hk1, hk2⟩ := nWithin_in k0 (lo := 0) (hi := 40) (by omega)
    obtain ⟨hm1, hm2⟩ := nWithin_in m0 (lo := 1) (hi := 50) (by omega)
    go_wp2_with fail
    refine (within_any s0 1 9 _ wd (by omega) (by omega) (by omega)).mono ?_; rintro e w' ⟨rfl, rfl⟩
    go_wp2_with fail
    refine (within_any f0 0 40 _ wf (by omega) (by omega) (by omega)).mono ?_; rintro e w' ⟨rfl, rfl⟩
    go_wp2_with fail
    refine (within_any k0 0 40 _ wk (by omega) (by omega) (by omega)).mono ?_; rintro e w' ⟨rfl, rfl⟩
    go_wp2_with fail
    refine (within_any m0 1 50 _ wm (by omega) (by omega) (by omega)).mono ?_; rintro e w' ⟨rfl, rfl⟩
    generalize nWithin s0 1 9 = s at *
    generalize nWithin f0 0 40 = f at *
    generalize nWithin k0 0 40 = q at *
    generalize nWithin m0 1 50 = m at *
    clear wd wf wk wm
    obtain ⟨hp1, hp2⟩ := prod_in (show 0 ≤ s by omega) (show 0 ≤ m by omega) hs2 hm2
    obtain ⟨hp3, hp4⟩ := prod_in hf1 (show 0 ≤ m by omega) hf2 hm2
    obtain ⟨hp5, hp6⟩ := prod_in hk1 (show 0 ≤ m by omega) hk2 hm2
    go_wp2_with fail
    refine (run_any s f q A1 k c1 l _ wc HS1.out (Nat.le_refl _) (by unfold I64; omega) (by unfold I64; omega) (by unfold I64; omega) (by omega)).mono ?_; rintro e w2 ⟨v2, rfl, hown2, hbel2⟩
    obtain ⟨A2, c2, rfl, hc3, hc4⟩ := own_slice hown2
    have hcs2 := hbel2.size
    have HS2 := Lib.hid (HS1.out.below hbel2)
    have HR2 := Lib.hid (Sees.of_own hown2)
    have HB2 := Lib.hid (HB1.out.trans (hbel2.mono hcs)); clear hown2 hbel2
    go_wp2_with fail
    refine (run_any (s * m) (f * m) (q * m) A1 k c1 l _ w2 HS2.out hcs2 (by unfold I64; omega) (by unfold I64; omega) (by unfold I64; omega) (by omega)).mono ?_; rintro e w3 ⟨v3, rfl, hown3, hbel3⟩
    rw [run_scale hs1 hm1 hf1 hk1] at hown3
    obtain ⟨A3, c3, rfl, hc5, hc6⟩ := own_slice hown3
    have hcs3 := hbel3.size
    have HS3 := Lib.hid ((HS2.out.more hcs2).below hbel3)
    have HR3 := Lib.hid (HR2.out.below hbel3)
    have HR3' := Lib.hid (Sees.of_own hown3)
    have HB3 := Lib.hid (HB2.out.trans (hbel3.mono (by omega))); clear hown3 hbel3
    go_wp2_with fail
    refine (same_int A2 A3 k c2 k c3 _ _ _ _ _ HR3.out HR3'.out (by omega) (by omega)).mono ?_; rintro e w' ⟨rfl, d, rfl⟩
    rw [decide_eq_true rfl]
    have HS4 := Lib.hid (HS3.out.drewN d)
    have HB4 := Lib.hid (below_drewN' HB3.out d)
    clear HS1 HS2 HS3 HR2 HR3 HR3' HB1 HB2 HB3 hp1 hp2 hp3 hp4 hp5 hp6
    generalize hw4 : w3.drewN d = w4 at *
    have hcs4 : w2.heap.size ≤ w4.heap.size := by rw [← hw4]; exact hcs3
    clear hw4
    go_wp2_with fail
    refine (run_any s 0 (s - 1) A1 k c1 l _ w4 HS4.out (by omega) (by unfold I64; omega) (by unfold I64; omega) (by unfold I64; omega) (by omega)).mono ?_; rintro e w5 ⟨v5, rfl, hown5, hbel5⟩
    rw [run_once hs1 _ _ _ (.inl rfl)] at hown5
    obtain ⟨A5, c5, rfl, hc7, hc8⟩ := own_slice hown5
    have hcs5 := hbel5.size
    have HS5 := Lib.hid (HS4.out.below (hbel5.mono hcs4))
    have HR5 := Lib.hid (Sees.of_own hown5)
    have HB5 := Lib.hid (HB4.out.trans (hbel5.mono (by omega))); clear hown5 hbel5 HS4 HB4
    go_wp2_with fail
    go_loopw [63] (fun i wr => ∃ j d : Nat, j ≤ k ∧ i = .int .i64 j ∧ wr = w5.drewN d) (fun i _ => k - (intOf i).toNat)
    case atStart => exact ⟨0, 0, Nat.zero_le _, rfl, rfl⟩
    case round =>
      obtain ⟨j, d, hj, rfl, rfl⟩ := hrel
      by_cases hlt : j < k
      · obtain ⟨ad, hjl, rfl, hc⟩ := HS5.out.bool hlt
        obtain ⟨ad2, hjl2, rfl, hcr⟩ := HR5.out.int hlt
        rw [atOnce_get l j hjl] at hcr
        generalize l[j] = b at *
        cases b
        all_goals
          simp only [if_true, if_false, Bool.false_eq_true] at hcr
          go_wp2_with fail
          go_quiet (fail)
          go_wp2_with fail
          go_roundw
          case rel => exact ⟨j + 1, _, by omega, by go_num, rfl⟩
          case measure => simp [intOf]; omega
      · obtain rfl : j = k := by omega
        go_wp2_with fail
        refine (life_runs _).mono ?_; rintro e w6 ⟨rfl, hbel⟩
        have HB6 := Lib.hid ((below_drewN' HB5.out d).trans (hbel.mono (by simp; omega))); clear hbel
        go_wp2_with fail
        go_ret
        exact ⟨rfl, HB6.out⟩
theorem life_scales (A : Option Addr) (n c : Nat) (s0 f0 k0 m0 : Int) (zs : List Bool) (w : World) (hl : Sees w w.heap.size 1 A n (bools zs)) (hnc : n ≤ c) (hn : c ≤ 9223372036854775807)
    (wd : I64 s0) (wf : I64 f0) (wk : I64 k0) (wm : I64 m0) :
    Calls Try.prog 8 #[.slice A n c, .int .i64 s0, .int .i64 f0, .int .i64 k0, .int .i64 m0] w fun e w' => e = .returned (.bool true) ∧ Below w.heap.size w w' :=
  scales_walk A n c (min n 40) s0 f0 k0 m0 zs w hl hnc hn wd wf wk wm (by omega) (by omega) (by omega)
end Go.Proofs.Ytecdhcmahmbohaa
