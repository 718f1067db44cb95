/- The walk of NumOrder, out of the contracts. -/
import Derived.Test.YtejfohopibkgoaaNumRun
import Derived.Test.YtejfohopibkgoaaBook
namespace Go.Proofs.Ytejfohopibkgoaa
open Go.ChangeShapes Go.WideShapes Go.ChangeAt Go.RowKit
set_option linter.unusedVariables false
set_option maxRecDepth 100000

theorem up_mono {x y k : Int} (hx : 0 ≤ x) (h : x ≤ y) (hk : 1 ≤ k) : nUp x k ≤ nUp y k := by
  unfold nUp
  rw [if_neg (by omega), if_neg (by omega)]
  exact Int.ediv_le_ediv (by omega) (by omega)
theorem up_one {x : Int} (hx : 0 ≤ x) : nUp x 1 = x := by
  unfold nUp; rw [if_neg (by omega)]; omega
theorem top_over {k : Int} (h : 2 ≤ k) (h2 : k ≤ 1099511627776) : ¬ I64 ((9223372036854775807 / k + 1) * k) := by
  have h1 := Int.mul_ediv_add_emod 9223372036854775807 k
  have h3 := Int.emod_lt_of_pos 9223372036854775807 (show 0 < k by omega)
  have h4 : (9223372036854775807 / k + 1) * k = k * (9223372036854775807 / k) + k := by rw [Int.add_mul, Int.mul_comm]; omega
  unfold I64; omega
theorem top_in {k : Int} (h : 2 ≤ k) (h2 : k ≤ 1099511627776) : I64 (9223372036854775807 / k * k) ∧ 9223372036854775807 / k * k ≤ 9223372036854775807 := by
  have h1 := Int.mul_ediv_add_emod 9223372036854775807 k
  have h3 := Int.emod_nonneg 9223372036854775807 (show k ≠ 0 by omega)
  have h4 : 9223372036854775807 / k * k = k * (9223372036854775807 / k) := Int.mul_comm _ _
  have h5 : 0 ≤ k * (9223372036854775807 / k) := Int.mul_nonneg (by omega) (Int.ediv_nonneg (by omega) (by omega))
  unfold I64; omega
theorem top_half {k : Int} (h : 2 ≤ k) : 0 ≤ 9223372036854775807 / k ∧ 9223372036854775807 / k ≤ 4611686018427387903 := by
  have h1 := Int.mul_ediv_add_emod 9223372036854775807 k
  have h3 := Int.emod_nonneg 9223372036854775807 (show k ≠ 0 by omega)
  have h5 : 0 ≤ 9223372036854775807 / k := Int.ediv_nonneg (by omega) (by omega)
  have h6 : 2 * (9223372036854775807 / k) ≤ k * (9223372036854775807 / k) := Int.mul_le_mul_of_nonneg_right (by omega) h5
  omega

/-- What a sum, or a difference, tells: it goes, or it doesn't. -/
def Told (n v e : Int) : Prop := (I64 n ∧ v = n ∧ e = 0) ∨ (¬ I64 n ∧ v = 0 ∧ e = 3)
theorem told (n : Int) : Told n (nV n) (nE n) := by
  by_cases h : I64 n
  · exact .inl ⟨h, nV_in h, nE_in h⟩
  · exact .inr ⟨h, nV_out h, nE_out h⟩

set_option maxHeartbeats 400000 in
theorem order_000 (a b d k x s e t f u g p q i r : Int) (w : World)
    (c18 : Hid (∀ w, Calls Try.prog 18 #[.int .i64 d, .int .i64 2, .int .i64 1099511627776] w fun e w' => e = .returned (.int .i64 k) ∧ w = w'))
    (c8 : Hid (∀ w, Calls Try.prog 8 #[.int .i64 a, .int .i64 b] w fun y w' => y = .returned (.tuple #[.int .i64 s, .int .i64 e]) ∧ w = w'))
    (c8' : Hid (∀ w, Calls Try.prog 8 #[.int .i64 a, .int .i64 k] w fun y w' => y = .returned (.tuple #[.int .i64 t, .int .i64 f]) ∧ w = w'))
    (c12 : Hid (∀ w, Calls Try.prog 12 #[.int .i64 a, .int .i64 k] w fun y w' => y = .returned (.tuple #[.int .i64 u, .int .i64 g]) ∧ w = w'))
    (c13 : Hid (∀ w, Calls Try.prog 13 #[.int .i64 (9223372036854775807 / k + 1), .int .i64 k] w fun y w' => y = .returned (.tuple #[.int .i64 0, .int .i64 3]) ∧ w = w'))
    (c13' : Hid (∀ w, Calls Try.prog 13 #[.int .i64 (9223372036854775807 / k), .int .i64 k] w fun y w' => y = .returned (.tuple #[.int .i64 p, .int .i64 0]) ∧ w = w'))
    (c18' : Hid (∀ w, Calls Try.prog 18 #[.int .i64 a, .int .i64 0, .int .i64 1099511627776] w fun e w' => e = .returned (.int .i64 x) ∧ w = w'))
    (c11 : Hid (∀ w, Calls Try.prog 11 #[.int .i64 x, .int .i64 k] w fun y w' => y = .returned (.int .i64 q) ∧ w = w'))
    (c11' : Hid (∀ w, Calls Try.prog 11 #[.int .i64 (x + 1), .int .i64 k] w fun y w' => y = .returned (.int .i64 i) ∧ w = w'))
    (c11'' : Hid (∀ w, Calls Try.prog 11 #[.int .i64 x, .int .i64 1] w fun y w' => y = .returned (.int .i64 x) ∧ w = w'))
    (hk1 : 2 ≤ k) (hk2 : k ≤ 1099511627776) (hx1 : 0 ≤ x) (hx2 : x ≤ 1099511627776) (ht1 : 0 ≤ 9223372036854775807 / k) (ht2 : 9223372036854775807 / k ≤ 4611686018427387903)
    (hs : s < a ∧ e = 0 ∧ b < 0)
    (hf : f = 0 ∧ a < t)
    (hg : g = 0 ∧ u < a)
    (hp : p ≤ 9223372036854775807) (hq : q ≤ i) :
    Calls Try.prog 7 #[.int .i64 a, .int .i64 b, .int .i64 d] w fun e w' => e = .returned (.bool true) ∧ w = w' := by
  obtain ⟨hs, rfl, hb⟩ := hs
  obtain ⟨rfl, hf⟩ := hf
  obtain ⟨rfl, hg⟩ := hg
  go_enter Try.func7, Try.ntmps7
  go_wp2_with fail
  refine (c18.out _).mono ?_; rintro e w' ⟨rfl, rfl⟩
  go_wp2_with fail
  refine (c8.out _).mono ?_; rintro e w' ⟨rfl, rfl⟩
  go_wp2_with fail
  refine (c8'.out _).mono ?_; rintro e w' ⟨rfl, rfl⟩
  go_wp2_with fail
  refine (c12.out _).mono ?_; rintro e w' ⟨rfl, rfl⟩
  go_wp2_with fail
  refine (c13.out _).mono ?_; rintro e w' ⟨rfl, rfl⟩
  go_wp2_with fail
  refine (c13'.out _).mono ?_; rintro e w' ⟨rfl, rfl⟩
  go_wp2_with fail
  refine (c18'.out _).mono ?_; rintro e w' ⟨rfl, rfl⟩
  go_wp2_with fail
  refine (c11.out _).mono ?_; rintro e w' ⟨rfl, rfl⟩
  go_wp2_with fail
  refine (c11'.out _).mono ?_; rintro e w' ⟨rfl, rfl⟩
  go_wp2_with fail
  refine (c11''.out _).mono ?_; rintro e w' ⟨rfl, rfl⟩
  go_wp2_with fail
  refine (num_runs _).mono ?_; rintro e w' ⟨rfl, rfl⟩
  go_wp2_with fail
  go_ret
  exact ⟨rfl, rfl⟩

set_option maxHeartbeats 400000 in
theorem order_001 (a b d k x s e t f u g p q i r : Int) (w : World)
    (c18 : Hid (∀ w, Calls Try.prog 18 #[.int .i64 d, .int .i64 2, .int .i64 1099511627776] w fun e w' => e = .returned (.int .i64 k) ∧ w = w'))
    (c8 : Hid (∀ w, Calls Try.prog 8 #[.int .i64 a, .int .i64 b] w fun y w' => y = .returned (.tuple #[.int .i64 s, .int .i64 e]) ∧ w = w'))
    (c8' : Hid (∀ w, Calls Try.prog 8 #[.int .i64 a, .int .i64 k] w fun y w' => y = .returned (.tuple #[.int .i64 t, .int .i64 f]) ∧ w = w'))
    (c12 : Hid (∀ w, Calls Try.prog 12 #[.int .i64 a, .int .i64 k] w fun y w' => y = .returned (.tuple #[.int .i64 u, .int .i64 g]) ∧ w = w'))
    (c13 : Hid (∀ w, Calls Try.prog 13 #[.int .i64 (9223372036854775807 / k + 1), .int .i64 k] w fun y w' => y = .returned (.tuple #[.int .i64 0, .int .i64 3]) ∧ w = w'))
    (c13' : Hid (∀ w, Calls Try.prog 13 #[.int .i64 (9223372036854775807 / k), .int .i64 k] w fun y w' => y = .returned (.tuple #[.int .i64 p, .int .i64 0]) ∧ w = w'))
    (c18' : Hid (∀ w, Calls Try.prog 18 #[.int .i64 a, .int .i64 0, .int .i64 1099511627776] w fun e w' => e = .returned (.int .i64 x) ∧ w = w'))
    (c11 : Hid (∀ w, Calls Try.prog 11 #[.int .i64 x, .int .i64 k] w fun y w' => y = .returned (.int .i64 q) ∧ w = w'))
    (c11' : Hid (∀ w, Calls Try.prog 11 #[.int .i64 (x + 1), .int .i64 k] w fun y w' => y = .returned (.int .i64 i) ∧ w = w'))
    (c11'' : Hid (∀ w, Calls Try.prog 11 #[.int .i64 x, .int .i64 1] w fun y w' => y = .returned (.int .i64 x) ∧ w = w'))
    (hk1 : 2 ≤ k) (hk2 : k ≤ 1099511627776) (hx1 : 0 ≤ x) (hx2 : x ≤ 1099511627776) (ht1 : 0 ≤ 9223372036854775807 / k) (ht2 : 9223372036854775807 / k ≤ 4611686018427387903)
    (hs : s < a ∧ e = 0 ∧ b < 0)
    (hf : f = 0 ∧ a < t)
    (hg : g = 3 ∧ a < -9223372036854775808 + k)
    (hp : p ≤ 9223372036854775807) (hq : q ≤ i) :
    Calls Try.prog 7 #[.int .i64 a, .int .i64 b, .int .i64 d] w fun e w' => e = .returned (.bool true) ∧ w = w' := by
  obtain ⟨hs, rfl, hb⟩ := hs
  obtain ⟨rfl, hf⟩ := hf
  obtain ⟨rfl, hg⟩ := hg
  go_enter Try.func7, Try.ntmps7
  go_wp2_with fail
  refine (c18.out _).mono ?_; rintro e w' ⟨rfl, rfl⟩
  go_wp2_with fail
  refine (c8.out _).mono ?_; rintro e w' ⟨rfl, rfl⟩
  go_wp2_with fail
  refine (c8'.out _).mono ?_; rintro e w' ⟨rfl, rfl⟩
  go_wp2_with fail
  refine (c12.out _).mono ?_; rintro e w' ⟨rfl, rfl⟩
  go_wp2_with fail
  refine (c13.out _).mono ?_; rintro e w' ⟨rfl, rfl⟩
  go_wp2_with fail
  refine (c13'.out _).mono ?_; rintro e w' ⟨rfl, rfl⟩
  go_wp2_with fail
  refine (c18'.out _).mono ?_; rintro e w' ⟨rfl, rfl⟩
  go_wp2_with fail
  refine (c11.out _).mono ?_; rintro e w' ⟨rfl, rfl⟩
  go_wp2_with fail
  refine (c11'.out _).mono ?_; rintro e w' ⟨rfl, rfl⟩
  go_wp2_with fail
  refine (c11''.out _).mono ?_; rintro e w' ⟨rfl, rfl⟩
  go_wp2_with fail
  refine (num_runs _).mono ?_; rintro e w' ⟨rfl, rfl⟩
  go_wp2_with fail
  go_ret
  exact ⟨rfl, rfl⟩

set_option maxHeartbeats 400000 in
theorem order_010 (a b d k x s e t f u g p q i r : Int) (w : World)
    (c18 : Hid (∀ w, Calls Try.prog 18 #[.int .i64 d, .int .i64 2, .int .i64 1099511627776] w fun e w' => e = .returned (.int .i64 k) ∧ w = w'))
    (c8 : Hid (∀ w, Calls Try.prog 8 #[.int .i64 a, .int .i64 b] w fun y w' => y = .returned (.tuple #[.int .i64 s, .int .i64 e]) ∧ w = w'))
    (c8' : Hid (∀ w, Calls Try.prog 8 #[.int .i64 a, .int .i64 k] w fun y w' => y = .returned (.tuple #[.int .i64 t, .int .i64 f]) ∧ w = w'))
    (c12 : Hid (∀ w, Calls Try.prog 12 #[.int .i64 a, .int .i64 k] w fun y w' => y = .returned (.tuple #[.int .i64 u, .int .i64 g]) ∧ w = w'))
    (c13 : Hid (∀ w, Calls Try.prog 13 #[.int .i64 (9223372036854775807 / k + 1), .int .i64 k] w fun y w' => y = .returned (.tuple #[.int .i64 0, .int .i64 3]) ∧ w = w'))
    (c13' : Hid (∀ w, Calls Try.prog 13 #[.int .i64 (9223372036854775807 / k), .int .i64 k] w fun y w' => y = .returned (.tuple #[.int .i64 p, .int .i64 0]) ∧ w = w'))
    (c18' : Hid (∀ w, Calls Try.prog 18 #[.int .i64 a, .int .i64 0, .int .i64 1099511627776] w fun e w' => e = .returned (.int .i64 x) ∧ w = w'))
    (c11 : Hid (∀ w, Calls Try.prog 11 #[.int .i64 x, .int .i64 k] w fun y w' => y = .returned (.int .i64 q) ∧ w = w'))
    (c11' : Hid (∀ w, Calls Try.prog 11 #[.int .i64 (x + 1), .int .i64 k] w fun y w' => y = .returned (.int .i64 i) ∧ w = w'))
    (c11'' : Hid (∀ w, Calls Try.prog 11 #[.int .i64 x, .int .i64 1] w fun y w' => y = .returned (.int .i64 x) ∧ w = w'))
    (hk1 : 2 ≤ k) (hk2 : k ≤ 1099511627776) (hx1 : 0 ≤ x) (hx2 : x ≤ 1099511627776) (ht1 : 0 ≤ 9223372036854775807 / k) (ht2 : 9223372036854775807 / k ≤ 4611686018427387903)
    (hs : s < a ∧ e = 0 ∧ b < 0)
    (hf : f = 3 ∧ 9223372036854775807 - k < a)
    (hg : g = 0 ∧ u < a)
    (hp : p ≤ 9223372036854775807) (hq : q ≤ i) :
    Calls Try.prog 7 #[.int .i64 a, .int .i64 b, .int .i64 d] w fun e w' => e = .returned (.bool true) ∧ w = w' := by
  obtain ⟨hs, rfl, hb⟩ := hs
  obtain ⟨rfl, hf⟩ := hf
  obtain ⟨rfl, hg⟩ := hg
  go_enter Try.func7, Try.ntmps7
  go_wp2_with fail
  refine (c18.out _).mono ?_; rintro e w' ⟨rfl, rfl⟩
  go_wp2_with fail
  refine (c8.out _).mono ?_; rintro e w' ⟨rfl, rfl⟩
  go_wp2_with fail
  refine (c8'.out _).mono ?_; rintro e w' ⟨rfl, rfl⟩
  go_wp2_with fail
  refine (c12.out _).mono ?_; rintro e w' ⟨rfl, rfl⟩
  go_wp2_with fail
  refine (c13.out _).mono ?_; rintro e w' ⟨rfl, rfl⟩
  go_wp2_with fail
  refine (c13'.out _).mono ?_; rintro e w' ⟨rfl, rfl⟩
  go_wp2_with fail
  refine (c18'.out _).mono ?_; rintro e w' ⟨rfl, rfl⟩
  go_wp2_with fail
  refine (c11.out _).mono ?_; rintro e w' ⟨rfl, rfl⟩
  go_wp2_with fail
  refine (c11'.out _).mono ?_; rintro e w' ⟨rfl, rfl⟩
  go_wp2_with fail
  refine (c11''.out _).mono ?_; rintro e w' ⟨rfl, rfl⟩
  go_wp2_with fail
  refine (num_runs _).mono ?_; rintro e w' ⟨rfl, rfl⟩
  go_wp2_with fail
  go_ret
  exact ⟨rfl, rfl⟩

set_option maxHeartbeats 400000 in
theorem order_100 (a b d k x s e t f u g p q i r : Int) (w : World)
    (c18 : Hid (∀ w, Calls Try.prog 18 #[.int .i64 d, .int .i64 2, .int .i64 1099511627776] w fun e w' => e = .returned (.int .i64 k) ∧ w = w'))
    (c8 : Hid (∀ w, Calls Try.prog 8 #[.int .i64 a, .int .i64 b] w fun y w' => y = .returned (.tuple #[.int .i64 s, .int .i64 e]) ∧ w = w'))
    (c8' : Hid (∀ w, Calls Try.prog 8 #[.int .i64 a, .int .i64 k] w fun y w' => y = .returned (.tuple #[.int .i64 t, .int .i64 f]) ∧ w = w'))
    (c12 : Hid (∀ w, Calls Try.prog 12 #[.int .i64 a, .int .i64 k] w fun y w' => y = .returned (.tuple #[.int .i64 u, .int .i64 g]) ∧ w = w'))
    (c13 : Hid (∀ w, Calls Try.prog 13 #[.int .i64 (9223372036854775807 / k + 1), .int .i64 k] w fun y w' => y = .returned (.tuple #[.int .i64 0, .int .i64 3]) ∧ w = w'))
    (c13' : Hid (∀ w, Calls Try.prog 13 #[.int .i64 (9223372036854775807 / k), .int .i64 k] w fun y w' => y = .returned (.tuple #[.int .i64 p, .int .i64 0]) ∧ w = w'))
    (c18' : Hid (∀ w, Calls Try.prog 18 #[.int .i64 a, .int .i64 0, .int .i64 1099511627776] w fun e w' => e = .returned (.int .i64 x) ∧ w = w'))
    (c11 : Hid (∀ w, Calls Try.prog 11 #[.int .i64 x, .int .i64 k] w fun y w' => y = .returned (.int .i64 q) ∧ w = w'))
    (c11' : Hid (∀ w, Calls Try.prog 11 #[.int .i64 (x + 1), .int .i64 k] w fun y w' => y = .returned (.int .i64 i) ∧ w = w'))
    (c11'' : Hid (∀ w, Calls Try.prog 11 #[.int .i64 x, .int .i64 1] w fun y w' => y = .returned (.int .i64 x) ∧ w = w'))
    (hk1 : 2 ≤ k) (hk2 : k ≤ 1099511627776) (hx1 : 0 ≤ x) (hx2 : x ≤ 1099511627776) (ht1 : 0 ≤ 9223372036854775807 / k) (ht2 : 9223372036854775807 / k ≤ 4611686018427387903)
    (hs : a ≤ s ∧ e = 0 ∧ 0 ≤ b)
    (hf : f = 0 ∧ a < t)
    (hg : g = 0 ∧ u < a)
    (hp : p ≤ 9223372036854775807) (hq : q ≤ i) :
    Calls Try.prog 7 #[.int .i64 a, .int .i64 b, .int .i64 d] w fun e w' => e = .returned (.bool true) ∧ w = w' := by
  obtain ⟨hs, rfl, hb⟩ := hs
  obtain ⟨rfl, hf⟩ := hf
  obtain ⟨rfl, hg⟩ := hg
  go_enter Try.func7, Try.ntmps7
  go_wp2_with fail
  refine (c18.out _).mono ?_; rintro e w' ⟨rfl, rfl⟩
  go_wp2_with fail
  refine (c8.out _).mono ?_; rintro e w' ⟨rfl, rfl⟩
  go_wp2_with fail
  refine (c8'.out _).mono ?_; rintro e w' ⟨rfl, rfl⟩
  go_wp2_with fail
  refine (c12.out _).mono ?_; rintro e w' ⟨rfl, rfl⟩
  go_wp2_with fail
  refine (c13.out _).mono ?_; rintro e w' ⟨rfl, rfl⟩
  go_wp2_with fail
  refine (c13'.out _).mono ?_; rintro e w' ⟨rfl, rfl⟩
  go_wp2_with fail
  refine (c18'.out _).mono ?_; rintro e w' ⟨rfl, rfl⟩
  go_wp2_with fail
  refine (c11.out _).mono ?_; rintro e w' ⟨rfl, rfl⟩
  go_wp2_with fail
  refine (c11'.out _).mono ?_; rintro e w' ⟨rfl, rfl⟩
  go_wp2_with fail
  refine (c11''.out _).mono ?_; rintro e w' ⟨rfl, rfl⟩
  go_wp2_with fail
  refine (num_runs _).mono ?_; rintro e w' ⟨rfl, rfl⟩
  go_wp2_with fail
  go_ret
  exact ⟨rfl, rfl⟩

set_option maxHeartbeats 400000 in
theorem order_101 (a b d k x s e t f u g p q i r : Int) (w : World)
    (c18 : Hid (∀ w, Calls Try.prog 18 #[.int .i64 d, .int .i64 2, .int .i64 1099511627776] w fun e w' => e = .returned (.int .i64 k) ∧ w = w'))
    (c8 : Hid (∀ w, Calls Try.prog 8 #[.int .i64 a, .int .i64 b] w fun y w' => y = .returned (.tuple #[.int .i64 s, .int .i64 e]) ∧ w = w'))
    (c8' : Hid (∀ w, Calls Try.prog 8 #[.int .i64 a, .int .i64 k] w fun y w' => y = .returned (.tuple #[.int .i64 t, .int .i64 f]) ∧ w = w'))
    (c12 : Hid (∀ w, Calls Try.prog 12 #[.int .i64 a, .int .i64 k] w fun y w' => y = .returned (.tuple #[.int .i64 u, .int .i64 g]) ∧ w = w'))
    (c13 : Hid (∀ w, Calls Try.prog 13 #[.int .i64 (9223372036854775807 / k + 1), .int .i64 k] w fun y w' => y = .returned (.tuple #[.int .i64 0, .int .i64 3]) ∧ w = w'))
    (c13' : Hid (∀ w, Calls Try.prog 13 #[.int .i64 (9223372036854775807 / k), .int .i64 k] w fun y w' => y = .returned (.tuple #[.int .i64 p, .int .i64 0]) ∧ w = w'))
    (c18' : Hid (∀ w, Calls Try.prog 18 #[.int .i64 a, .int .i64 0, .int .i64 1099511627776] w fun e w' => e = .returned (.int .i64 x) ∧ w = w'))
    (c11 : Hid (∀ w, Calls Try.prog 11 #[.int .i64 x, .int .i64 k] w fun y w' => y = .returned (.int .i64 q) ∧ w = w'))
    (c11' : Hid (∀ w, Calls Try.prog 11 #[.int .i64 (x + 1), .int .i64 k] w fun y w' => y = .returned (.int .i64 i) ∧ w = w'))
    (c11'' : Hid (∀ w, Calls Try.prog 11 #[.int .i64 x, .int .i64 1] w fun y w' => y = .returned (.int .i64 x) ∧ w = w'))
    (hk1 : 2 ≤ k) (hk2 : k ≤ 1099511627776) (hx1 : 0 ≤ x) (hx2 : x ≤ 1099511627776) (ht1 : 0 ≤ 9223372036854775807 / k) (ht2 : 9223372036854775807 / k ≤ 4611686018427387903)
    (hs : a ≤ s ∧ e = 0 ∧ 0 ≤ b)
    (hf : f = 0 ∧ a < t)
    (hg : g = 3 ∧ a < -9223372036854775808 + k)
    (hp : p ≤ 9223372036854775807) (hq : q ≤ i) :
    Calls Try.prog 7 #[.int .i64 a, .int .i64 b, .int .i64 d] w fun e w' => e = .returned (.bool true) ∧ w = w' := by
  obtain ⟨hs, rfl, hb⟩ := hs
  obtain ⟨rfl, hf⟩ := hf
  obtain ⟨rfl, hg⟩ := hg
  go_enter Try.func7, Try.ntmps7
  go_wp2_with fail
  refine (c18.out _).mono ?_; rintro e w' ⟨rfl, rfl⟩
  go_wp2_with fail
  refine (c8.out _).mono ?_; rintro e w' ⟨rfl, rfl⟩
  go_wp2_with fail
  refine (c8'.out _).mono ?_; rintro e w' ⟨rfl, rfl⟩
  go_wp2_with fail
  refine (c12.out _).mono ?_; rintro e w' ⟨rfl, rfl⟩
  go_wp2_with fail
  refine (c13.out _).mono ?_; rintro e w' ⟨rfl, rfl⟩
  go_wp2_with fail
  refine (c13'.out _).mono ?_; rintro e w' ⟨rfl, rfl⟩
  go_wp2_with fail
  refine (c18'.out _).mono ?_; rintro e w' ⟨rfl, rfl⟩
  go_wp2_with fail
  refine (c11.out _).mono ?_; rintro e w' ⟨rfl, rfl⟩
  go_wp2_with fail
  refine (c11'.out _).mono ?_; rintro e w' ⟨rfl, rfl⟩
  go_wp2_with fail
  refine (c11''.out _).mono ?_; rintro e w' ⟨rfl, rfl⟩
  go_wp2_with fail
  refine (num_runs _).mono ?_; rintro e w' ⟨rfl, rfl⟩
  go_wp2_with fail
  go_ret
  exact ⟨rfl, rfl⟩

set_option maxHeartbeats 400000 in
theorem order_110 (a b d k x s e t f u g p q i r : Int) (w : World)
    (c18 : Hid (∀ w, Calls Try.prog 18 #[.int .i64 d, .int .i64 2, .int .i64 1099511627776] w fun e w' => e = .returned (.int .i64 k) ∧ w = w'))
    (c8 : Hid (∀ w, Calls Try.prog 8 #[.int .i64 a, .int .i64 b] w fun y w' => y = .returned (.tuple #[.int .i64 s, .int .i64 e]) ∧ w = w'))
    (c8' : Hid (∀ w, Calls Try.prog 8 #[.int .i64 a, .int .i64 k] w fun y w' => y = .returned (.tuple #[.int .i64 t, .int .i64 f]) ∧ w = w'))
    (c12 : Hid (∀ w, Calls Try.prog 12 #[.int .i64 a, .int .i64 k] w fun y w' => y = .returned (.tuple #[.int .i64 u, .int .i64 g]) ∧ w = w'))
    (c13 : Hid (∀ w, Calls Try.prog 13 #[.int .i64 (9223372036854775807 / k + 1), .int .i64 k] w fun y w' => y = .returned (.tuple #[.int .i64 0, .int .i64 3]) ∧ w = w'))
    (c13' : Hid (∀ w, Calls Try.prog 13 #[.int .i64 (9223372036854775807 / k), .int .i64 k] w fun y w' => y = .returned (.tuple #[.int .i64 p, .int .i64 0]) ∧ w = w'))
    (c18' : Hid (∀ w, Calls Try.prog 18 #[.int .i64 a, .int .i64 0, .int .i64 1099511627776] w fun e w' => e = .returned (.int .i64 x) ∧ w = w'))
    (c11 : Hid (∀ w, Calls Try.prog 11 #[.int .i64 x, .int .i64 k] w fun y w' => y = .returned (.int .i64 q) ∧ w = w'))
    (c11' : Hid (∀ w, Calls Try.prog 11 #[.int .i64 (x + 1), .int .i64 k] w fun y w' => y = .returned (.int .i64 i) ∧ w = w'))
    (c11'' : Hid (∀ w, Calls Try.prog 11 #[.int .i64 x, .int .i64 1] w fun y w' => y = .returned (.int .i64 x) ∧ w = w'))
    (hk1 : 2 ≤ k) (hk2 : k ≤ 1099511627776) (hx1 : 0 ≤ x) (hx2 : x ≤ 1099511627776) (ht1 : 0 ≤ 9223372036854775807 / k) (ht2 : 9223372036854775807 / k ≤ 4611686018427387903)
    (hs : a ≤ s ∧ e = 0 ∧ 0 ≤ b)
    (hf : f = 3 ∧ 9223372036854775807 - k < a)
    (hg : g = 0 ∧ u < a)
    (hp : p ≤ 9223372036854775807) (hq : q ≤ i) :
    Calls Try.prog 7 #[.int .i64 a, .int .i64 b, .int .i64 d] w fun e w' => e = .returned (.bool true) ∧ w = w' := by
  obtain ⟨hs, rfl, hb⟩ := hs
  obtain ⟨rfl, hf⟩ := hf
  obtain ⟨rfl, hg⟩ := hg
  go_enter Try.func7, Try.ntmps7
  go_wp2_with fail
  refine (c18.out _).mono ?_; rintro e w' ⟨rfl, rfl⟩
  go_wp2_with fail
  refine (c8.out _).mono ?_; rintro e w' ⟨rfl, rfl⟩
  go_wp2_with fail
  refine (c8'.out _).mono ?_; rintro e w' ⟨rfl, rfl⟩
  go_wp2_with fail
  refine (c12.out _).mono ?_; rintro e w' ⟨rfl, rfl⟩
  go_wp2_with fail
  refine (c13.out _).mono ?_; rintro e w' ⟨rfl, rfl⟩
  go_wp2_with fail
  refine (c13'.out _).mono ?_; rintro e w' ⟨rfl, rfl⟩
  go_wp2_with fail
  refine (c18'.out _).mono ?_; rintro e w' ⟨rfl, rfl⟩
  go_wp2_with fail
  refine (c11.out _).mono ?_; rintro e w' ⟨rfl, rfl⟩
  go_wp2_with fail
  refine (c11'.out _).mono ?_; rintro e w' ⟨rfl, rfl⟩
  go_wp2_with fail
  refine (c11''.out _).mono ?_; rintro e w' ⟨rfl, rfl⟩
  go_wp2_with fail
  refine (num_runs _).mono ?_; rintro e w' ⟨rfl, rfl⟩
  go_wp2_with fail
  go_ret
  exact ⟨rfl, rfl⟩

set_option maxHeartbeats 400000 in
theorem order_200 (a b d k x s e t f u g p q i r : Int) (w : World)
    (c18 : Hid (∀ w, Calls Try.prog 18 #[.int .i64 d, .int .i64 2, .int .i64 1099511627776] w fun e w' => e = .returned (.int .i64 k) ∧ w = w'))
    (c8 : Hid (∀ w, Calls Try.prog 8 #[.int .i64 a, .int .i64 b] w fun y w' => y = .returned (.tuple #[.int .i64 s, .int .i64 e]) ∧ w = w'))
    (c8' : Hid (∀ w, Calls Try.prog 8 #[.int .i64 a, .int .i64 k] w fun y w' => y = .returned (.tuple #[.int .i64 t, .int .i64 f]) ∧ w = w'))
    (c12 : Hid (∀ w, Calls Try.prog 12 #[.int .i64 a, .int .i64 k] w fun y w' => y = .returned (.tuple #[.int .i64 u, .int .i64 g]) ∧ w = w'))
    (c13 : Hid (∀ w, Calls Try.prog 13 #[.int .i64 (9223372036854775807 / k + 1), .int .i64 k] w fun y w' => y = .returned (.tuple #[.int .i64 0, .int .i64 3]) ∧ w = w'))
    (c13' : Hid (∀ w, Calls Try.prog 13 #[.int .i64 (9223372036854775807 / k), .int .i64 k] w fun y w' => y = .returned (.tuple #[.int .i64 p, .int .i64 0]) ∧ w = w'))
    (c18' : Hid (∀ w, Calls Try.prog 18 #[.int .i64 a, .int .i64 0, .int .i64 1099511627776] w fun e w' => e = .returned (.int .i64 x) ∧ w = w'))
    (c11 : Hid (∀ w, Calls Try.prog 11 #[.int .i64 x, .int .i64 k] w fun y w' => y = .returned (.int .i64 q) ∧ w = w'))
    (c11' : Hid (∀ w, Calls Try.prog 11 #[.int .i64 (x + 1), .int .i64 k] w fun y w' => y = .returned (.int .i64 i) ∧ w = w'))
    (c11'' : Hid (∀ w, Calls Try.prog 11 #[.int .i64 x, .int .i64 1] w fun y w' => y = .returned (.int .i64 x) ∧ w = w'))
    (hk1 : 2 ≤ k) (hk2 : k ≤ 1099511627776) (hx1 : 0 ≤ x) (hx2 : x ≤ 1099511627776) (ht1 : 0 ≤ 9223372036854775807 / k) (ht2 : 9223372036854775807 / k ≤ 4611686018427387903)
    (hs : e = 3)
    (hf : f = 0 ∧ a < t)
    (hg : g = 0 ∧ u < a)
    (hp : p ≤ 9223372036854775807) (hq : q ≤ i) :
    Calls Try.prog 7 #[.int .i64 a, .int .i64 b, .int .i64 d] w fun e w' => e = .returned (.bool true) ∧ w = w' := by
  subst hs
  obtain ⟨rfl, hf⟩ := hf
  obtain ⟨rfl, hg⟩ := hg
  go_enter Try.func7, Try.ntmps7
  go_wp2_with fail
  refine (c18.out _).mono ?_; rintro e w' ⟨rfl, rfl⟩
  go_wp2_with fail
  refine (c8.out _).mono ?_; rintro e w' ⟨rfl, rfl⟩
  go_wp2_with fail
  refine (c8'.out _).mono ?_; rintro e w' ⟨rfl, rfl⟩
  go_wp2_with fail
  refine (c12.out _).mono ?_; rintro e w' ⟨rfl, rfl⟩
  go_wp2_with fail
  refine (c13.out _).mono ?_; rintro e w' ⟨rfl, rfl⟩
  go_wp2_with fail
  refine (c13'.out _).mono ?_; rintro e w' ⟨rfl, rfl⟩
  go_wp2_with fail
  refine (c18'.out _).mono ?_; rintro e w' ⟨rfl, rfl⟩
  go_wp2_with fail
  refine (c11.out _).mono ?_; rintro e w' ⟨rfl, rfl⟩
  go_wp2_with fail
  refine (c11'.out _).mono ?_; rintro e w' ⟨rfl, rfl⟩
  go_wp2_with fail
  refine (c11''.out _).mono ?_; rintro e w' ⟨rfl, rfl⟩
  go_wp2_with fail
  refine (num_runs _).mono ?_; rintro e w' ⟨rfl, rfl⟩
  go_wp2_with fail
  go_ret
  exact ⟨rfl, rfl⟩

set_option maxHeartbeats 400000 in
theorem order_201 (a b d k x s e t f u g p q i r : Int) (w : World)
    (c18 : Hid (∀ w, Calls Try.prog 18 #[.int .i64 d, .int .i64 2, .int .i64 1099511627776] w fun e w' => e = .returned (.int .i64 k) ∧ w = w'))
    (c8 : Hid (∀ w, Calls Try.prog 8 #[.int .i64 a, .int .i64 b] w fun y w' => y = .returned (.tuple #[.int .i64 s, .int .i64 e]) ∧ w = w'))
    (c8' : Hid (∀ w, Calls Try.prog 8 #[.int .i64 a, .int .i64 k] w fun y w' => y = .returned (.tuple #[.int .i64 t, .int .i64 f]) ∧ w = w'))
    (c12 : Hid (∀ w, Calls Try.prog 12 #[.int .i64 a, .int .i64 k] w fun y w' => y = .returned (.tuple #[.int .i64 u, .int .i64 g]) ∧ w = w'))
    (c13 : Hid (∀ w, Calls Try.prog 13 #[.int .i64 (9223372036854775807 / k + 1), .int .i64 k] w fun y w' => y = .returned (.tuple #[.int .i64 0, .int .i64 3]) ∧ w = w'))
    (c13' : Hid (∀ w, Calls Try.prog 13 #[.int .i64 (9223372036854775807 / k), .int .i64 k] w fun y w' => y = .returned (.tuple #[.int .i64 p, .int .i64 0]) ∧ w = w'))
    (c18' : Hid (∀ w, Calls Try.prog 18 #[.int .i64 a, .int .i64 0, .int .i64 1099511627776] w fun e w' => e = .returned (.int .i64 x) ∧ w = w'))
    (c11 : Hid (∀ w, Calls Try.prog 11 #[.int .i64 x, .int .i64 k] w fun y w' => y = .returned (.int .i64 q) ∧ w = w'))
    (c11' : Hid (∀ w, Calls Try.prog 11 #[.int .i64 (x + 1), .int .i64 k] w fun y w' => y = .returned (.int .i64 i) ∧ w = w'))
    (c11'' : Hid (∀ w, Calls Try.prog 11 #[.int .i64 x, .int .i64 1] w fun y w' => y = .returned (.int .i64 x) ∧ w = w'))
    (hk1 : 2 ≤ k) (hk2 : k ≤ 1099511627776) (hx1 : 0 ≤ x) (hx2 : x ≤ 1099511627776) (ht1 : 0 ≤ 9223372036854775807 / k) (ht2 : 9223372036854775807 / k ≤ 4611686018427387903)
    (hs : e = 3)
    (hf : f = 0 ∧ a < t)
    (hg : g = 3 ∧ a < -9223372036854775808 + k)
    (hp : p ≤ 9223372036854775807) (hq : q ≤ i) :
    Calls Try.prog 7 #[.int .i64 a, .int .i64 b, .int .i64 d] w fun e w' => e = .returned (.bool true) ∧ w = w' := by
  subst hs
  obtain ⟨rfl, hf⟩ := hf
  obtain ⟨rfl, hg⟩ := hg
  go_enter Try.func7, Try.ntmps7
  go_wp2_with fail
  refine (c18.out _).mono ?_; rintro e w' ⟨rfl, rfl⟩
  go_wp2_with fail
  refine (c8.out _).mono ?_; rintro e w' ⟨rfl, rfl⟩
  go_wp2_with fail
  refine (c8'.out _).mono ?_; rintro e w' ⟨rfl, rfl⟩
  go_wp2_with fail
  refine (c12.out _).mono ?_; rintro e w' ⟨rfl, rfl⟩
  go_wp2_with fail
  refine (c13.out _).mono ?_; rintro e w' ⟨rfl, rfl⟩
  go_wp2_with fail
  refine (c13'.out _).mono ?_; rintro e w' ⟨rfl, rfl⟩
  go_wp2_with fail
  refine (c18'.out _).mono ?_; rintro e w' ⟨rfl, rfl⟩
  go_wp2_with fail
  refine (c11.out _).mono ?_; rintro e w' ⟨rfl, rfl⟩
  go_wp2_with fail
  refine (c11'.out _).mono ?_; rintro e w' ⟨rfl, rfl⟩
  go_wp2_with fail
  refine (c11''.out _).mono ?_; rintro e w' ⟨rfl, rfl⟩
  go_wp2_with fail
  refine (num_runs _).mono ?_; rintro e w' ⟨rfl, rfl⟩
  go_wp2_with fail
  go_ret
  exact ⟨rfl, rfl⟩

set_option maxHeartbeats 400000 in
theorem order_210 (a b d k x s e t f u g p q i r : Int) (w : World)
    (c18 : Hid (∀ w, Calls Try.prog 18 #[.int .i64 d, .int .i64 2, .int .i64 1099511627776] w fun e w' => e = .returned (.int .i64 k) ∧ w = w'))
    (c8 : Hid (∀ w, Calls Try.prog 8 #[.int .i64 a, .int .i64 b] w fun y w' => y = .returned (.tuple #[.int .i64 s, .int .i64 e]) ∧ w = w'))
    (c8' : Hid (∀ w, Calls Try.prog 8 #[.int .i64 a, .int .i64 k] w fun y w' => y = .returned (.tuple #[.int .i64 t, .int .i64 f]) ∧ w = w'))
    (c12 : Hid (∀ w, Calls Try.prog 12 #[.int .i64 a, .int .i64 k] w fun y w' => y = .returned (.tuple #[.int .i64 u, .int .i64 g]) ∧ w = w'))
    (c13 : Hid (∀ w, Calls Try.prog 13 #[.int .i64 (9223372036854775807 / k + 1), .int .i64 k] w fun y w' => y = .returned (.tuple #[.int .i64 0, .int .i64 3]) ∧ w = w'))
    (c13' : Hid (∀ w, Calls Try.prog 13 #[.int .i64 (9223372036854775807 / k), .int .i64 k] w fun y w' => y = .returned (.tuple #[.int .i64 p, .int .i64 0]) ∧ w = w'))
    (c18' : Hid (∀ w, Calls Try.prog 18 #[.int .i64 a, .int .i64 0, .int .i64 1099511627776] w fun e w' => e = .returned (.int .i64 x) ∧ w = w'))
    (c11 : Hid (∀ w, Calls Try.prog 11 #[.int .i64 x, .int .i64 k] w fun y w' => y = .returned (.int .i64 q) ∧ w = w'))
    (c11' : Hid (∀ w, Calls Try.prog 11 #[.int .i64 (x + 1), .int .i64 k] w fun y w' => y = .returned (.int .i64 i) ∧ w = w'))
    (c11'' : Hid (∀ w, Calls Try.prog 11 #[.int .i64 x, .int .i64 1] w fun y w' => y = .returned (.int .i64 x) ∧ w = w'))
    (hk1 : 2 ≤ k) (hk2 : k ≤ 1099511627776) (hx1 : 0 ≤ x) (hx2 : x ≤ 1099511627776) (ht1 : 0 ≤ 9223372036854775807 / k) (ht2 : 9223372036854775807 / k ≤ 4611686018427387903)
    (hs : e = 3)
    (hf : f = 3 ∧ 9223372036854775807 - k < a)
    (hg : g = 0 ∧ u < a)
    (hp : p ≤ 9223372036854775807) (hq : q ≤ i) :
    Calls Try.prog 7 #[.int .i64 a, .int .i64 b, .int .i64 d] w fun e w' => e = .returned (.bool true) ∧ w = w' := by
  subst hs
  obtain ⟨rfl, hf⟩ := hf
  obtain ⟨rfl, hg⟩ := hg
  go_enter Try.func7, Try.ntmps7
  go_wp2_with fail
  refine (c18.out _).mono ?_; rintro e w' ⟨rfl, rfl⟩
  go_wp2_with fail
  refine (c8.out _).mono ?_; rintro e w' ⟨rfl, rfl⟩
  go_wp2_with fail
  refine (c8'.out _).mono ?_; rintro e w' ⟨rfl, rfl⟩
  go_wp2_with fail
  refine (c12.out _).mono ?_; rintro e w' ⟨rfl, rfl⟩
  go_wp2_with fail
  refine (c13.out _).mono ?_; rintro e w' ⟨rfl, rfl⟩
  go_wp2_with fail
  refine (c13'.out _).mono ?_; rintro e w' ⟨rfl, rfl⟩
  go_wp2_with fail
  refine (c18'.out _).mono ?_; rintro e w' ⟨rfl, rfl⟩
  go_wp2_with fail
  refine (c11.out _).mono ?_; rintro e w' ⟨rfl, rfl⟩
  go_wp2_with fail
  refine (c11'.out _).mono ?_; rintro e w' ⟨rfl, rfl⟩
  go_wp2_with fail
  refine (c11''.out _).mono ?_; rintro e w' ⟨rfl, rfl⟩
  go_wp2_with fail
  refine (num_runs _).mono ?_; rintro e w' ⟨rfl, rfl⟩
  go_wp2_with fail
  go_ret
  exact ⟨rfl, rfl⟩

theorem num_order (a b d : Int) (w : World) (wa : I64 a) (wb : I64 b) (wd : I64 d) :
    Calls Try.prog 7 #[.int .i64 a, .int .i64 b, .int .i64 d] w fun e w' => e = .returned (.bool true) ∧ w = w' := by
  have c18 := fun w => within_any d 2 1099511627776 w wd (by omega) (by omega) (by omega)
  have c18' := fun w => within_any a 0 1099511627776 w wa (by omega) (by omega) (by omega)
  obtain ⟨hk1, hk2⟩ := nWithin_in d (lo := 2) (hi := 1099511627776) (by omega)
  obtain ⟨hx1, hx2⟩ := nWithin_in a (lo := 0) (hi := 1099511627776) (by omega)
  generalize nWithin d 2 1099511627776 = k at *
  generalize nWithin a 0 1099511627776 = x at *
  have wk : I64 k := by unfold I64; omega
  have wx : I64 x := by unfold I64; omega
  obtain ⟨ht1, ht2⟩ := top_half hk1
  have c8 := fun w => num_add_any a b w wa wb
  have c8' := fun w => num_add_any a k w wa wk
  have c12 := fun w => num_sub_any a k w wa wk
  have c13 := fun w => num_mul_any (9223372036854775807 / k + 1) k w (by unfold I64; omega) wk
  have c13' := fun w => num_mul_any (9223372036854775807 / k) k w (by unfold I64; omega) wk
  obtain ⟨hti, hp⟩ := top_in hk1 hk2
  rw [nV_out (top_over hk1 hk2), nE_out (top_over hk1 hk2)] at c13
  rw [nV_in hti, nE_in hti] at c13'
  have c11 := fun w => num_up_any x k w wx wk hx1 (by omega)
  have c11' := fun w => num_up_any (x + 1) k w (by unfold I64; omega) wk (by omega) (by omega)
  have c11'' := fun w => num_up_any x 1 w wx (by unfold I64; omega) hx1 (by omega)
  rw [up_one hx1] at c11''
  have hq := up_mono hx1 (show x ≤ x + 1 by omega) (show 1 ≤ k by omega)
  have hs : nV (a + b) < a ∧ nE (a + b) = 0 ∧ b < 0 ∨ a ≤ nV (a + b) ∧ nE (a + b) = 0 ∧ 0 ≤ b ∨ nE (a + b) = 3 := by
    rcases told (a + b) with ⟨h1, h2, h3⟩ | ⟨h1, h2, h3⟩ <;> omega
  have hf : nE (a + k) = 0 ∧ a < nV (a + k) ∨ nE (a + k) = 3 ∧ 9223372036854775807 - k < a := by
    rcases told (a + k) with ⟨h1, h2, h3⟩ | ⟨h1, h2, h3⟩
    · omega
    · unfold I64 at *; omega
  have hg : nE (a - k) = 0 ∧ nV (a - k) < a ∨ nE (a - k) = 3 ∧ a < -9223372036854775808 + k := by
    rcases told (a - k) with ⟨h1, h2, h3⟩ | ⟨h1, h2, h3⟩
    · omega
    · unfold I64 at *; omega
  rcases hs with hs | hs | hs <;> rcases hf with hf | hf <;> rcases hg with hg | hg
  · exact order_000 a b d k x _ _ _ _ _ _ _ _ _ 0 w (Lib.hid c18) (Lib.hid c8) (Lib.hid c8') (Lib.hid c12) (Lib.hid c13) (Lib.hid c13') (Lib.hid c18') (Lib.hid c11) (Lib.hid c11') (Lib.hid c11'') hk1 hk2 hx1 hx2 ht1 ht2 hs hf hg hp hq
  · exact order_001 a b d k x _ _ _ _ _ _ _ _ _ 0 w (Lib.hid c18) (Lib.hid c8) (Lib.hid c8') (Lib.hid c12) (Lib.hid c13) (Lib.hid c13') (Lib.hid c18') (Lib.hid c11) (Lib.hid c11') (Lib.hid c11'') hk1 hk2 hx1 hx2 ht1 ht2 hs hf hg hp hq
  · exact order_010 a b d k x _ _ _ _ _ _ _ _ _ 0 w (Lib.hid c18) (Lib.hid c8) (Lib.hid c8') (Lib.hid c12) (Lib.hid c13) (Lib.hid c13') (Lib.hid c18') (Lib.hid c11) (Lib.hid c11') (Lib.hid c11'') hk1 hk2 hx1 hx2 ht1 ht2 hs hf hg hp hq
  · omega
  · exact order_100 a b d k x _ _ _ _ _ _ _ _ _ 0 w (Lib.hid c18) (Lib.hid c8) (Lib.hid c8') (Lib.hid c12) (Lib.hid c13) (Lib.hid c13') (Lib.hid c18') (Lib.hid c11) (Lib.hid c11') (Lib.hid c11'') hk1 hk2 hx1 hx2 ht1 ht2 hs hf hg hp hq
  · exact order_101 a b d k x _ _ _ _ _ _ _ _ _ 0 w (Lib.hid c18) (Lib.hid c8) (Lib.hid c8') (Lib.hid c12) (Lib.hid c13) (Lib.hid c13') (Lib.hid c18') (Lib.hid c11) (Lib.hid c11') (Lib.hid c11'') hk1 hk2 hx1 hx2 ht1 ht2 hs hf hg hp hq
  · exact order_110 a b d k x _ _ _ _ _ _ _ _ _ 0 w (Lib.hid c18) (Lib.hid c8) (Lib.hid c8') (Lib.hid c12) (Lib.hid c13) (Lib.hid c13') (Lib.hid c18') (Lib.hid c11) (Lib.hid c11') (Lib.hid c11'') hk1 hk2 hx1 hx2 ht1 ht2 hs hf hg hp hq
  · omega
  · exact order_200 a b d k x _ _ _ _ _ _ _ _ _ 0 w (Lib.hid c18) (Lib.hid c8) (Lib.hid c8') (Lib.hid c12) (Lib.hid c13) (Lib.hid c13') (Lib.hid c18') (Lib.hid c11) (Lib.hid c11') (Lib.hid c11'') hk1 hk2 hx1 hx2 ht1 ht2 hs hf hg hp hq
  · exact order_201 a b d k x _ _ _ _ _ _ _ _ _ 0 w (Lib.hid c18) (Lib.hid c8) (Lib.hid c8') (Lib.hid c12) (Lib.hid c13) (Lib.hid c13') (Lib.hid c18') (Lib.hid c11) (Lib.hid c11') (Lib.hid c11'') hk1 hk2 hx1 hx2 ht1 ht2 hs hf hg hp hq
  · exact order_210 a b d k x _ _ _ _ _ _ _ _ _ 0 w (Lib.hid c18) (Lib.hid c8) (Lib.hid c8') (Lib.hid c12) (Lib.hid c13) (Lib.hid c13') (Lib.hid c18') (Lib.hid c11) (Lib.hid c11') (Lib.hid c11'') hk1 hk2 hx1 hx2 ht1 ht2 hs hf hg hp hq
  · omega
end Go.Proofs.Ytejfohopibkgoaa
