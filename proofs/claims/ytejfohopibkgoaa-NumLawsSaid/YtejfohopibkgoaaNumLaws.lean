/- The walk of NumLaws, out of the contracts. -/
import Derived.Test.YtejfohopibkgoaaNumRun
import Derived.Test.YtejfohopibkgoaaNumSum
import Derived.Test.YtejfohopibkgoaaBook
namespace Go.Proofs.Ytejfohopibkgoaa
open Go.ChangeShapes Go.WideShapes Go.ChangeAt Go.RowKit
set_option linter.unusedVariables false
set_option maxRecDepth 100000

theorem Try.infoInt : (Try.prog.info? 3).map (fun i => (i.zero, i.size, i.bytes)) = some (some (.int .i64 0), 1, 8) := by kernel_rfl

/-- Each number, and its opposite. -/
def pairs (l : List Int) : List Int := l.flatMap fun z => [nWithin z (-1125899906842624) 1125899906842624, -nWithin z (-1125899906842624) 1125899906842624]
theorem pairs_snoc (l : List Int) (z : Int) : pairs (l ++ [z]) = pairs l ++ [nWithin z (-1125899906842624) 1125899906842624, -nWithin z (-1125899906842624) 1125899906842624] := by simp [pairs]
theorem pairs_length (l : List Int) : (pairs l).length = 2 * l.length := by
  induction l with
  | nil => rfl
  | cons z l ih => simp [pairs] at ih ⊢; omega
theorem pairs_in (l : List Int) : ∀ z ∈ pairs l, I64 z := by
  intro z hz
  simp only [pairs, List.mem_flatMap] at hz
  obtain ⟨y, _, hy⟩ := hz
  have := nWithin_in y (lo := -1125899906842624) (hi := 1125899906842624) (by omega)
  simp at hy
  unfold I64
  rcases hy with rfl | rfl <;> omega
theorem pairs_sum (l : List Int) : sumO 0 (pairs l) = some 0 := by
  induction l with
  | nil => rfl
  | cons z l ih =>
    have := nWithin_in z (lo := -1125899906842624) (hi := 1125899906842624) (by omega)
    have e : pairs (z :: l) = nWithin z (-1125899906842624) 1125899906842624 :: -nWithin z (-1125899906842624) 1125899906842624 :: pairs l := rfl
    rw [e, sumO, if_pos (by unfold I64; omega), sumO, if_pos (by unfold I64; omega), show 0 + nWithin z (-1125899906842624) 1125899906842624 + -nWithin z (-1125899906842624) 1125899906842624 = 0 by omega, ih]
theorem own_shape {w : World} {base : Nat} {e : TypeId} {size n : Nat} {v : Value} {xs : List Value} (h : w.ownsRow base e size v n xs) : ∃ A c, v = .slice A n c ∧ n ≤ c := by
  rcases h.2 with ⟨rfl, rfl⟩ | ⟨g, cap, cur, rfl, _, _, hc, _⟩
  · exact ⟨none, 0, rfl, Nat.le_refl _⟩
  · exact ⟨_, _, rfl, hc⟩
/-- Sum of numbers and their opposites: nought. -/
theorem sum_pairs (l : List Int) (v : Value) (w : World) (base : Nat) (h : w.ownsRow base 3 1 v (2 * l.length) (ints (pairs l))) (hl : l.length ≤ 1000) :
    Calls Try.prog 17 #[v] w fun e w' => e = .returned (.tuple #[.int .i64 0, .int .i64 0]) ∧ w = w' := by
  obtain ⟨A, c, rfl, _⟩ := own_shape h
  have := sum_any A (2 * l.length) c (pairs l) _ w (Sees.of_own h) (pairs_in l) (by omega)
  rw [pairs_sum] at this
  exact this
/-- The round of the loop: the row behind it. -/
theorem pairs_row {w w1 wr : World} {base k : Nat} {zs : List Int} {v v' : Value} {ob : Obj} (hb : base ≤ wr.heap.size) (hk : k < zs.length)
    (hbel : Below base w wr) (hlt : ∀ g, v.ownBlock = some g → base ≤ g)
    (hown : w1.ownsRow base 3 1 v' (2 * k + 2) (ints (pairs (zs.take k)) ++ [.int .i64 (nWithin zs[k] (-1125899906842624) 1125899906842624), .int .i64 (-nWithin zs[k] (-1125899906842624) 1125899906842624)]))
    (hg : (wr.alloc ob).grownBy w1 v.ownBlock) :
    w1.ownsRow base 3 1 v' (2 * (k + 1)) (ints (pairs (zs.take (k + 1)))) ∧ Below base w w1 := by
  refine ⟨?_, (hbel.alloc hb ob).grown hg (by simp; omega) hlt⟩
  rw [List.take_succ_eq_append_getElem hk, pairs_snoc, ints_append]
  have e : 2 * (k + 1) = 2 * k + 2 := by omega
  rw [e]
  exact hown

/-- What the quotients are asked. -/
def QuoBack (a b q h m i : Int) : Prop :=
  h = 4 ∨ h = 3 ∨ (h = 0 ∧ i = 0 ∧ wrap64 (wrap64 (q * b) + m) = a)

set_option maxHeartbeats 1000000 in
theorem laws_10 (a b s e q h m i : Int) (w : World)
    (c8 : Hid (∀ w, Calls Try.prog 8 #[.int .i64 a, .int .i64 b] w fun y w' => y = .returned (.tuple #[.int .i64 s, .int .i64 e]) ∧ w = w'))
    (c8' : Hid (∀ w, Calls Try.prog 8 #[.int .i64 b, .int .i64 a] w fun y w' => y = .returned (.tuple #[.int .i64 s, .int .i64 e]) ∧ w = w'))
    (c12 : Hid (∀ w, Calls Try.prog 12 #[.int .i64 s, .int .i64 b] w fun y w' => y = .returned (.tuple #[.int .i64 a, .int .i64 0]) ∧ w = w'))
    (c13 : Hid (∀ w, Calls Try.prog 13 #[.int .i64 a, .int .i64 1] w fun y w' => y = .returned (.tuple #[.int .i64 a, .int .i64 0]) ∧ w = w'))
    (c13' : Hid (∀ w, Calls Try.prog 13 #[.int .i64 a, .int .i64 0] w fun y w' => y = .returned (.tuple #[.int .i64 0, .int .i64 0]) ∧ w = w'))
    (c9 : Hid (∀ w, Calls Try.prog 9 #[.int .i64 a, .int .i64 b] w fun y w' => y = .returned (.tuple #[.int .i64 q, .int .i64 h]) ∧ w = w'))
    (c10 : Hid (∀ w, Calls Try.prog 10 #[.int .i64 a, .int .i64 b] w fun y w' => y = .returned (.tuple #[.int .i64 m, .int .i64 i]) ∧ w = w'))
    (he : e = 0) (hq : h = 4)
    (A : Option Addr) (n c : Nat) (zs : List Int) (hl : Sees w w.heap.size 1 A n (ints zs)) (hz : ∀ z ∈ zs, I64 z) (hn : n ≤ 9223372036854775807) :
    Calls Try.prog 6 #[.int .i64 a, .int .i64 b, .slice A n c] w fun e w' => e = .returned (.bool true) ∧ Below w.heap.size w w' := by
  subst he
  subst hq
  have H := Lib.hid hl; clear hl
  have HZ := Lib.hid hz; clear hz
  obtain ⟨i0, hi, hz0, hz1, hz2⟩ := info_parts Try.infoInt
  go_enter Try.func6, Try.ntmps6
  go_wp2_with fail
  refine (c8.out _).mono ?_; rintro e w' ⟨rfl, rfl⟩
  go_wp2_with fail
  refine (c12.out _).mono ?_; rintro e w' ⟨rfl, rfl⟩
  go_wp2_with fail
  refine (c8'.out _).mono ?_; rintro e w' ⟨rfl, rfl⟩
  go_wp2_with fail
  refine (c13.out _).mono ?_; rintro e w' ⟨rfl, rfl⟩
  go_wp2_with fail
  refine (c13'.out _).mono ?_; rintro e w' ⟨rfl, rfl⟩
  go_wp2_with fail
  refine (c9.out _).mono ?_; rintro e w' ⟨rfl, rfl⟩
  go_wp2_with fail
  refine (c10.out _).mono ?_; rintro e w' ⟨rfl, rfl⟩
  go_wp2
  go_loopw [21, 22] (fun v j wr => ∃ k : Nat, k ≤ n ∧ k ≤ 12 ∧ j = .int .i64 k ∧ wr.ownsRow w.heap.size 3 1 v (2 * k) (ints (pairs (zs.take k))) ∧ Below w.heap.size w wr) (fun _ j _ => n - (intOf j).toNat)
  case atStart => exact ⟨0, Nat.zero_le _, Nat.zero_le _, rfl, by simpa [pairs, ints] using World.ownsRow_nil _ _ _ _, Below.refl _ _⟩
  case round =>
    obtain ⟨k, hk, hk12, rfl, hown, hbel⟩ := hrel
    have hsz := hbel.size
    have HB := Lib.hid hbel; clear hbel
    by_cases hlt : k < n ∧ k < 12
    · obtain ⟨hlt, hlt12⟩ := hlt
      obtain ⟨ad, hkl, rfl, hc⟩ := (H.out.below HB.out).int hlt
      have hI := Lib.hid (HZ.out zs[k] (List.getElem_mem _))
      have hx := nWithin_in zs[k] (lo := -1125899906842624) (hi := 1125899906842624) (by omega)
      generalize hzk : zs[k] = z at *
      have HZK := Lib.hid hzk; clear hzk
      have HX := Lib.hid hx
      generalize hxx : nWithin z (-1125899906842624) 1125899906842624 = x at *
      have HXX := Lib.hid hxx; clear hxx
      obtain ⟨hx1, hx2⟩ := hx
      have HLO := Lib.hid hown.lt
      have HO := Lib.hid hown; clear hown
      go_wp2_with (first
        | (go_at_call 18; refine (within_any _ _ _ _ hI.out (by omega) (by omega) (by omega)).mono ?_; rintro e w' ⟨rfl, rfl⟩; rw [HXX.out])
        | (at_builtin; refine wpList_append_own _ rfl _ _ 30 rfl w.heap.size 3 i0 (.int .i64 0) 1 8 Try.underlying30 hi hz0 hz1 hz2 rfl (by decide) _ _ _ rfl (HO.out.alloc _) ⟨wr.heap.size, 0, none⟩ 2 2 [.int .i64 x, .int .i64 (-x)] rfl rfl ?c1 ?c2 ?c3 ?c4 ?c5 ?_))
      case c1 =>
        intro j u hj
        match j, hj with
        | 0, hj => simp at hj; subst hj; simp [Addr.add]
        | 1, hj => simp at hj; subst hj; simp [Addr.add]
      case c2 => intro u hu; simp at hu; rcases hu with rfl | rfl <;> rfl
      case c3 => unfold maxLen; omega
      case c4 => omega
      case c5 => simp; omega
      intro v' w1 hown' hgrow _
      have R := pairs_row (by omega) hkl HB.out (fun g hg => (HLO.out g hg).1) (by rw [HZK.out, HXX.out]; exact hown') hgrow
      have HR := Lib.hid R; clear R hown' hgrow
      go_wp2
      go_roundw
      case rel => exact ⟨k + 1, by omega, by omega, by go_num, HR.out.1, HR.out.2⟩
      case measure => simp [intOf]; omega
    · have HO := Lib.hid hown; clear hown
      have hkl : (zs.take k).length = k := by
        have := H.out.int_len; rw [List.length_take]; omega
      have HS := Lib.hid (sum_pairs (zs.take k) _ wr _ (by rw [hkl]; exact HO.out) (by omega)); clear hkl
      have hge : ¬ ((k : Int) < n ∧ (k : Int) < 12) := by omega
      by_cases hlt : k < n
      all_goals
        go_wp2_with (go_at_call 17; refine HS.out.mono ?_; rintro e w' ⟨rfl, rfl⟩)
        refine (num_runs _).mono ?_; rintro e w' ⟨rfl, rfl⟩
        go_wp2_with fail
        go_ret
        exact ⟨rfl, HB.out⟩

set_option maxHeartbeats 1000000 in
theorem laws_11 (a b s e q h m i : Int) (w : World)
    (c8 : Hid (∀ w, Calls Try.prog 8 #[.int .i64 a, .int .i64 b] w fun y w' => y = .returned (.tuple #[.int .i64 s, .int .i64 e]) ∧ w = w'))
    (c8' : Hid (∀ w, Calls Try.prog 8 #[.int .i64 b, .int .i64 a] w fun y w' => y = .returned (.tuple #[.int .i64 s, .int .i64 e]) ∧ w = w'))
    (c12 : Hid (∀ w, Calls Try.prog 12 #[.int .i64 s, .int .i64 b] w fun y w' => y = .returned (.tuple #[.int .i64 a, .int .i64 0]) ∧ w = w'))
    (c13 : Hid (∀ w, Calls Try.prog 13 #[.int .i64 a, .int .i64 1] w fun y w' => y = .returned (.tuple #[.int .i64 a, .int .i64 0]) ∧ w = w'))
    (c13' : Hid (∀ w, Calls Try.prog 13 #[.int .i64 a, .int .i64 0] w fun y w' => y = .returned (.tuple #[.int .i64 0, .int .i64 0]) ∧ w = w'))
    (c9 : Hid (∀ w, Calls Try.prog 9 #[.int .i64 a, .int .i64 b] w fun y w' => y = .returned (.tuple #[.int .i64 q, .int .i64 h]) ∧ w = w'))
    (c10 : Hid (∀ w, Calls Try.prog 10 #[.int .i64 a, .int .i64 b] w fun y w' => y = .returned (.tuple #[.int .i64 m, .int .i64 i]) ∧ w = w'))
    (he : e = 0) (hq : h = 3)
    (A : Option Addr) (n c : Nat) (zs : List Int) (hl : Sees w w.heap.size 1 A n (ints zs)) (hz : ∀ z ∈ zs, I64 z) (hn : n ≤ 9223372036854775807) :
    Calls Try.prog 6 #[.int .i64 a, .int .i64 b, .slice A n c] w fun e w' => e = .returned (.bool true) ∧ Below w.heap.size w w' := by
  subst he
  subst hq
  have H := Lib.hid hl; clear hl
  have HZ := Lib.hid hz; clear hz
  obtain ⟨i0, hi, hz0, hz1, hz2⟩ := info_parts Try.infoInt
  go_enter Try.func6, Try.ntmps6
  go_wp2_with fail
  refine (c8.out _).mono ?_; rintro e w' ⟨rfl, rfl⟩
  go_wp2_with fail
  refine (c12.out _).mono ?_; rintro e w' ⟨rfl, rfl⟩
  go_wp2_with fail
  refine (c8'.out _).mono ?_; rintro e w' ⟨rfl, rfl⟩
  go_wp2_with fail
  refine (c13.out _).mono ?_; rintro e w' ⟨rfl, rfl⟩
  go_wp2_with fail
  refine (c13'.out _).mono ?_; rintro e w' ⟨rfl, rfl⟩
  go_wp2_with fail
  refine (c9.out _).mono ?_; rintro e w' ⟨rfl, rfl⟩
  go_wp2_with fail
  refine (c10.out _).mono ?_; rintro e w' ⟨rfl, rfl⟩
  go_wp2
  go_loopw [21, 22] (fun v j wr => ∃ k : Nat, k ≤ n ∧ k ≤ 12 ∧ j = .int .i64 k ∧ wr.ownsRow w.heap.size 3 1 v (2 * k) (ints (pairs (zs.take k))) ∧ Below w.heap.size w wr) (fun _ j _ => n - (intOf j).toNat)
  case atStart => exact ⟨0, Nat.zero_le _, Nat.zero_le _, rfl, by simpa [pairs, ints] using World.ownsRow_nil _ _ _ _, Below.refl _ _⟩
  case round =>
    obtain ⟨k, hk, hk12, rfl, hown, hbel⟩ := hrel
    have hsz := hbel.size
    have HB := Lib.hid hbel; clear hbel
    by_cases hlt : k < n ∧ k < 12
    · obtain ⟨hlt, hlt12⟩ := hlt
      obtain ⟨ad, hkl, rfl, hc⟩ := (H.out.below HB.out).int hlt
      have hI := Lib.hid (HZ.out zs[k] (List.getElem_mem _))
      have hx := nWithin_in zs[k] (lo := -1125899906842624) (hi := 1125899906842624) (by omega)
      generalize hzk : zs[k] = z at *
      have HZK := Lib.hid hzk; clear hzk
      have HX := Lib.hid hx
      generalize hxx : nWithin z (-1125899906842624) 1125899906842624 = x at *
      have HXX := Lib.hid hxx; clear hxx
      obtain ⟨hx1, hx2⟩ := hx
      have HLO := Lib.hid hown.lt
      have HO := Lib.hid hown; clear hown
      go_wp2_with (first
        | (go_at_call 18; refine (within_any _ _ _ _ hI.out (by omega) (by omega) (by omega)).mono ?_; rintro e w' ⟨rfl, rfl⟩; rw [HXX.out])
        | (at_builtin; refine wpList_append_own _ rfl _ _ 30 rfl w.heap.size 3 i0 (.int .i64 0) 1 8 Try.underlying30 hi hz0 hz1 hz2 rfl (by decide) _ _ _ rfl (HO.out.alloc _) ⟨wr.heap.size, 0, none⟩ 2 2 [.int .i64 x, .int .i64 (-x)] rfl rfl ?c1 ?c2 ?c3 ?c4 ?c5 ?_))
      case c1 =>
        intro j u hj
        match j, hj with
        | 0, hj => simp at hj; subst hj; simp [Addr.add]
        | 1, hj => simp at hj; subst hj; simp [Addr.add]
      case c2 => intro u hu; simp at hu; rcases hu with rfl | rfl <;> rfl
      case c3 => unfold maxLen; omega
      case c4 => omega
      case c5 => simp; omega
      intro v' w1 hown' hgrow _
      have R := pairs_row (by omega) hkl HB.out (fun g hg => (HLO.out g hg).1) (by rw [HZK.out, HXX.out]; exact hown') hgrow
      have HR := Lib.hid R; clear R hown' hgrow
      go_wp2
      go_roundw
      case rel => exact ⟨k + 1, by omega, by omega, by go_num, HR.out.1, HR.out.2⟩
      case measure => simp [intOf]; omega
    · have HO := Lib.hid hown; clear hown
      have hkl : (zs.take k).length = k := by
        have := H.out.int_len; rw [List.length_take]; omega
      have HS := Lib.hid (sum_pairs (zs.take k) _ wr _ (by rw [hkl]; exact HO.out) (by omega)); clear hkl
      have hge : ¬ ((k : Int) < n ∧ (k : Int) < 12) := by omega
      by_cases hlt : k < n
      all_goals
        go_wp2_with (go_at_call 17; refine HS.out.mono ?_; rintro e w' ⟨rfl, rfl⟩)
        refine (num_runs _).mono ?_; rintro e w' ⟨rfl, rfl⟩
        go_wp2_with fail
        go_ret
        exact ⟨rfl, HB.out⟩

set_option maxHeartbeats 1000000 in
theorem laws_12 (a b s e q h m i : Int) (w : World)
    (c8 : Hid (∀ w, Calls Try.prog 8 #[.int .i64 a, .int .i64 b] w fun y w' => y = .returned (.tuple #[.int .i64 s, .int .i64 e]) ∧ w = w'))
    (c8' : Hid (∀ w, Calls Try.prog 8 #[.int .i64 b, .int .i64 a] w fun y w' => y = .returned (.tuple #[.int .i64 s, .int .i64 e]) ∧ w = w'))
    (c12 : Hid (∀ w, Calls Try.prog 12 #[.int .i64 s, .int .i64 b] w fun y w' => y = .returned (.tuple #[.int .i64 a, .int .i64 0]) ∧ w = w'))
    (c13 : Hid (∀ w, Calls Try.prog 13 #[.int .i64 a, .int .i64 1] w fun y w' => y = .returned (.tuple #[.int .i64 a, .int .i64 0]) ∧ w = w'))
    (c13' : Hid (∀ w, Calls Try.prog 13 #[.int .i64 a, .int .i64 0] w fun y w' => y = .returned (.tuple #[.int .i64 0, .int .i64 0]) ∧ w = w'))
    (c9 : Hid (∀ w, Calls Try.prog 9 #[.int .i64 a, .int .i64 b] w fun y w' => y = .returned (.tuple #[.int .i64 q, .int .i64 h]) ∧ w = w'))
    (c10 : Hid (∀ w, Calls Try.prog 10 #[.int .i64 a, .int .i64 b] w fun y w' => y = .returned (.tuple #[.int .i64 m, .int .i64 i]) ∧ w = w'))
    (he : e = 0) (hq : h = 0 ∧ i = 0 ∧ wrap64 (wrap64 (q * b) + m) = a)
    (A : Option Addr) (n c : Nat) (zs : List Int) (hl : Sees w w.heap.size 1 A n (ints zs)) (hz : ∀ z ∈ zs, I64 z) (hn : n ≤ 9223372036854775807) :
    Calls Try.prog 6 #[.int .i64 a, .int .i64 b, .slice A n c] w fun e w' => e = .returned (.bool true) ∧ Below w.heap.size w w' := by
  subst he
  obtain ⟨rfl, rfl, hw⟩ := hq
  have H := Lib.hid hl; clear hl
  have HZ := Lib.hid hz; clear hz
  obtain ⟨i0, hi, hz0, hz1, hz2⟩ := info_parts Try.infoInt
  go_enter Try.func6, Try.ntmps6
  go_wp2_with fail
  refine (c8.out _).mono ?_; rintro e w' ⟨rfl, rfl⟩
  go_wp2_with fail
  refine (c12.out _).mono ?_; rintro e w' ⟨rfl, rfl⟩
  go_wp2_with fail
  refine (c8'.out _).mono ?_; rintro e w' ⟨rfl, rfl⟩
  go_wp2_with fail
  refine (c13.out _).mono ?_; rintro e w' ⟨rfl, rfl⟩
  go_wp2_with fail
  refine (c13'.out _).mono ?_; rintro e w' ⟨rfl, rfl⟩
  go_wp2_with fail
  refine (c9.out _).mono ?_; rintro e w' ⟨rfl, rfl⟩
  go_wp2_with fail
  refine (c10.out _).mono ?_; rintro e w' ⟨rfl, rfl⟩
  go_wp2
  clear hw
  go_loopw [21, 22] (fun v j wr => ∃ k : Nat, k ≤ n ∧ k ≤ 12 ∧ j = .int .i64 k ∧ wr.ownsRow w.heap.size 3 1 v (2 * k) (ints (pairs (zs.take k))) ∧ Below w.heap.size w wr) (fun _ j _ => n - (intOf j).toNat)
  case atStart => exact ⟨0, Nat.zero_le _, Nat.zero_le _, rfl, by simpa [pairs, ints] using World.ownsRow_nil _ _ _ _, Below.refl _ _⟩
  case round =>
    obtain ⟨k, hk, hk12, rfl, hown, hbel⟩ := hrel
    have hsz := hbel.size
    have HB := Lib.hid hbel; clear hbel
    by_cases hlt : k < n ∧ k < 12
    · obtain ⟨hlt, hlt12⟩ := hlt
      obtain ⟨ad, hkl, rfl, hc⟩ := (H.out.below HB.out).int hlt
      have hI := Lib.hid (HZ.out zs[k] (List.getElem_mem _))
      have hx := nWithin_in zs[k] (lo := -1125899906842624) (hi := 1125899906842624) (by omega)
      generalize hzk : zs[k] = z at *
      have HZK := Lib.hid hzk; clear hzk
      have HX := Lib.hid hx
      generalize hxx : nWithin z (-1125899906842624) 1125899906842624 = x at *
      have HXX := Lib.hid hxx; clear hxx
      obtain ⟨hx1, hx2⟩ := hx
      have HLO := Lib.hid hown.lt
      have HO := Lib.hid hown; clear hown
      go_wp2_with (first
        | (go_at_call 18; refine (within_any _ _ _ _ hI.out (by omega) (by omega) (by omega)).mono ?_; rintro e w' ⟨rfl, rfl⟩; rw [HXX.out])
        | (at_builtin; refine wpList_append_own _ rfl _ _ 30 rfl w.heap.size 3 i0 (.int .i64 0) 1 8 Try.underlying30 hi hz0 hz1 hz2 rfl (by decide) _ _ _ rfl (HO.out.alloc _) ⟨wr.heap.size, 0, none⟩ 2 2 [.int .i64 x, .int .i64 (-x)] rfl rfl ?c1 ?c2 ?c3 ?c4 ?c5 ?_))
      case c1 =>
        intro j u hj
        match j, hj with
        | 0, hj => simp at hj; subst hj; simp [Addr.add]
        | 1, hj => simp at hj; subst hj; simp [Addr.add]
      case c2 => intro u hu; simp at hu; rcases hu with rfl | rfl <;> rfl
      case c3 => unfold maxLen; omega
      case c4 => omega
      case c5 => simp; omega
      intro v' w1 hown' hgrow _
      have R := pairs_row (by omega) hkl HB.out (fun g hg => (HLO.out g hg).1) (by rw [HZK.out, HXX.out]; exact hown') hgrow
      have HR := Lib.hid R; clear R hown' hgrow
      go_wp2
      go_roundw
      case rel => exact ⟨k + 1, by omega, by omega, by go_num, HR.out.1, HR.out.2⟩
      case measure => simp [intOf]; omega
    · have HO := Lib.hid hown; clear hown
      have hkl : (zs.take k).length = k := by
        have := H.out.int_len; rw [List.length_take]; omega
      have HS := Lib.hid (sum_pairs (zs.take k) _ wr _ (by rw [hkl]; exact HO.out) (by omega)); clear hkl
      have hge : ¬ ((k : Int) < n ∧ (k : Int) < 12) := by omega
      by_cases hlt : k < n
      all_goals
        go_wp2_with (go_at_call 17; refine HS.out.mono ?_; rintro e w' ⟨rfl, rfl⟩)
        refine (num_runs _).mono ?_; rintro e w' ⟨rfl, rfl⟩
        go_wp2_with fail
        go_ret
        exact ⟨rfl, HB.out⟩

set_option maxHeartbeats 1000000 in
theorem laws_00 (a b s e q h m i : Int) (w : World)
    (c8 : Hid (∀ w, Calls Try.prog 8 #[.int .i64 a, .int .i64 b] w fun y w' => y = .returned (.tuple #[.int .i64 s, .int .i64 e]) ∧ w = w'))
    (c8' : Hid (∀ w, Calls Try.prog 8 #[.int .i64 b, .int .i64 a] w fun y w' => y = .returned (.tuple #[.int .i64 s, .int .i64 e]) ∧ w = w'))
    (c12 : True)
    (c13 : Hid (∀ w, Calls Try.prog 13 #[.int .i64 a, .int .i64 1] w fun y w' => y = .returned (.tuple #[.int .i64 a, .int .i64 0]) ∧ w = w'))
    (c13' : Hid (∀ w, Calls Try.prog 13 #[.int .i64 a, .int .i64 0] w fun y w' => y = .returned (.tuple #[.int .i64 0, .int .i64 0]) ∧ w = w'))
    (c9 : Hid (∀ w, Calls Try.prog 9 #[.int .i64 a, .int .i64 b] w fun y w' => y = .returned (.tuple #[.int .i64 q, .int .i64 h]) ∧ w = w'))
    (c10 : Hid (∀ w, Calls Try.prog 10 #[.int .i64 a, .int .i64 b] w fun y w' => y = .returned (.tuple #[.int .i64 m, .int .i64 i]) ∧ w = w'))
    (he : e = 3) (hq : h = 4)
    (A : Option Addr) (n c : Nat) (zs : List Int) (hl : Sees w w.heap.size 1 A n (ints zs)) (hz : ∀ z ∈ zs, I64 z) (hn : n ≤ 9223372036854775807) :
    Calls Try.prog 6 #[.int .i64 a, .int .i64 b, .slice A n c] w fun e w' => e = .returned (.bool true) ∧ Below w.heap.size w w' := by
  subst he
  subst hq
  have H := Lib.hid hl; clear hl
  have HZ := Lib.hid hz; clear hz
  obtain ⟨i0, hi, hz0, hz1, hz2⟩ := info_parts Try.infoInt
  go_enter Try.func6, Try.ntmps6
  go_wp2_with fail
  refine (c8.out _).mono ?_; rintro e w' ⟨rfl, rfl⟩
  go_wp2_with fail
  refine (c8'.out _).mono ?_; rintro e w' ⟨rfl, rfl⟩
  go_wp2_with fail
  refine (c13.out _).mono ?_; rintro e w' ⟨rfl, rfl⟩
  go_wp2_with fail
  refine (c13'.out _).mono ?_; rintro e w' ⟨rfl, rfl⟩
  go_wp2_with fail
  refine (c9.out _).mono ?_; rintro e w' ⟨rfl, rfl⟩
  go_wp2_with fail
  refine (c10.out _).mono ?_; rintro e w' ⟨rfl, rfl⟩
  go_wp2
  go_loopw [21, 22] (fun v j wr => ∃ k : Nat, k ≤ n ∧ k ≤ 12 ∧ j = .int .i64 k ∧ wr.ownsRow w.heap.size 3 1 v (2 * k) (ints (pairs (zs.take k))) ∧ Below w.heap.size w wr) (fun _ j _ => n - (intOf j).toNat)
  case atStart => exact ⟨0, Nat.zero_le _, Nat.zero_le _, rfl, by simpa [pairs, ints] using World.ownsRow_nil _ _ _ _, Below.refl _ _⟩
  case round =>
    obtain ⟨k, hk, hk12, rfl, hown, hbel⟩ := hrel
    have hsz := hbel.size
    have HB := Lib.hid hbel; clear hbel
    by_cases hlt : k < n ∧ k < 12
    · obtain ⟨hlt, hlt12⟩ := hlt
      obtain ⟨ad, hkl, rfl, hc⟩ := (H.out.below HB.out).int hlt
      have hI := Lib.hid (HZ.out zs[k] (List.getElem_mem _))
      have hx := nWithin_in zs[k] (lo := -1125899906842624) (hi := 1125899906842624) (by omega)
      generalize hzk : zs[k] = z at *
      have HZK := Lib.hid hzk; clear hzk
      have HX := Lib.hid hx
      generalize hxx : nWithin z (-1125899906842624) 1125899906842624 = x at *
      have HXX := Lib.hid hxx; clear hxx
      obtain ⟨hx1, hx2⟩ := hx
      have HLO := Lib.hid hown.lt
      have HO := Lib.hid hown; clear hown
      go_wp2_with (first
        | (go_at_call 18; refine (within_any _ _ _ _ hI.out (by omega) (by omega) (by omega)).mono ?_; rintro e w' ⟨rfl, rfl⟩; rw [HXX.out])
        | (at_builtin; refine wpList_append_own _ rfl _ _ 30 rfl w.heap.size 3 i0 (.int .i64 0) 1 8 Try.underlying30 hi hz0 hz1 hz2 rfl (by decide) _ _ _ rfl (HO.out.alloc _) ⟨wr.heap.size, 0, none⟩ 2 2 [.int .i64 x, .int .i64 (-x)] rfl rfl ?c1 ?c2 ?c3 ?c4 ?c5 ?_))
      case c1 =>
        intro j u hj
        match j, hj with
        | 0, hj => simp at hj; subst hj; simp [Addr.add]
        | 1, hj => simp at hj; subst hj; simp [Addr.add]
      case c2 => intro u hu; simp at hu; rcases hu with rfl | rfl <;> rfl
      case c3 => unfold maxLen; omega
      case c4 => omega
      case c5 => simp; omega
      intro v' w1 hown' hgrow _
      have R := pairs_row (by omega) hkl HB.out (fun g hg => (HLO.out g hg).1) (by rw [HZK.out, HXX.out]; exact hown') hgrow
      have HR := Lib.hid R; clear R hown' hgrow
      go_wp2
      go_roundw
      case rel => exact ⟨k + 1, by omega, by omega, by go_num, HR.out.1, HR.out.2⟩
      case measure => simp [intOf]; omega
    · have HO := Lib.hid hown; clear hown
      have hkl : (zs.take k).length = k := by
        have := H.out.int_len; rw [List.length_take]; omega
      have HS := Lib.hid (sum_pairs (zs.take k) _ wr _ (by rw [hkl]; exact HO.out) (by omega)); clear hkl
      have hge : ¬ ((k : Int) < n ∧ (k : Int) < 12) := by omega
      by_cases hlt : k < n
      all_goals
        go_wp2_with (go_at_call 17; refine HS.out.mono ?_; rintro e w' ⟨rfl, rfl⟩)
        refine (num_runs _).mono ?_; rintro e w' ⟨rfl, rfl⟩
        go_wp2_with fail
        go_ret
        exact ⟨rfl, HB.out⟩

set_option maxHeartbeats 1000000 in
theorem laws_01 (a b s e q h m i : Int) (w : World)
    (c8 : Hid (∀ w, Calls Try.prog 8 #[.int .i64 a, .int .i64 b] w fun y w' => y = .returned (.tuple #[.int .i64 s, .int .i64 e]) ∧ w = w'))
    (c8' : Hid (∀ w, Calls Try.prog 8 #[.int .i64 b, .int .i64 a] w fun y w' => y = .returned (.tuple #[.int .i64 s, .int .i64 e]) ∧ w = w'))
    (c12 : True)
    (c13 : Hid (∀ w, Calls Try.prog 13 #[.int .i64 a, .int .i64 1] w fun y w' => y = .returned (.tuple #[.int .i64 a, .int .i64 0]) ∧ w = w'))
    (c13' : Hid (∀ w, Calls Try.prog 13 #[.int .i64 a, .int .i64 0] w fun y w' => y = .returned (.tuple #[.int .i64 0, .int .i64 0]) ∧ w = w'))
    (c9 : Hid (∀ w, Calls Try.prog 9 #[.int .i64 a, .int .i64 b] w fun y w' => y = .returned (.tuple #[.int .i64 q, .int .i64 h]) ∧ w = w'))
    (c10 : Hid (∀ w, Calls Try.prog 10 #[.int .i64 a, .int .i64 b] w fun y w' => y = .returned (.tuple #[.int .i64 m, .int .i64 i]) ∧ w = w'))
    (he : e = 3) (hq : h = 3)
    (A : Option Addr) (n c : Nat) (zs : List Int) (hl : Sees w w.heap.size 1 A n (ints zs)) (hz : ∀ z ∈ zs, I64 z) (hn : n ≤ 9223372036854775807) :
    Calls Try.prog 6 #[.int .i64 a, .int .i64 b, .slice A n c] w fun e w' => e = .returned (.bool true) ∧ Below w.heap.size w w' := by
  subst he
  subst hq
  have H := Lib.hid hl; clear hl
  have HZ := Lib.hid hz; clear hz
  obtain ⟨i0, hi, hz0, hz1, hz2⟩ := info_parts Try.infoInt
  go_enter Try.func6, Try.ntmps6
  go_wp2_with fail
  refine (c8.out _).mono ?_; rintro e w' ⟨rfl, rfl⟩
  go_wp2_with fail
  refine (c8'.out _).mono ?_; rintro e w' ⟨rfl, rfl⟩
  go_wp2_with fail
  refine (c13.out _).mono ?_; rintro e w' ⟨rfl, rfl⟩
  go_wp2_with fail
  refine (c13'.out _).mono ?_; rintro e w' ⟨rfl, rfl⟩
  go_wp2_with fail
  refine (c9.out _).mono ?_; rintro e w' ⟨rfl, rfl⟩
  go_wp2_with fail
  refine (c10.out _).mono ?_; rintro e w' ⟨rfl, rfl⟩
  go_wp2
  go_loopw [21, 22] (fun v j wr => ∃ k : Nat, k ≤ n ∧ k ≤ 12 ∧ j = .int .i64 k ∧ wr.ownsRow w.heap.size 3 1 v (2 * k) (ints (pairs (zs.take k))) ∧ Below w.heap.size w wr) (fun _ j _ => n - (intOf j).toNat)
  case atStart => exact ⟨0, Nat.zero_le _, Nat.zero_le _, rfl, by simpa [pairs, ints] using World.ownsRow_nil _ _ _ _, Below.refl _ _⟩
  case round =>
    obtain ⟨k, hk, hk12, rfl, hown, hbel⟩ := hrel
    have hsz := hbel.size
    have HB := Lib.hid hbel; clear hbel
    by_cases hlt : k < n ∧ k < 12
    · obtain ⟨hlt, hlt12⟩ := hlt
      obtain ⟨ad, hkl, rfl, hc⟩ := (H.out.below HB.out).int hlt
      have hI := Lib.hid (HZ.out zs[k] (List.getElem_mem _))
      have hx := nWithin_in zs[k] (lo := -1125899906842624) (hi := 1125899906842624) (by omega)
      generalize hzk : zs[k] = z at *
      have HZK := Lib.hid hzk; clear hzk
      have HX := Lib.hid hx
      generalize hxx : nWithin z (-1125899906842624) 1125899906842624 = x at *
      have HXX := Lib.hid hxx; clear hxx
      obtain ⟨hx1, hx2⟩ := hx
      have HLO := Lib.hid hown.lt
      have HO := Lib.hid hown; clear hown
      go_wp2_with (first
        | (go_at_call 18; refine (within_any _ _ _ _ hI.out (by omega) (by omega) (by omega)).mono ?_; rintro e w' ⟨rfl, rfl⟩; rw [HXX.out])
        | (at_builtin; refine wpList_append_own _ rfl _ _ 30 rfl w.heap.size 3 i0 (.int .i64 0) 1 8 Try.underlying30 hi hz0 hz1 hz2 rfl (by decide) _ _ _ rfl (HO.out.alloc _) ⟨wr.heap.size, 0, none⟩ 2 2 [.int .i64 x, .int .i64 (-x)] rfl rfl ?c1 ?c2 ?c3 ?c4 ?c5 ?_))
      case c1 =>
        intro j u hj
        match j, hj with
        | 0, hj => simp at hj; subst hj; simp [Addr.add]
        | 1, hj => simp at hj; subst hj; simp [Addr.add]
      case c2 => intro u hu; simp at hu; rcases hu with rfl | rfl <;> rfl
      case c3 => unfold maxLen; omega
      case c4 => omega
      case c5 => simp; omega
      intro v' w1 hown' hgrow _
      have R := pairs_row (by omega) hkl HB.out (fun g hg => (HLO.out g hg).1) (by rw [HZK.out, HXX.out]; exact hown') hgrow
      have HR := Lib.hid R; clear R hown' hgrow
      go_wp2
      go_roundw
      case rel => exact ⟨k + 1, by omega, by omega, by go_num, HR.out.1, HR.out.2⟩
      case measure => simp [intOf]; omega
    · have HO := Lib.hid hown; clear hown
      have hkl : (zs.take k).length = k := by
        have := H.out.int_len; rw [List.length_take]; omega
      have HS := Lib.hid (sum_pairs (zs.take k) _ wr _ (by rw [hkl]; exact HO.out) (by omega)); clear hkl
      have hge : ¬ ((k : Int) < n ∧ (k : Int) < 12) := by omega
      by_cases hlt : k < n
      all_goals
        go_wp2_with (go_at_call 17; refine HS.out.mono ?_; rintro e w' ⟨rfl, rfl⟩)
        refine (num_runs _).mono ?_; rintro e w' ⟨rfl, rfl⟩
        go_wp2_with fail
        go_ret
        exact ⟨rfl, HB.out⟩

set_option maxHeartbeats 1000000 in
theorem laws_02 (a b s e q h m i : Int) (w : World)
    (c8 : Hid (∀ w, Calls Try.prog 8 #[.int .i64 a, .int .i64 b] w fun y w' => y = .returned (.tuple #[.int .i64 s, .int .i64 e]) ∧ w = w'))
    (c8' : Hid (∀ w, Calls Try.prog 8 #[.int .i64 b, .int .i64 a] w fun y w' => y = .returned (.tuple #[.int .i64 s, .int .i64 e]) ∧ w = w'))
    (c12 : True)
    (c13 : Hid (∀ w, Calls Try.prog 13 #[.int .i64 a, .int .i64 1] w fun y w' => y = .returned (.tuple #[.int .i64 a, .int .i64 0]) ∧ w = w'))
    (c13' : Hid (∀ w, Calls Try.prog 13 #[.int .i64 a, .int .i64 0] w fun y w' => y = .returned (.tuple #[.int .i64 0, .int .i64 0]) ∧ w = w'))
    (c9 : Hid (∀ w, Calls Try.prog 9 #[.int .i64 a, .int .i64 b] w fun y w' => y = .returned (.tuple #[.int .i64 q, .int .i64 h]) ∧ w = w'))
    (c10 : Hid (∀ w, Calls Try.prog 10 #[.int .i64 a, .int .i64 b] w fun y w' => y = .returned (.tuple #[.int .i64 m, .int .i64 i]) ∧ w = w'))
    (he : e = 3) (hq : h = 0 ∧ i = 0 ∧ wrap64 (wrap64 (q * b) + m) = a)
    (A : Option Addr) (n c : Nat) (zs : List Int) (hl : Sees w w.heap.size 1 A n (ints zs)) (hz : ∀ z ∈ zs, I64 z) (hn : n ≤ 9223372036854775807) :
    Calls Try.prog 6 #[.int .i64 a, .int .i64 b, .slice A n c] w fun e w' => e = .returned (.bool true) ∧ Below w.heap.size w w' := by
  subst he
  obtain ⟨rfl, rfl, hw⟩ := hq
  have H := Lib.hid hl; clear hl
  have HZ := Lib.hid hz; clear hz
  obtain ⟨i0, hi, hz0, hz1, hz2⟩ := info_parts Try.infoInt
  go_enter Try.func6, Try.ntmps6
  go_wp2_with fail
  refine (c8.out _).mono ?_; rintro e w' ⟨rfl, rfl⟩
  go_wp2_with fail
  refine (c8'.out _).mono ?_; rintro e w' ⟨rfl, rfl⟩
  go_wp2_with fail
  refine (c13.out _).mono ?_; rintro e w' ⟨rfl, rfl⟩
  go_wp2_with fail
  refine (c13'.out _).mono ?_; rintro e w' ⟨rfl, rfl⟩
  go_wp2_with fail
  refine (c9.out _).mono ?_; rintro e w' ⟨rfl, rfl⟩
  go_wp2_with fail
  refine (c10.out _).mono ?_; rintro e w' ⟨rfl, rfl⟩
  go_wp2
  clear hw
  go_loopw [21, 22] (fun v j wr => ∃ k : Nat, k ≤ n ∧ k ≤ 12 ∧ j = .int .i64 k ∧ wr.ownsRow w.heap.size 3 1 v (2 * k) (ints (pairs (zs.take k))) ∧ Below w.heap.size w wr) (fun _ j _ => n - (intOf j).toNat)
  case atStart => exact ⟨0, Nat.zero_le _, Nat.zero_le _, rfl, by simpa [pairs, ints] using World.ownsRow_nil _ _ _ _, Below.refl _ _⟩
  case round =>
    obtain ⟨k, hk, hk12, rfl, hown, hbel⟩ := hrel
    have hsz := hbel.size
    have HB := Lib.hid hbel; clear hbel
    by_cases hlt : k < n ∧ k < 12
    · obtain ⟨hlt, hlt12⟩ := hlt
      obtain ⟨ad, hkl, rfl, hc⟩ := (H.out.below HB.out).int hlt
      have hI := Lib.hid (HZ.out zs[k] (List.getElem_mem _))
      have hx := nWithin_in zs[k] (lo := -1125899906842624) (hi := 1125899906842624) (by omega)
      generalize hzk : zs[k] = z at *
      have HZK := Lib.hid hzk; clear hzk
      have HX := Lib.hid hx
      generalize hxx : nWithin z (-1125899906842624) 1125899906842624 = x at *
      have HXX := Lib.hid hxx; clear hxx
      obtain ⟨hx1, hx2⟩ := hx
      have HLO := Lib.hid hown.lt
      have HO := Lib.hid hown; clear hown
      go_wp2_with (first
        | (go_at_call 18; refine (within_any _ _ _ _ hI.out (by omega) (by omega) (by omega)).mono ?_; rintro e w' ⟨rfl, rfl⟩; rw [HXX.out])
        | (at_builtin; refine wpList_append_own _ rfl _ _ 30 rfl w.heap.size 3 i0 (.int .i64 0) 1 8 Try.underlying30 hi hz0 hz1 hz2 rfl (by decide) _ _ _ rfl (HO.out.alloc _) ⟨wr.heap.size, 0, none⟩ 2 2 [.int .i64 x, .int .i64 (-x)] rfl rfl ?c1 ?c2 ?c3 ?c4 ?c5 ?_))
      case c1 =>
        intro j u hj
        match j, hj with
        | 0, hj => simp at hj; subst hj; simp [Addr.add]
        | 1, hj => simp at hj; subst hj; simp [Addr.add]
      case c2 => intro u hu; simp at hu; rcases hu with rfl | rfl <;> rfl
      case c3 => unfold maxLen; omega
      case c4 => omega
      case c5 => simp; omega
      intro v' w1 hown' hgrow _
      have R := pairs_row (by omega) hkl HB.out (fun g hg => (HLO.out g hg).1) (by rw [HZK.out, HXX.out]; exact hown') hgrow
      have HR := Lib.hid R; clear R hown' hgrow
      go_wp2
      go_roundw
      case rel => exact ⟨k + 1, by omega, by omega, by go_num, HR.out.1, HR.out.2⟩
      case measure => simp [intOf]; omega
    · have HO := Lib.hid hown; clear hown
      have hkl : (zs.take k).length = k := by
        have := H.out.int_len; rw [List.length_take]; omega
      have HS := Lib.hid (sum_pairs (zs.take k) _ wr _ (by rw [hkl]; exact HO.out) (by omega)); clear hkl
      have hge : ¬ ((k : Int) < n ∧ (k : Int) < 12) := by omega
      by_cases hlt : k < n
      all_goals
        go_wp2_with (go_at_call 17; refine HS.out.mono ?_; rintro e w' ⟨rfl, rfl⟩)
        refine (num_runs _).mono ?_; rintro e w' ⟨rfl, rfl⟩
        go_wp2_with fail
        go_ret
        exact ⟨rfl, HB.out⟩


theorem quo_back (a b : Int) (w : World) (wa : I64 a) : ∃ q h m i, QuoBack a b q h m i ∧
    (∀ w, Calls Try.prog 9 #[.int .i64 a, .int .i64 b] w fun e w' => e = .returned (.tuple #[.int .i64 q, .int .i64 h]) ∧ w = w') ∧
    (∀ w, Calls Try.prog 10 #[.int .i64 a, .int .i64 b] w fun e w' => e = .returned (.tuple #[.int .i64 m, .int .i64 i]) ∧ w = w') := by
  by_cases hb : b = 0
  · subst hb
    exact ⟨0, 4, 0, 4, .inl rfl, num_div_zero a, num_mod_zero a⟩
  by_cases ho : a = -9223372036854775808 ∧ b = -1
  · obtain ⟨rfl, rfl⟩ := ho
    exact ⟨0, 3, 0, 0, .inr (.inl rfl), num_div_over, fun w => num_mod_any _ _ w hb⟩
  · refine ⟨a.tdiv b, 0, a.tmod b, 0, .inr (.inr ⟨rfl, rfl, ?_⟩), fun w => num_div_any a b w wa hb ho, fun w => num_mod_any a b w hb⟩
    have h1 := Int.mul_tdiv_add_tmod a b
    rw [Int.mul_comm] at h1
    have h2 : wrap64 (wrap64 (a.tdiv b * b) + a.tmod b) = wrap64 (a.tdiv b * b + a.tmod b) := by unfold wrap64; omega
    rw [h2, h1, wrap64_of wa]
theorem num_laws (a b : Int) (w : World) (wa : I64 a) (wb : I64 b) (A : Option Addr) (n c : Nat) (zs : List Int) (hl : Sees w w.heap.size 1 A n (ints zs)) (hz : ∀ z ∈ zs, I64 z) (hn : n ≤ 9223372036854775807) :
    Calls Try.prog 6 #[.int .i64 a, .int .i64 b, .slice A n c] w fun e w' => e = .returned (.bool true) ∧ Below w.heap.size w w' := by
  obtain ⟨q, h, m, i, hq, c9, c10⟩ := quo_back a b w wa
  have c8 := fun w => num_add_any a b w wa wb
  have c8' := fun w => num_add_any b a w wb wa
  rw [Int.add_comm b a] at c8'
  have c13 := fun w => num_mul_any a 1 w wa (by unfold I64; omega)
  have c13' := fun w => num_mul_any a 0 w wa (by unfold I64; omega)
  rw [Int.mul_one, nV_in wa, nE_in wa] at c13
  have h0 : I64 0 := by unfold I64; omega
  rw [Int.mul_zero, nV_in h0, nE_in h0] at c13'
  by_cases hs : I64 (a + b)
  · have c12 := fun w => num_sub_any (a + b) b w hs wb
    rw [show a + b - b = a by omega, nV_in wa, nE_in wa] at c12
    rw [nV_in hs, nE_in hs] at c8 c8'
    rcases hq with hq | hq | hq
    · exact laws_10 a b _ _ q h m i w (Lib.hid c8) (Lib.hid c8') (Lib.hid c12) (Lib.hid c13) (Lib.hid c13') (Lib.hid c9) (Lib.hid c10) rfl hq A n c zs hl hz hn
    · exact laws_11 a b _ _ q h m i w (Lib.hid c8) (Lib.hid c8') (Lib.hid c12) (Lib.hid c13) (Lib.hid c13') (Lib.hid c9) (Lib.hid c10) rfl hq A n c zs hl hz hn
    · exact laws_12 a b _ _ q h m i w (Lib.hid c8) (Lib.hid c8') (Lib.hid c12) (Lib.hid c13) (Lib.hid c13') (Lib.hid c9) (Lib.hid c10) rfl hq A n c zs hl hz hn
  · rw [nV_out hs, nE_out hs] at c8 c8'
    rcases hq with hq | hq | hq
    · exact laws_00 a b _ _ q h m i w (Lib.hid c8) (Lib.hid c8') trivial (Lib.hid c13) (Lib.hid c13') (Lib.hid c9) (Lib.hid c10) rfl hq A n c zs hl hz hn
    · exact laws_01 a b _ _ q h m i w (Lib.hid c8) (Lib.hid c8') trivial (Lib.hid c13) (Lib.hid c13') (Lib.hid c9) (Lib.hid c10) rfl hq A n c zs hl hz hn
    · exact laws_02 a b _ _ q h m i w (Lib.hid c8) (Lib.hid c8') trivial (Lib.hid c13) (Lib.hid c13') (Lib.hid c9) (Lib.hid c10) rfl hq A n c zs hl hz hn
end Go.Proofs.Ytejfohopibkgoaa
