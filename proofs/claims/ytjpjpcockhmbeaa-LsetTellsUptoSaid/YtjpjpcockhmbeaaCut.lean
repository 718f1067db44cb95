/- strings.Cut at one byte; strings.CutPrefix at one byte. -/
import Derived.Test.YtjpjpcockhmbeaaParseMath
import Derived.Deep.QuietTactic
import Derived.BigQuiet
import Derived.Lib.PathFns
import Derived.Lib.IndexLaws
namespace Go.Proofs.Ytjpjpcockhmbeaa
open Go.ChangeShapes Go.WideShapes Go.ChangeAt Go.RowKit
set_option linter.unusedVariables false
set_option maxRecDepth 100000
theorem cutL_index (c : UInt8) : ∀ l : List UInt8, (cutL c l = none ∧ Lib.indexByte l c = -1) ∨ ∃ k : Nat, k < l.length ∧ Lib.indexByte l c = k ∧ cutL c l = some (l.take k, l.drop (k + 1))
  | [] => .inl ⟨rfl, rfl⟩
  | x :: r => by
    unfold cutL Lib.indexByte
    by_cases h : x = c
    · subst h
      exact .inr ⟨0, by simp, by simp, by simp⟩
    · have hb : (x == c) = false := by simpa using h
      rw [if_neg h, hb]
      rcases cutL_index c r with ⟨h1, h2⟩ | ⟨k, hk, h1, h2⟩
      · exact .inl ⟨by rw [h1]; rfl, by rw [h2]; rfl⟩
      · refine .inr ⟨k + 1, by simpa using hk, ?_, by rw [h2]; simp⟩
        rw [h1]
        have : ((k : Int) == -1) = false := by rw [beq_eq_false_iff_ne]; omega
        simp [this]
set_option maxHeartbeats 1000000 in
theorem slcut_yes (s : ByteArray) (c : UInt8) (k : Nat) (w : World) (hk : k < s.data.toList.length) (hi : Lib.indexByte s.data.toList c = k) (hs : s.size ≤ 9223372036854775807) :
    Calls Try.prog 46 #[.string s, .string ⟨#[c]⟩] w fun e w' => e = .returned (.tuple #[.string (s.extract 0 k), .string (s.extract (k + 1) s.size), .bool true]) ∧ ∃ n, w' = w.drewN n := by
  have HI := Lib.hid (Try.stringslite_Index_one s c w)
  rw [hi] at HI
  have hks : k < s.size := by simpa using hk
  have hks1 : (k : Int) ≤ s.size := by omega
  have hks2 : (k : Int) + 1 ≤ s.size := by omega
  have hks3 : k ≤ s.size := by omega
  have hks4 : k + 1 ≤ s.size := by omega
  clear hi hk
  go_enter Try.func46, Try.ntmps46
  go_wp2_with fail
  refine HI.out.mono ?_; rintro e w' ⟨rfl, rfl⟩
  have z1 : IntKind.i64.wrap ((k : Int) + 1) = (k : Int) + 1 := IntWalk.i64_in _ (by omega)
  have z2 : 0 ≤ (k : Int) + 1 := by omega
  have z3 : ((k : Int) + 1).toNat = k + 1 := by omega
  go_wp2_with fail
  go_quiet (fail)
  go_wp2_with fail
  go_ret3
  exact ⟨rfl, _, rfl⟩
theorem slcut_no (s : ByteArray) (c : UInt8) (w : World) (hi : Lib.indexByte s.data.toList c = -1) (hs : s.size ≤ 9223372036854775807) :
    Calls Try.prog 46 #[.string s, .string ⟨#[c]⟩] w fun e w' => e = .returned (.tuple #[.string s, .string ⟨#[]⟩, .bool false]) ∧ w = w' := by
  have HI := Lib.hid (Try.stringslite_Index_one s c w)
  rw [hi] at HI
  clear hi
  go_enter Try.func46, Try.ntmps46
  go_wp2_with fail
  refine HI.out.mono ?_; rintro e w' ⟨rfl, rfl⟩
  go_wp2_with fail
  go_ret3
  exact ⟨rfl, rfl⟩
theorem cut_yes (s : ByteArray) (c : UInt8) (a b : List UInt8) (w : World) (h : cutL c s.data.toList = some (a, b)) (hs : s.size ≤ 9223372036854775807) :
    Calls Try.prog 40 #[.string s, .string ⟨#[c]⟩] w fun e w' => e = .returned (.tuple #[.string ⟨a.toArray⟩, .string ⟨b.toArray⟩, .bool true]) ∧ ∃ n, w' = w.drewN n := by
  rcases cutL_index c s.data.toList with ⟨h1, _⟩ | ⟨k, hk, hi, h2⟩
  · rw [h1] at h; cases h
  rw [h2] at h
  simp only [Option.some.injEq, Prod.mk.injEq] at h
  have ha : s.extract 0 k = ⟨a.toArray⟩ := by rw [Lib.Pa.extract_upto, h.1]
  have hb : s.extract (k + 1) s.size = ⟨b.toArray⟩ := by rw [Lib.Pa.extract_from, h.2]
  have HC := slcut_yes s c k w hk hi hs
  rw [ha, hb] at HC
  have HC := Lib.hid HC
  clear ha hb h h2 hi hk
  go_enter Try.func40, Try.ntmps40
  go_wp2_with fail
  refine HC.out.mono ?_; rintro e w' ⟨rfl, n, rfl⟩
  go_wp2_with fail
  go_ret3
  exact ⟨rfl, n, rfl⟩
theorem cut_no (s : ByteArray) (c : UInt8) (w : World) (h : cutL c s.data.toList = none) (hs : s.size ≤ 9223372036854775807) :
    Calls Try.prog 40 #[.string s, .string ⟨#[c]⟩] w fun e w' => e = .returned (.tuple #[.string s, .string ⟨#[]⟩, .bool false]) ∧ w = w' := by
  rcases cutL_index c s.data.toList with ⟨_, hi⟩ | ⟨k, hk, hi, h2⟩
  · have HC := Lib.hid (slcut_no s c w hi hs)
    clear hi h
    go_enter Try.func40, Try.ntmps40
    go_wp2_with fail
    refine HC.out.mono ?_; rintro e w' ⟨rfl, rfl⟩
    go_wp2_with fail
    go_ret3
    exact ⟨rfl, rfl⟩
  · rw [h2] at h; cases h
theorem pre_yes (c : UInt8) (r : List UInt8) (s : ByteArray) (w : World) (h : s.data.toList = c :: r) :
    Calls Try.prog 34 #[.string s, .string ⟨#[c]⟩] w fun e w' => e = .returned (.tuple #[.string ⟨r.toArray⟩, .bool true]) ∧ w = w' :=
  (Try.strings_CutPrefix s ⟨#[c]⟩ w).mono fun e w' hh => by
    obtain ⟨he, hw⟩ := hh
    rw [h] at he
    have e1 : Lib.trimPrefix (c :: r) [c] = r := by simp [Lib.trimPrefix, Lib.hasPrefix]
    have e2 : Lib.hasPrefix (c :: r) [c] = true := by simp [Lib.hasPrefix]
    exact ⟨by rw [he]; show _ = _; rw [show (⟨#[c]⟩ : ByteArray).data.toList = [c] from rfl, e1, e2], hw.symm⟩
theorem pre_no (c : UInt8) (s : ByteArray) (w : World) (h : ∀ r, s.data.toList ≠ c :: r) :
    Calls Try.prog 34 #[.string s, .string ⟨#[c]⟩] w fun e w' => e = .returned (.tuple #[.string s, .bool false]) ∧ w = w' :=
  (Try.strings_CutPrefix s ⟨#[c]⟩ w).mono fun e w' hh => by
    obtain ⟨he, hw⟩ := hh
    have e2 : Lib.hasPrefix s.data.toList [c] = false := by
      cases hq : s.data.toList with
      | nil => simp [Lib.hasPrefix]
      | cons x r =>
        simp only [Lib.hasPrefix, List.isPrefixOf, Bool.and_true]
        rw [beq_eq_false_iff_ne]
        intro e; subst e; exact h r hq
    have e1 : Lib.trimPrefix s.data.toList [c] = s.data.toList := by simp [Lib.trimPrefix, e2]
    exact ⟨by rw [he]; show _ = _; rw [show (⟨#[c]⟩ : ByteArray).data.toList = [c] from rfl, e1, e2], hw.symm⟩
end Go.Proofs.Ytjpjpcockhmbeaa
