/- klaxonbook.Same at tokens, of a list and itself. -/
import Derived.Test.YtealflkblkfhbaaDoorLex7
import Derived.Deep.QuietTactic
import Derived.BigQuiet
namespace Go.Proofs.YtealflkblkfhbaaDoor
open Go.ChangeShapes Go.WideShapes Go.ChangeAt Go.RowKit
set_option linter.unusedVariables false
set_option linter.unusedSimpArgs false
set_option maxRecDepth 100000
theorem eq_tokens (k n a : Int) (t : ByteArray) (w : World) : (Op.equalIn 10000 27 (.agg #[.int .i64 k, .int .i64 n, .int .i64 a, .string t]) (.agg #[.int .i64 k, .int .i64 n, .int .i64 a, .string t])).run Tryd.prog w = .ok true w := by
  have u3 := Tryd.underlying3
  have a3 := Tryd.isAgg3
  have z3 := Tryd.sizeOf3
  have u9 := Tryd.underlying9
  have a9 := Tryd.isAgg9
  have z9 := Tryd.sizeOf9
  have hS : Tryd.prog.underlying 27 = some (.struct (Tryd.prog.fieldsOf 27)) := by kernel_rfl
  have hp : Tryd.prog.stoodInHeld 27 = false := by kernel_rfl
  rw [show (10000 : Nat) = 9999 + 1 from rfl, run_equalIn_agg w 9999 27 _ _ hS hp]
  simp only [Program.fieldsOf, Tryd.underlying27]
  go_simp
theorem same_tok (A A2 : Option Addr) (n c c2 B B2 : Nat) (l : List Tok) (w : World) (h : Sees w B 4 A n (tcells l)) (h2 : Sees w B2 4 A2 n (tcells l)) (hn : n ≤ 9223372036854775807) :
    Calls Tryd.prog 13 #[.slice A n c, .slice A2 n c2] w fun e w' => e = .returned (.bool true) ∧ ∃ m, w' = w.drewN m := by
  have H := Lib.hid h; clear h
  have H2 := Lib.hid h2; clear h2
  go_enter Tryd.func13, Tryd.ntmps13
  go_wp2
  go_loopw [5] (fun i wr => ∃ k m : Nat, k ≤ n ∧ i = .int .i64 k ∧ wr = w.drewN m) (fun i _ => n - (intOf i).toNat)
  case atStart => exact ⟨0, 0, Nat.zero_le _, rfl, rfl⟩
  case round =>
    obtain ⟨k, m, hk, rfl, rfl⟩ := hrel
    by_cases hlt : k < n
    · obtain ⟨ad, hkl, rfl, hc, hd, hf, hg⟩ := H.out.tok hlt
      obtain ⟨ad2, hkl2, rfl, hc2, hd2, hf2, hg2⟩ := H2.out.tok hlt
      generalize l[k] = x at *
      have hq := fun W => eq_tokens x.kd x.n x.at_ x.tx W
      go_wp2
      go_quiet (fail)
      go_wp2
      go_roundw
      case rel => exact ⟨k + 1, _, by omega, by go_num, rfl⟩
      case measure => simp [intOf]; omega
    · obtain rfl : k = n := by omega
      go_wp2
      go_ret
      exact ⟨rfl, m, rfl⟩
end Go.Proofs.YtealflkblkfhbaaDoor
