/- klaxonbook's small numbers: Within, Clamp. -/
import Derived.Test.YtfcjalojgmpnoaaRows
import Derived.Test.YtfcjalojgmpnoaaBase
import Derived.WalkKit
import Derived.ProofKit
import Derived.Lib.Hide
namespace Go.Proofs.Ytfcjalojgmpnoaa
open Go.ChangeShapes Go.WideShapes Go.ChangeAt Go.RowKit
set_option linter.unusedVariables false

/-- A number brought into lo .. hi. -/
def nWithin (n lo hi : Int) : Int := lo + n % (hi - lo + 1)
theorem nWithin_in (n : Int) {lo hi : Int} (h : lo ≤ hi) : lo ≤ nWithin n lo hi ∧ nWithin n lo hi ≤ hi := by
  unfold nWithin
  have h1 := Int.emod_nonneg n (show hi - lo + 1 ≠ 0 by omega)
  have h2 := Int.emod_lt_of_pos n (show 0 < hi - lo + 1 by omega)
  omega
theorem tmod_parts {n d : Int} (hd : 0 < d) : (n.tmod d = n % d ∨ n.tmod d = n % d - d ∧ 0 < n % d) ∧ 0 ≤ n % d ∧ n % d < d := by
  have h1 : n.tmod d = n % d - _ := Int.tmod_eq_emod
  have h2 := Int.emod_nonneg n (show d ≠ 0 by omega)
  have h3 := Int.emod_lt_of_pos n hd
  refine ⟨?_, h2, h3⟩
  split at h1
  · exact .inl (by simpa using h1)
  · rename_i hc
    refine .inr ⟨by omega, ?_⟩
    have : n % d ≠ 0 := fun h => hc (.inr (Int.dvd_of_emod_eq_zero h))
    omega
theorem tmod_neg {n d : Int} (hd : 0 < d) (h : n.tmod d < 0) : n % d = n.tmod d + d := by
  have := tmod_parts (n := n) hd; omega
theorem tmod_pos {n d : Int} (hd : 0 < d) (h : ¬ n.tmod d < 0) : n % d = n.tmod d := by
  have := tmod_parts (n := n) hd; omega
theorem within_any (n lo hi : Int) (w : World) (wn : I64 n) (h1 : -4611686018427387904 ≤ lo) (h2 : lo ≤ hi) (h3 : hi ≤ 4611686018427387000) :
    Calls Try.prog 17 #[.int .i64 n, .int .i64 lo, .int .i64 hi] w fun e w' => e = .returned (.int .i64 (nWithin n lo hi)) ∧ w = w' := by
  have hd : 0 < hi - lo + 1 := by omega
  have hz : ¬ hi - lo + 1 = 0 := by omega
  have hb : -(hi - lo + 1) < n.tmod (hi - lo + 1) ∧ n.tmod (hi - lo + 1) < hi - lo + 1 := by
    have := tmod_parts (n := n) hd
    omega
  by_cases hm : n.tmod (hi - lo + 1) < 0
  · have HW := Lib.hid (show lo + (n.tmod (hi - lo + 1) + hi - lo + 1) = nWithin n lo hi by unfold nWithin; rw [tmod_neg hd hm]; omega)
    clear wn
    go_enter Try.func17, Try.ntmps17
    go_wp2
    go_ret
    exact ⟨ret_int HW.out, rfl⟩
  · have HW := Lib.hid (show lo + n.tmod (hi - lo + 1) = nWithin n lo hi by unfold nWithin; rw [tmod_pos hd hm])
    clear wn
    go_enter Try.func17, Try.ntmps17
    go_wp2
    go_ret
    exact ⟨ret_int HW.out, rfl⟩
end Go.Proofs.Ytfcjalojgmpnoaa
