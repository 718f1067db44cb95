/- What an argument's expression says besides: its numbers fit, its texts are no longer than texts may be. -/
import Derived.Test.YtcaapbbbekggiaaGreatDoorBase
namespace Go.Proofs.YtcaapbbbekggiaaGreatDoor
open Go.ChangeShapes Go.WideShapes Go.ChangeAt Go.RowKit
set_option linter.unusedVariables false
def szX : Nat → XE → Prop
  | 0, _ => True
  | d + 1, x => I64 x.n ∧ (∀ m ∈ x.ms, m.1.size ≤ 9223372036854775807 ∧ m.2.1.size ≤ 9223372036854775807) ∧ (∀ s ∈ x.ns, s.size ≤ maxLen) ∧ ∀ k ∈ x.kids, szX d k
theorem szX_more {w : World} : ∀ (d : Nat) (x : XE), okX d x w → szX d x → szX (d + 1) x
  | 0, _, h, _ => h.elim
  | d + 1, x, h, hs => ⟨hs.1, hs.2.1, hs.2.2.1, fun k hk => szX_more d k (h.2.2.2 k hk) (hs.2.2.2 k hk)⟩
end Go.Proofs.YtcaapbbbekggiaaGreatDoor
