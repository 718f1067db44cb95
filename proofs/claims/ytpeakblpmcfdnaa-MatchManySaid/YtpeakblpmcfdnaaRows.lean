/-
  No cell of these rows narrows 'for every input' (looked for: loops, veiled, ifaces, maps, wideKeys, modest, calm, conditions, laid).
  DERIVED. THE GIVEN ROWS OF THIS SEAT. 5 by the template 'for every input the law returns true; each argument reads behind the call as it read before'; 0 by the template 'total and deterministic' (their statements: YtpeakblpmcfdnaaTotals.lean).
  GIVEN WITH THE SEED: the statements are not yours to turn. If you find one false, say at which input.
  Laid BY PROGRAM, IN A SANDBOX (cutbox-rows.mjs): the forced cells as the released guide's own fill.sh prints them over the translation 1883265cce78073d… (all of the seat's roots in one cut). By AI agents, Wed Nov 11 2026. No macro, syntax, notation, axiom, sorry.
-/
import Derived.Test.YtpeakblpmcfdnaaChecked
import GoSem.Claim
import GoSem.ClaimJoined
import GoSem.ClaimMapViews
import Derived.JoinedTies
import Derived.KernelRfl
namespace Go.Proofs.Ytpeakblpmcfdnaa
/- THE CELL 'sum', in the pinned program and in every row, IS THE sha256 OF THE DUMP (.gsa) THAT YtpeakblpmcfdnaaProg.lean LOADS. Nothing in Lean hashes anything: it is a label: what it is worth is what the hold of that sum in a sandbox is worth. -/
noncomputable def Try.pinned : Pinned := { name := "ytpeakblpmcfdnaa", sum := "1883265cce78073db154096d9aa091bc6f871f03cd930513f9d402cc7426ff0a", checked := Try.checked }
namespace Rows
def none {H : Type} : Left H := { results := [], args := [] }

/-- 'klaxonlaw3.MatchRuns': WHATEVER THE INPUT: true; the input reads as it did. -/
def matchRunsSpec : ChangeSpec := { name := "matchRuns", fn := fun _ => fun
  | [] => { results := [.lit (.bool true)], args := [] }
  | _ => none }
def matchRunsRow : OpenClaim := { program := "ytpeakblpmcfdnaa", sum := "1883265cce78073db154096d9aa091bc6f871f03cd930513f9d402cc7426ff0a", func := "klaxon/klaxonlaw3.MatchRuns", spec := "matchRuns", inPlace := ["internal/abi.NoEscape", "internal/bytealg.MakeNoZero"], apart := false }
def MatchRunsSaid : Prop := matchRunsRow.holds Try.pinned (OpenSpec.ofChange matchRunsSpec)

/-- ITS FALSE NEIGHBOUR: 'it returns false'. Refute it at one input. -/
def matchRunsWrong : ChangeSpec := { name := "matchRuns", fn := fun _ => fun
  | [] => { results := [.lit (.bool false)], args := [] }
  | _ => none }
def MatchRunsWrongFalsely : Prop := matchRunsRow.holds Try.pinned (OpenSpec.ofChange matchRunsWrong)

/-- 'klaxonlaw3.MatchTells': WHATEVER THE INPUT: true; the input reads as it did. -/
def matchTellsSpec : ChangeSpec := { name := "matchTells", fn := fun _ => fun
  | [d1, d2] => { results := [.lit (.bool true)], args := [d1, d2] }
  | _ => none }
def matchTellsRow : OpenClaim := { program := "ytpeakblpmcfdnaa", sum := "1883265cce78073db154096d9aa091bc6f871f03cd930513f9d402cc7426ff0a", func := "klaxon/klaxonlaw3.MatchTells", spec := "matchTells", inPlace := ["internal/abi.NoEscape", "internal/bytealg.MakeNoZero"], apart := false }
def MatchTellsSaid : Prop := matchTellsRow.holds Try.pinned (OpenSpec.ofChange matchTellsSpec)

/-- ITS FALSE NEIGHBOUR: 'it returns false'. Refute it at one input. -/
def matchTellsWrong : ChangeSpec := { name := "matchTells", fn := fun _ => fun
  | [d1, d2] => { results := [.lit (.bool false)], args := [d1, d2] }
  | _ => none }
def MatchTellsWrongFalsely : Prop := matchTellsRow.holds Try.pinned (OpenSpec.ofChange matchTellsWrong)

/-- 'klaxonlaw3.MatchOpposite': WHATEVER THE INPUT: true; the input reads as it did. -/
def matchOppositeSpec : ChangeSpec := { name := "matchOpposite", fn := fun _ => fun
  | [d1, d2, d3, d4, d5] => { results := [.lit (.bool true)], args := [d1, d2, d3, d4, d5] }
  | _ => none }
def matchOppositeRow : OpenClaim := { program := "ytpeakblpmcfdnaa", sum := "1883265cce78073db154096d9aa091bc6f871f03cd930513f9d402cc7426ff0a", func := "klaxon/klaxonlaw3.MatchOpposite", spec := "matchOpposite", inPlace := ["internal/abi.NoEscape", "internal/bytealg.MakeNoZero"], apart := false }
def MatchOppositeSaid : Prop := matchOppositeRow.holds Try.pinned (OpenSpec.ofChange matchOppositeSpec)

/-- ITS FALSE NEIGHBOUR: 'it returns false'. Refute it at one input. -/
def matchOppositeWrong : ChangeSpec := { name := "matchOpposite", fn := fun _ => fun
  | [d1, d2, d3, d4, d5] => { results := [.lit (.bool false)], args := [d1, d2, d3, d4, d5] }
  | _ => none }
def MatchOppositeWrongFalsely : Prop := matchOppositeRow.holds Try.pinned (OpenSpec.ofChange matchOppositeWrong)

/-- 'klaxonlaw3.MatchExact': WHATEVER THE INPUT: true; the input reads as it did. -/
def matchExactSpec : ChangeSpec := { name := "matchExact", fn := fun _ => fun
  | [d1, d2] => { results := [.lit (.bool true)], args := [d1, d2] }
  | _ => none }
def matchExactRow : OpenClaim := { program := "ytpeakblpmcfdnaa", sum := "1883265cce78073db154096d9aa091bc6f871f03cd930513f9d402cc7426ff0a", func := "klaxon/klaxonlaw3.MatchExact", spec := "matchExact", inPlace := ["internal/abi.NoEscape", "internal/bytealg.MakeNoZero"], apart := false }
def MatchExactSaid : Prop := matchExactRow.holds Try.pinned (OpenSpec.ofChange matchExactSpec)

/-- ITS FALSE NEIGHBOUR: 'it returns false'. Refute it at one input. -/
def matchExactWrong : ChangeSpec := { name := "matchExact", fn := fun _ => fun
  | [d1, d2] => { results := [.lit (.bool false)], args := [d1, d2] }
  | _ => none }
def MatchExactWrongFalsely : Prop := matchExactRow.holds Try.pinned (OpenSpec.ofChange matchExactWrong)

/-- 'klaxonlaw3.MatchMany': WHATEVER THE INPUT: true; the input reads as it did. -/
def matchManySpec : ChangeSpec := { name := "matchMany", fn := fun _ => fun
  | [d1, d2, d3, d4, d5] => { results := [.lit (.bool true)], args := [d1, d2, d3, d4, d5] }
  | _ => none }
def matchManyRow : OpenClaim := { program := "ytpeakblpmcfdnaa", sum := "1883265cce78073db154096d9aa091bc6f871f03cd930513f9d402cc7426ff0a", func := "klaxon/klaxonlaw3.MatchMany", spec := "matchMany", inPlace := ["internal/abi.NoEscape", "internal/bytealg.MakeNoZero", "slices.overlaps[klaxon/api.Label]"], apart := false }
def MatchManySaid : Prop := matchManyRow.holds Try.pinned (OpenSpec.ofChange matchManySpec)

/-- ITS FALSE NEIGHBOUR: 'it returns false'. Refute it at one input. -/
def matchManyWrong : ChangeSpec := { name := "matchMany", fn := fun _ => fun
  | [d1, d2, d3, d4, d5] => { results := [.lit (.bool false)], args := [d1, d2, d3, d4, d5] }
  | _ => none }
def MatchManyWrongFalsely : Prop := matchManyRow.holds Try.pinned (OpenSpec.ofChange matchManyWrong)

/- THE SECOND FORM. 'bulk': how many values and letters a reading holds, each counted each time it is reached (what is shared counts as often as it is met; a slice's spare places count too). A statement '..UptoSaid' is the law's where the arguments, and the package variables that the reading takes, are together of bulk at most 1048576: NARROWER than '..Said'. Prove '..Said' where nothing that the law and all that it calls make is longer than what came in: it says more and counts as full. Else prove '..UptoSaid'. A law counts once. -/
mutual
def uptoBulk {H : Type} : DataW H → Nat
  | .lit (.string bytes) => bytes.length + 1
  | .lit _ => 1
  | .nil => 1
  | .ptr d => uptoBulk d + 1
  | .slice elems spare => uptoBulkAll elems + uptoBulkAll spare + 1
  | .agg parts => uptoBulkAll parts + 1
  | .iface _ d => uptoBulk d + 1
  | .map entries => uptoBulkEntries entries + 1
  | .held _ => 1
def uptoBulkAll {H : Type} : List (DataW H) → Nat
  | [] => 0
  | d :: r => uptoBulk d + uptoBulkAll r
def uptoBulkEntries {H : Type} : List (Lit × DataW H) → Nat
  | [] => 0
  | x :: r => uptoBulkEntry x + uptoBulkEntries r
def uptoBulkEntry {H : Type} : Lit × DataW H → Nat
  | (.string bytes, d) => bytes.length + uptoBulk d + 1
  | (_, d) => uptoBulk d + 1
 end
def uptoSmall : (H : Type) → List (DataW H) → Bool := fun _ ds => decide (uptoBulkAll ds ≤ 1048576)
def OpenSpec.upto (s : _root_.Go.ChangeSpec) : _root_.Go.OpenSpec := { _root_.Go.OpenSpec.ofChange s with cond := some uptoSmall }

/-- 'klaxonlaw3.MatchRuns', WHERE WHAT IT READS IS OF BULK AT MOST 1048576: true; the input reads as it did. -/
def matchRunsUptoRow : OpenClaim := { program := "ytpeakblpmcfdnaa", sum := "1883265cce78073db154096d9aa091bc6f871f03cd930513f9d402cc7426ff0a", func := "klaxon/klaxonlaw3.MatchRuns", spec := "matchRuns", inPlace := ["internal/abi.NoEscape", "internal/bytealg.MakeNoZero"], apart := false, narrowed := true }
def MatchRunsUptoSaid : Prop := matchRunsUptoRow.holds Try.pinned (OpenSpec.upto matchRunsSpec)

/-- 'klaxonlaw3.MatchTells', WHERE WHAT IT READS IS OF BULK AT MOST 1048576: true; the input reads as it did. -/
def matchTellsUptoRow : OpenClaim := { program := "ytpeakblpmcfdnaa", sum := "1883265cce78073db154096d9aa091bc6f871f03cd930513f9d402cc7426ff0a", func := "klaxon/klaxonlaw3.MatchTells", spec := "matchTells", inPlace := ["internal/abi.NoEscape", "internal/bytealg.MakeNoZero"], apart := false, narrowed := true }
def MatchTellsUptoSaid : Prop := matchTellsUptoRow.holds Try.pinned (OpenSpec.upto matchTellsSpec)

/-- 'klaxonlaw3.MatchOpposite', WHERE WHAT IT READS IS OF BULK AT MOST 1048576: true; the input reads as it did. -/
def matchOppositeUptoRow : OpenClaim := { program := "ytpeakblpmcfdnaa", sum := "1883265cce78073db154096d9aa091bc6f871f03cd930513f9d402cc7426ff0a", func := "klaxon/klaxonlaw3.MatchOpposite", spec := "matchOpposite", inPlace := ["internal/abi.NoEscape", "internal/bytealg.MakeNoZero"], apart := false, narrowed := true }
def MatchOppositeUptoSaid : Prop := matchOppositeUptoRow.holds Try.pinned (OpenSpec.upto matchOppositeSpec)

/-- 'klaxonlaw3.MatchExact', WHERE WHAT IT READS IS OF BULK AT MOST 1048576: true; the input reads as it did. -/
def matchExactUptoRow : OpenClaim := { program := "ytpeakblpmcfdnaa", sum := "1883265cce78073db154096d9aa091bc6f871f03cd930513f9d402cc7426ff0a", func := "klaxon/klaxonlaw3.MatchExact", spec := "matchExact", inPlace := ["internal/abi.NoEscape", "internal/bytealg.MakeNoZero"], apart := false, narrowed := true }
def MatchExactUptoSaid : Prop := matchExactUptoRow.holds Try.pinned (OpenSpec.upto matchExactSpec)

/-- 'klaxonlaw3.MatchMany', WHERE WHAT IT READS IS OF BULK AT MOST 1048576: true; the input reads as it did. -/
def matchManyUptoRow : OpenClaim := { program := "ytpeakblpmcfdnaa", sum := "1883265cce78073db154096d9aa091bc6f871f03cd930513f9d402cc7426ff0a", func := "klaxon/klaxonlaw3.MatchMany", spec := "matchMany", inPlace := ["internal/abi.NoEscape", "internal/bytealg.MakeNoZero", "slices.overlaps[klaxon/api.Label]"], apart := false, narrowed := true }
def MatchManyUptoSaid : Prop := matchManyUptoRow.holds Try.pinned (OpenSpec.upto matchManySpec)

end Rows
end Go.Proofs.Ytpeakblpmcfdnaa
