/-
  No cell of these rows narrows 'for every input' (looked for: loops, veiled, ifaces, maps, wideKeys, modest, calm, conditions, laid).
  DERIVED. THE GIVEN ROWS OF THIS SEAT. 5 by the template 'for every input the law returns true; each argument reads behind the call as it read before'; 0 by the template 'total and deterministic' (their statements: YtjcbigkmmjcmdaaTotals.lean).
  GIVEN WITH THE SEED: the statements are not yours to turn. If you find one false, say at which input.
  Laid BY PROGRAM, IN A SANDBOX (cutbox-rows.mjs): the forced cells as the released guide's own fill.sh prints them over the translation 70fb4e529bf52b93… (all of the seat's roots in one cut). By AI agents, Wed Nov 11 2026. No macro, syntax, notation, axiom, sorry.
-/
import Derived.Test.YtjcbigkmmjcmdaaChecked
import GoSem.Claim
import GoSem.ClaimJoined
import GoSem.ClaimMapViews
import Derived.JoinedTies
import Derived.KernelRfl
namespace Go.Proofs.Ytjcbigkmmjcmdaa
/- THE CELL 'sum', in the pinned program and in every row, IS THE sha256 OF THE DUMP (.gsa) THAT YtjcbigkmmjcmdaaProg.lean LOADS. Nothing in Lean hashes anything: it is a label: what it is worth is what the hold of that sum in a sandbox is worth. -/
noncomputable def Try.pinned : Pinned := { name := "ytjcbigkmmjcmdaa", sum := "70fb4e529bf52b935719b1ea371e9095dc26365b0189fee27fb935c402d53cdc", checked := Try.checked }
namespace Rows
def none {H : Type} : Left H := { results := [], args := [] }

/-- 'klaxonlaw20.GroupRuns': WHATEVER THE INPUT: true; the input reads as it did. -/
def groupRunsSpec : ChangeSpec := { name := "groupRuns", fn := fun _ => fun
  | [] => { results := [.lit (.bool true)], args := [] }
  | _ => none }
def groupRunsRow : OpenClaim := { program := "ytjcbigkmmjcmdaa", sum := "70fb4e529bf52b935719b1ea371e9095dc26365b0189fee27fb935c402d53cdc", func := "klaxon/klaxonlaw20.GroupRuns", spec := "groupRuns", apart := false }
def GroupRunsSaid : Prop := groupRunsRow.holds Try.pinned (OpenSpec.ofChange groupRunsSpec)

/-- ITS FALSE NEIGHBOUR: 'it returns false'. Refute it at one input. -/
def groupRunsWrong : ChangeSpec := { name := "groupRuns", fn := fun _ => fun
  | [] => { results := [.lit (.bool false)], args := [] }
  | _ => none }
def GroupRunsWrongFalsely : Prop := groupRunsRow.holds Try.pinned (OpenSpec.ofChange groupRunsWrong)

/-- 'klaxonlaw20.GroupTells': WHATEVER THE INPUT: true; the input reads as it did. -/
def groupTellsSpec : ChangeSpec := { name := "groupTells", fn := fun _ => fun
  | [d1, d2, d3, d4, d5, d6, d7] => { results := [.lit (.bool true)], args := [d1, d2, d3, d4, d5, d6, d7] }
  | _ => none }
def groupTellsRow : OpenClaim := { program := "ytjcbigkmmjcmdaa", sum := "70fb4e529bf52b935719b1ea371e9095dc26365b0189fee27fb935c402d53cdc", func := "klaxon/klaxonlaw20.GroupTells", spec := "groupTells", apart := false }
def GroupTellsSaid : Prop := groupTellsRow.holds Try.pinned (OpenSpec.ofChange groupTellsSpec)

/-- ITS FALSE NEIGHBOUR: 'it returns false'. Refute it at one input. -/
def groupTellsWrong : ChangeSpec := { name := "groupTells", fn := fun _ => fun
  | [d1, d2, d3, d4, d5, d6, d7] => { results := [.lit (.bool false)], args := [d1, d2, d3, d4, d5, d6, d7] }
  | _ => none }
def GroupTellsWrongFalsely : Prop := groupTellsRow.holds Try.pinned (OpenSpec.ofChange groupTellsWrong)

/-- 'klaxonlaw20.GroupWaits': WHATEVER THE INPUT: true; the input reads as it did. -/
def groupWaitsSpec : ChangeSpec := { name := "groupWaits", fn := fun _ => fun
  | [d1, d2, d3, d4] => { results := [.lit (.bool true)], args := [d1, d2, d3, d4] }
  | _ => none }
def groupWaitsRow : OpenClaim := { program := "ytjcbigkmmjcmdaa", sum := "70fb4e529bf52b935719b1ea371e9095dc26365b0189fee27fb935c402d53cdc", func := "klaxon/klaxonlaw20.GroupWaits", spec := "groupWaits", apart := false }
def GroupWaitsSaid : Prop := groupWaitsRow.holds Try.pinned (OpenSpec.ofChange groupWaitsSpec)

/-- ITS FALSE NEIGHBOUR: 'it returns false'. Refute it at one input. -/
def groupWaitsWrong : ChangeSpec := { name := "groupWaits", fn := fun _ => fun
  | [d1, d2, d3, d4] => { results := [.lit (.bool false)], args := [d1, d2, d3, d4] }
  | _ => none }
def GroupWaitsWrongFalsely : Prop := groupWaitsRow.holds Try.pinned (OpenSpec.ofChange groupWaitsWrong)

/-- 'klaxonlaw20.GroupQuiet': WHATEVER THE INPUT: true; the input reads as it did. -/
def groupQuietSpec : ChangeSpec := { name := "groupQuiet", fn := fun _ => fun
  | [d1, d2, d3, d4] => { results := [.lit (.bool true)], args := [d1, d2, d3, d4] }
  | _ => none }
def groupQuietRow : OpenClaim := { program := "ytjcbigkmmjcmdaa", sum := "70fb4e529bf52b935719b1ea371e9095dc26365b0189fee27fb935c402d53cdc", func := "klaxon/klaxonlaw20.GroupQuiet", spec := "groupQuiet", apart := false }
def GroupQuietSaid : Prop := groupQuietRow.holds Try.pinned (OpenSpec.ofChange groupQuietSpec)

/-- ITS FALSE NEIGHBOUR: 'it returns false'. Refute it at one input. -/
def groupQuietWrong : ChangeSpec := { name := "groupQuiet", fn := fun _ => fun
  | [d1, d2, d3, d4] => { results := [.lit (.bool false)], args := [d1, d2, d3, d4] }
  | _ => none }
def GroupQuietWrongFalsely : Prop := groupQuietRow.holds Try.pinned (OpenSpec.ofChange groupQuietWrong)

/-- 'klaxonlaw20.GroupCopies': WHATEVER THE INPUT: true; the input reads as it did. -/
def groupCopiesSpec : ChangeSpec := { name := "groupCopies", fn := fun _ => fun
  | [d1, d2, d3, d4, d5] => { results := [.lit (.bool true)], args := [d1, d2, d3, d4, d5] }
  | _ => none }
def groupCopiesRow : OpenClaim := { program := "ytjcbigkmmjcmdaa", sum := "70fb4e529bf52b935719b1ea371e9095dc26365b0189fee27fb935c402d53cdc", func := "klaxon/klaxonlaw20.GroupCopies", spec := "groupCopies", apart := false }
def GroupCopiesSaid : Prop := groupCopiesRow.holds Try.pinned (OpenSpec.ofChange groupCopiesSpec)

/-- ITS FALSE NEIGHBOUR: 'it returns false'. Refute it at one input. -/
def groupCopiesWrong : ChangeSpec := { name := "groupCopies", fn := fun _ => fun
  | [d1, d2, d3, d4, d5] => { results := [.lit (.bool false)], args := [d1, d2, d3, d4, d5] }
  | _ => none }
def GroupCopiesWrongFalsely : Prop := groupCopiesRow.holds Try.pinned (OpenSpec.ofChange groupCopiesWrong)

/- THE SECOND FORM. 'bulk': how many values and letters a reading holds, each counted each time it is reached (what is shared counts as often as it is met; a slice's spare places count too). A statement '..UptoSaid' is the law's where the arguments, and the package variables that the reading takes, are together of bulk at most 1048576: NARROWER than '..Said'. Prove '..Said' where nothing that the law and all that it calls make is longer than what came in: it says more and counts as full. Else prove '..UptoSaid'. A law counts once. -/
mutual
def uptoBulk {H : Type} : DataW H → Nat
  | .lit (.string bytes) => bytes.length + 1
  | .lit _ => 1
  | .nil => 1
  | .ptr d => uptoBulk d + 1
  | .slice elems spare => uptoBulkAll elems + uptoBulkAll spare + 1
  | .agg parts => uptoBulkAll parts + 1
  | .iface _ d => uptoBulk d + 1
  | .map entries => uptoBulkEntries entries + 1
  | .held _ => 1
def uptoBulkAll {H : Type} : List (DataW H) → Nat
  | [] => 0
  | d :: r => uptoBulk d + uptoBulkAll r
def uptoBulkEntries {H : Type} : List (Lit × DataW H) → Nat
  | [] => 0
  | x :: r => uptoBulkEntry x + uptoBulkEntries r
def uptoBulkEntry {H : Type} : Lit × DataW H → Nat
  | (.string bytes, d) => bytes.length + uptoBulk d + 1
  | (_, d) => uptoBulk d + 1
 end
def uptoSmall : (H : Type) → List (DataW H) → Bool := fun _ ds => decide (uptoBulkAll ds ≤ 1048576)
def OpenSpec.upto (s : _root_.Go.ChangeSpec) : _root_.Go.OpenSpec := { _root_.Go.OpenSpec.ofChange s with cond := some uptoSmall }

/-- 'klaxonlaw20.GroupRuns', WHERE WHAT IT READS IS OF BULK AT MOST 1048576: true; the input reads as it did. -/
def groupRunsUptoRow : OpenClaim := { program := "ytjcbigkmmjcmdaa", sum := "70fb4e529bf52b935719b1ea371e9095dc26365b0189fee27fb935c402d53cdc", func := "klaxon/klaxonlaw20.GroupRuns", spec := "groupRuns", apart := false, narrowed := true }
def GroupRunsUptoSaid : Prop := groupRunsUptoRow.holds Try.pinned (OpenSpec.upto groupRunsSpec)

/-- 'klaxonlaw20.GroupTells', WHERE WHAT IT READS IS OF BULK AT MOST 1048576: true; the input reads as it did. -/
def groupTellsUptoRow : OpenClaim := { program := "ytjcbigkmmjcmdaa", sum := "70fb4e529bf52b935719b1ea371e9095dc26365b0189fee27fb935c402d53cdc", func := "klaxon/klaxonlaw20.GroupTells", spec := "groupTells", apart := false, narrowed := true }
def GroupTellsUptoSaid : Prop := groupTellsUptoRow.holds Try.pinned (OpenSpec.upto groupTellsSpec)

/-- 'klaxonlaw20.GroupWaits', WHERE WHAT IT READS IS OF BULK AT MOST 1048576: true; the input reads as it did. -/
def groupWaitsUptoRow : OpenClaim := { program := "ytjcbigkmmjcmdaa", sum := "70fb4e529bf52b935719b1ea371e9095dc26365b0189fee27fb935c402d53cdc", func := "klaxon/klaxonlaw20.GroupWaits", spec := "groupWaits", apart := false, narrowed := true }
def GroupWaitsUptoSaid : Prop := groupWaitsUptoRow.holds Try.pinned (OpenSpec.upto groupWaitsSpec)

/-- 'klaxonlaw20.GroupQuiet', WHERE WHAT IT READS IS OF BULK AT MOST 1048576: true; the input reads as it did. -/
def groupQuietUptoRow : OpenClaim := { program := "ytjcbigkmmjcmdaa", sum := "70fb4e529bf52b935719b1ea371e9095dc26365b0189fee27fb935c402d53cdc", func := "klaxon/klaxonlaw20.GroupQuiet", spec := "groupQuiet", apart := false, narrowed := true }
def GroupQuietUptoSaid : Prop := groupQuietUptoRow.holds Try.pinned (OpenSpec.upto groupQuietSpec)

/-- 'klaxonlaw20.GroupCopies', WHERE WHAT IT READS IS OF BULK AT MOST 1048576: true; the input reads as it did. -/
def groupCopiesUptoRow : OpenClaim := { program := "ytjcbigkmmjcmdaa", sum := "70fb4e529bf52b935719b1ea371e9095dc26365b0189fee27fb935c402d53cdc", func := "klaxon/klaxonlaw20.GroupCopies", spec := "groupCopies", apart := false, narrowed := true }
def GroupCopiesUptoSaid : Prop := groupCopiesUptoRow.holds Try.pinned (OpenSpec.upto groupCopiesSpec)

end Rows
end Go.Proofs.Ytjcbigkmmjcmdaa
