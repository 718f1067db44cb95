/-
  No cell of these rows narrows 'for every input' (looked for: loops, veiled, ifaces, maps, wideKeys, modest, calm, conditions, laid).
  DERIVED. THE GIVEN ROWS OF THIS SEAT. 4 by the template 'for every input the law returns true; each argument reads behind the call as it read before'; 0 by the template 'total and deterministic' (their statements: YtfcjalojgmpnoaaTotals.lean).
  GIVEN WITH THE SEED: the statements are not yours to turn. If you find one false, say at which input.
  Laid BY PROGRAM, IN A SANDBOX (cutbox-rows.mjs): the forced cells as the released guide's own fill.sh prints them over the translation 49dd7abced638102… (all of the seat's roots in one cut). By AI agents, Wed Nov 11 2026. No macro, syntax, notation, axiom, sorry.
-/
import Derived.Test.YtfcjalojgmpnoaaChecked
import GoSem.Claim
import GoSem.ClaimJoined
import GoSem.ClaimMapViews
import Derived.JoinedTies
import Derived.KernelRfl
namespace Go.Proofs.Ytfcjalojgmpnoaa
/- THE CELL 'sum', in the pinned program and in every row, IS THE sha256 OF THE DUMP (.gsa) THAT YtfcjalojgmpnoaaProg.lean LOADS. Nothing in Lean hashes anything: it is a label: what it is worth is what the hold of that sum in a sandbox is worth. -/
noncomputable def Try.pinned : Pinned := { name := "ytfcjalojgmpnoaa", sum := "49dd7abced638102eb9e0cb56e768ef0124d8fb5a8cd96ed460faa4a3944f5bd", checked := Try.checked }
namespace Rows
def none {H : Type} : Left H := { results := [], args := [] }

/-- 'klaxonlaw18.MuteRuns': WHATEVER THE INPUT: true; the input reads as it did. -/
def muteRunsSpec : ChangeSpec := { name := "muteRuns", fn := fun _ => fun
  | [] => { results := [.lit (.bool true)], args := [] }
  | _ => none }
def muteRunsRow : OpenClaim := { program := "ytfcjalojgmpnoaa", sum := "49dd7abced638102eb9e0cb56e768ef0124d8fb5a8cd96ed460faa4a3944f5bd", func := "klaxon/klaxonlaw18.MuteRuns", spec := "muteRuns", apart := false }
def MuteRunsSaid : Prop := muteRunsRow.holds Try.pinned (OpenSpec.ofChange muteRunsSpec)

/-- ITS FALSE NEIGHBOUR: 'it returns false'. Refute it at one input. -/
def muteRunsWrong : ChangeSpec := { name := "muteRuns", fn := fun _ => fun
  | [] => { results := [.lit (.bool false)], args := [] }
  | _ => none }
def MuteRunsWrongFalsely : Prop := muteRunsRow.holds Try.pinned (OpenSpec.ofChange muteRunsWrong)

/-- 'klaxonlaw18.MuteTells': WHATEVER THE INPUT: true; the input reads as it did. -/
def muteTellsSpec : ChangeSpec := { name := "muteTells", fn := fun _ => fun
  | [d1, d2, d3, d4, d5] => { results := [.lit (.bool true)], args := [d1, d2, d3, d4, d5] }
  | _ => none }
def muteTellsRow : OpenClaim := { program := "ytfcjalojgmpnoaa", sum := "49dd7abced638102eb9e0cb56e768ef0124d8fb5a8cd96ed460faa4a3944f5bd", func := "klaxon/klaxonlaw18.MuteTells", spec := "muteTells", apart := false }
def MuteTellsSaid : Prop := muteTellsRow.holds Try.pinned (OpenSpec.ofChange muteTellsSpec)

/-- ITS FALSE NEIGHBOUR: 'it returns false'. Refute it at one input. -/
def muteTellsWrong : ChangeSpec := { name := "muteTells", fn := fun _ => fun
  | [d1, d2, d3, d4, d5] => { results := [.lit (.bool false)], args := [d1, d2, d3, d4, d5] }
  | _ => none }
def MuteTellsWrongFalsely : Prop := muteTellsRow.holds Try.pinned (OpenSpec.ofChange muteTellsWrong)

/-- 'klaxonlaw18.MuteMore': WHATEVER THE INPUT: true; the input reads as it did. -/
def muteMoreSpec : ChangeSpec := { name := "muteMore", fn := fun _ => fun
  | [d1, d2, d3, d4, d5, d6] => { results := [.lit (.bool true)], args := [d1, d2, d3, d4, d5, d6] }
  | _ => none }
def muteMoreRow : OpenClaim := { program := "ytfcjalojgmpnoaa", sum := "49dd7abced638102eb9e0cb56e768ef0124d8fb5a8cd96ed460faa4a3944f5bd", func := "klaxon/klaxonlaw18.MuteMore", spec := "muteMore", apart := false }
def MuteMoreSaid : Prop := muteMoreRow.holds Try.pinned (OpenSpec.ofChange muteMoreSpec)

/-- ITS FALSE NEIGHBOUR: 'it returns false'. Refute it at one input. -/
def muteMoreWrong : ChangeSpec := { name := "muteMore", fn := fun _ => fun
  | [d1, d2, d3, d4, d5, d6] => { results := [.lit (.bool false)], args := [d1, d2, d3, d4, d5, d6] }
  | _ => none }
def MuteMoreWrongFalsely : Prop := muteMoreRow.holds Try.pinned (OpenSpec.ofChange muteMoreWrong)

/-- 'klaxonlaw18.MuteOrder': WHATEVER THE INPUT: true; the input reads as it did. -/
def muteOrderSpec : ChangeSpec := { name := "muteOrder", fn := fun _ => fun
  | [d1, d2, d3, d4] => { results := [.lit (.bool true)], args := [d1, d2, d3, d4] }
  | _ => none }
def muteOrderRow : OpenClaim := { program := "ytfcjalojgmpnoaa", sum := "49dd7abced638102eb9e0cb56e768ef0124d8fb5a8cd96ed460faa4a3944f5bd", func := "klaxon/klaxonlaw18.MuteOrder", spec := "muteOrder", inPlace := ["internal/abi.NoEscape", "internal/bytealg.MakeNoZero"], apart := false }
def MuteOrderSaid : Prop := muteOrderRow.holds Try.pinned (OpenSpec.ofChange muteOrderSpec)

/-- ITS FALSE NEIGHBOUR: 'it returns false'. Refute it at one input. -/
def muteOrderWrong : ChangeSpec := { name := "muteOrder", fn := fun _ => fun
  | [d1, d2, d3, d4] => { results := [.lit (.bool false)], args := [d1, d2, d3, d4] }
  | _ => none }
def MuteOrderWrongFalsely : Prop := muteOrderRow.holds Try.pinned (OpenSpec.ofChange muteOrderWrong)

/- THE SECOND FORM. 'bulk': how many values and letters a reading holds, each counted each time it is reached (what is shared counts as often as it is met; a slice's spare places count too). A statement '..UptoSaid' is the law's where the arguments, and the package variables that the reading takes, are together of bulk at most 1048576: NARROWER than '..Said'. Prove '..Said' where nothing that the law and all that it calls make is longer than what came in: it says more and counts as full. Else prove '..UptoSaid'. A law counts once. -/
mutual
def uptoBulk {H : Type} : DataW H → Nat
  | .lit (.string bytes) => bytes.length + 1
  | .lit _ => 1
  | .nil => 1
  | .ptr d => uptoBulk d + 1
  | .slice elems spare => uptoBulkAll elems + uptoBulkAll spare + 1
  | .agg parts => uptoBulkAll parts + 1
  | .iface _ d => uptoBulk d + 1
  | .map entries => uptoBulkEntries entries + 1
  | .held _ => 1
def uptoBulkAll {H : Type} : List (DataW H) → Nat
  | [] => 0
  | d :: r => uptoBulk d + uptoBulkAll r
def uptoBulkEntries {H : Type} : List (Lit × DataW H) → Nat
  | [] => 0
  | x :: r => uptoBulkEntry x + uptoBulkEntries r
def uptoBulkEntry {H : Type} : Lit × DataW H → Nat
  | (.string bytes, d) => bytes.length + uptoBulk d + 1
  | (_, d) => uptoBulk d + 1
 end
def uptoSmall : (H : Type) → List (DataW H) → Bool := fun _ ds => decide (uptoBulkAll ds ≤ 1048576)
def OpenSpec.upto (s : _root_.Go.ChangeSpec) : _root_.Go.OpenSpec := { _root_.Go.OpenSpec.ofChange s with cond := some uptoSmall }

/-- 'klaxonlaw18.MuteRuns', WHERE WHAT IT READS IS OF BULK AT MOST 1048576: true; the input reads as it did. -/
def muteRunsUptoRow : OpenClaim := { program := "ytfcjalojgmpnoaa", sum := "49dd7abced638102eb9e0cb56e768ef0124d8fb5a8cd96ed460faa4a3944f5bd", func := "klaxon/klaxonlaw18.MuteRuns", spec := "muteRuns", apart := false, narrowed := true }
def MuteRunsUptoSaid : Prop := muteRunsUptoRow.holds Try.pinned (OpenSpec.upto muteRunsSpec)

/-- 'klaxonlaw18.MuteTells', WHERE WHAT IT READS IS OF BULK AT MOST 1048576: true; the input reads as it did. -/
def muteTellsUptoRow : OpenClaim := { program := "ytfcjalojgmpnoaa", sum := "49dd7abced638102eb9e0cb56e768ef0124d8fb5a8cd96ed460faa4a3944f5bd", func := "klaxon/klaxonlaw18.MuteTells", spec := "muteTells", apart := false, narrowed := true }
def MuteTellsUptoSaid : Prop := muteTellsUptoRow.holds Try.pinned (OpenSpec.upto muteTellsSpec)

/-- 'klaxonlaw18.MuteMore', WHERE WHAT IT READS IS OF BULK AT MOST 1048576: true; the input reads as it did. -/
def muteMoreUptoRow : OpenClaim := { program := "ytfcjalojgmpnoaa", sum := "49dd7abced638102eb9e0cb56e768ef0124d8fb5a8cd96ed460faa4a3944f5bd", func := "klaxon/klaxonlaw18.MuteMore", spec := "muteMore", apart := false, narrowed := true }
def MuteMoreUptoSaid : Prop := muteMoreUptoRow.holds Try.pinned (OpenSpec.upto muteMoreSpec)

/-- 'klaxonlaw18.MuteOrder', WHERE WHAT IT READS IS OF BULK AT MOST 1048576: true; the input reads as it did. -/
def muteOrderUptoRow : OpenClaim := { program := "ytfcjalojgmpnoaa", sum := "49dd7abced638102eb9e0cb56e768ef0124d8fb5a8cd96ed460faa4a3944f5bd", func := "klaxon/klaxonlaw18.MuteOrder", spec := "muteOrder", inPlace := ["internal/abi.NoEscape", "internal/bytealg.MakeNoZero"], apart := false, narrowed := true }
def MuteOrderUptoSaid : Prop := muteOrderUptoRow.holds Try.pinned (OpenSpec.upto muteOrderSpec)

end Rows
end Go.Proofs.Ytfcjalojgmpnoaa
