/-
  No cell of these rows narrows 'for every input' (looked for: loops, veiled, ifaces, maps, wideKeys, modest, calm, conditions, laid).
  DERIVED. THE GIVEN ROWS OF THIS SEAT. 6 by the template 'for every input the law returns true; each argument reads behind the call as it read before'; 0 by the template 'total and deterministic' (their statements: YtbndmmfpoljeaaaTotals.lean).
  GIVEN WITH THE SEED: the statements are not yours to turn. If you find one false, say at which input.
  Laid BY PROGRAM, IN A SANDBOX (cutbox-rows.mjs): the forced cells as the released guide's own fill.sh prints them over the translation 9c3694b7fb239cac… (all of the seat's roots in one cut). By AI agents, Wed Nov 11 2026. No macro, syntax, notation, axiom, sorry.
-/
import Derived.Test.YtbndmmfpoljeaaaChecked
import GoSem.Claim
import GoSem.ClaimJoined
import GoSem.ClaimMapViews
import Derived.JoinedTies
import Derived.KernelRfl
namespace Go.Proofs.Ytbndmmfpoljeaaa
/- THE CELL 'sum', in the pinned program and in every row, IS THE sha256 OF THE DUMP (.gsa) THAT YtbndmmfpoljeaaaProg.lean LOADS. Nothing in Lean hashes anything: it is a label: what it is worth is what the hold of that sum in a sandbox is worth. -/
noncomputable def Try.pinned : Pinned := { name := "ytbndmmfpoljeaaa", sum := "9c3694b7fb239cac5323d1668efad0d9ffa4e42147fbaf88ed6f417ddae937c3", checked := Try.checked }
namespace Rows
def none {H : Type} : Left H := { results := [], args := [] }

/-- 'klaxonlaw9.VecRuns': WHATEVER THE INPUT: true; the input reads as it did. -/
def vecRunsSpec : ChangeSpec := { name := "vecRuns", fn := fun _ => fun
  | [] => { results := [.lit (.bool true)], args := [] }
  | _ => none }
def vecRunsRow : OpenClaim := { program := "ytbndmmfpoljeaaa", sum := "9c3694b7fb239cac5323d1668efad0d9ffa4e42147fbaf88ed6f417ddae937c3", func := "klaxon/klaxonlaw9.VecRuns", spec := "vecRuns", inPlace := ["internal/abi.NoEscape", "internal/bytealg.MakeNoZero"], unfollowed := true, recurses := true, apart := false }
def VecRunsSaid : Prop := vecRunsRow.holds Try.pinned (OpenSpec.ofChange vecRunsSpec)

/-- ITS FALSE NEIGHBOUR: 'it returns false'. Refute it at one input. -/
def vecRunsWrong : ChangeSpec := { name := "vecRuns", fn := fun _ => fun
  | [] => { results := [.lit (.bool false)], args := [] }
  | _ => none }
def VecRunsWrongFalsely : Prop := vecRunsRow.holds Try.pinned (OpenSpec.ofChange vecRunsWrong)

/-- 'klaxonlaw9.VecTells': WHATEVER THE INPUT: true; the input reads as it did. -/
def vecTellsSpec : ChangeSpec := { name := "vecTells", fn := fun _ => fun
  | [d1, d2, d3, d4, d5, d6] => { results := [.lit (.bool true)], args := [d1, d2, d3, d4, d5, d6] }
  | _ => none }
def vecTellsRow : OpenClaim := { program := "ytbndmmfpoljeaaa", sum := "9c3694b7fb239cac5323d1668efad0d9ffa4e42147fbaf88ed6f417ddae937c3", func := "klaxon/klaxonlaw9.VecTells", spec := "vecTells", inPlace := ["internal/abi.NoEscape", "internal/bytealg.MakeNoZero"], unfollowed := true, recurses := true, apart := false }
def VecTellsSaid : Prop := vecTellsRow.holds Try.pinned (OpenSpec.ofChange vecTellsSpec)

/-- ITS FALSE NEIGHBOUR: 'it returns false'. Refute it at one input. -/
def vecTellsWrong : ChangeSpec := { name := "vecTells", fn := fun _ => fun
  | [d1, d2, d3, d4, d5, d6] => { results := [.lit (.bool false)], args := [d1, d2, d3, d4, d5, d6] }
  | _ => none }
def VecTellsWrongFalsely : Prop := vecTellsRow.holds Try.pinned (OpenSpec.ofChange vecTellsWrong)

/-- 'klaxonlaw9.VecLogic': WHATEVER THE INPUT: true; the input reads as it did. -/
def vecLogicSpec : ChangeSpec := { name := "vecLogic", fn := fun _ => fun
  | [d1, d2, d3] => { results := [.lit (.bool true)], args := [d1, d2, d3] }
  | _ => none }
def vecLogicRow : OpenClaim := { program := "ytbndmmfpoljeaaa", sum := "9c3694b7fb239cac5323d1668efad0d9ffa4e42147fbaf88ed6f417ddae937c3", func := "klaxon/klaxonlaw9.VecLogic", spec := "vecLogic", inPlace := ["internal/abi.NoEscape", "internal/bytealg.MakeNoZero"], unfollowed := true, recurses := true, apart := false }
def VecLogicSaid : Prop := vecLogicRow.holds Try.pinned (OpenSpec.ofChange vecLogicSpec)

/-- ITS FALSE NEIGHBOUR: 'it returns false'. Refute it at one input. -/
def vecLogicWrong : ChangeSpec := { name := "vecLogic", fn := fun _ => fun
  | [d1, d2, d3] => { results := [.lit (.bool false)], args := [d1, d2, d3] }
  | _ => none }
def VecLogicWrongFalsely : Prop := vecLogicRow.holds Try.pinned (OpenSpec.ofChange vecLogicWrong)

/-- 'klaxonlaw9.VecGroups': WHATEVER THE INPUT: true; the input reads as it did. -/
def vecGroupsSpec : ChangeSpec := { name := "vecGroups", fn := fun _ => fun
  | [d1, d2] => { results := [.lit (.bool true)], args := [d1, d2] }
  | _ => none }
def vecGroupsRow : OpenClaim := { program := "ytbndmmfpoljeaaa", sum := "9c3694b7fb239cac5323d1668efad0d9ffa4e42147fbaf88ed6f417ddae937c3", func := "klaxon/klaxonlaw9.VecGroups", spec := "vecGroups", inPlace := ["internal/abi.NoEscape", "internal/bytealg.MakeNoZero"], unfollowed := true, recurses := true, apart := false }
def VecGroupsSaid : Prop := vecGroupsRow.holds Try.pinned (OpenSpec.ofChange vecGroupsSpec)

/-- ITS FALSE NEIGHBOUR: 'it returns false'. Refute it at one input. -/
def vecGroupsWrong : ChangeSpec := { name := "vecGroups", fn := fun _ => fun
  | [d1, d2] => { results := [.lit (.bool false)], args := [d1, d2] }
  | _ => none }
def VecGroupsWrongFalsely : Prop := vecGroupsRow.holds Try.pinned (OpenSpec.ofChange vecGroupsWrong)

/-- 'klaxonlaw9.VecMath': WHATEVER THE INPUT: true; the input reads as it did. -/
def vecMathSpec : ChangeSpec := { name := "vecMath", fn := fun _ => fun
  | [d1, d2, d3] => { results := [.lit (.bool true)], args := [d1, d2, d3] }
  | _ => none }
def vecMathRow : OpenClaim := { program := "ytbndmmfpoljeaaa", sum := "9c3694b7fb239cac5323d1668efad0d9ffa4e42147fbaf88ed6f417ddae937c3", func := "klaxon/klaxonlaw9.VecMath", spec := "vecMath", inPlace := ["internal/abi.NoEscape", "internal/bytealg.MakeNoZero", "internal/bytealg.abigen_runtime_cmpstring"], unfollowed := true, recurses := true, apart := false }
def VecMathSaid : Prop := vecMathRow.holds Try.pinned (OpenSpec.ofChange vecMathSpec)

/-- ITS FALSE NEIGHBOUR: 'it returns false'. Refute it at one input. -/
def vecMathWrong : ChangeSpec := { name := "vecMath", fn := fun _ => fun
  | [d1, d2, d3] => { results := [.lit (.bool false)], args := [d1, d2, d3] }
  | _ => none }
def VecMathWrongFalsely : Prop := vecMathRow.holds Try.pinned (OpenSpec.ofChange vecMathWrong)

/-- 'klaxonlaw9.VecFilter': WHATEVER THE INPUT: true; the input reads as it did. -/
def vecFilterSpec : ChangeSpec := { name := "vecFilter", fn := fun _ => fun
  | [d1, d2, d3] => { results := [.lit (.bool true)], args := [d1, d2, d3] }
  | _ => none }
def vecFilterRow : OpenClaim := { program := "ytbndmmfpoljeaaa", sum := "9c3694b7fb239cac5323d1668efad0d9ffa4e42147fbaf88ed6f417ddae937c3", func := "klaxon/klaxonlaw9.VecFilter", spec := "vecFilter", inPlace := ["internal/abi.NoEscape", "internal/bytealg.MakeNoZero"], unfollowed := true, recurses := true, apart := false }
def VecFilterSaid : Prop := vecFilterRow.holds Try.pinned (OpenSpec.ofChange vecFilterSpec)

/-- ITS FALSE NEIGHBOUR: 'it returns false'. Refute it at one input. -/
def vecFilterWrong : ChangeSpec := { name := "vecFilter", fn := fun _ => fun
  | [d1, d2, d3] => { results := [.lit (.bool false)], args := [d1, d2, d3] }
  | _ => none }
def VecFilterWrongFalsely : Prop := vecFilterRow.holds Try.pinned (OpenSpec.ofChange vecFilterWrong)

/- THE SECOND FORM. 'bulk': how many values and letters a reading holds, each counted each time it is reached (what is shared counts as often as it is met; a slice's spare places count too). A statement '..UptoSaid' is the law's where the arguments, and the package variables that the reading takes, are together of bulk at most 1048576: NARROWER than '..Said'. Prove '..Said' where nothing that the law and all that it calls make is longer than what came in: it says more and counts as full. Else prove '..UptoSaid'. A law counts once. -/
mutual
def uptoBulk {H : Type} : DataW H → Nat
  | .lit (.string bytes) => bytes.length + 1
  | .lit _ => 1
  | .nil => 1
  | .ptr d => uptoBulk d + 1
  | .slice elems spare => uptoBulkAll elems + uptoBulkAll spare + 1
  | .agg parts => uptoBulkAll parts + 1
  | .iface _ d => uptoBulk d + 1
  | .map entries => uptoBulkEntries entries + 1
  | .held _ => 1
def uptoBulkAll {H : Type} : List (DataW H) → Nat
  | [] => 0
  | d :: r => uptoBulk d + uptoBulkAll r
def uptoBulkEntries {H : Type} : List (Lit × DataW H) → Nat
  | [] => 0
  | x :: r => uptoBulkEntry x + uptoBulkEntries r
def uptoBulkEntry {H : Type} : Lit × DataW H → Nat
  | (.string bytes, d) => bytes.length + uptoBulk d + 1
  | (_, d) => uptoBulk d + 1
 end
def uptoSmall : (H : Type) → List (DataW H) → Bool := fun _ ds => decide (uptoBulkAll ds ≤ 1048576)
def OpenSpec.upto (s : _root_.Go.ChangeSpec) : _root_.Go.OpenSpec := { _root_.Go.OpenSpec.ofChange s with cond := some uptoSmall }

/-- 'klaxonlaw9.VecRuns', WHERE WHAT IT READS IS OF BULK AT MOST 1048576: true; the input reads as it did. -/
def vecRunsUptoRow : OpenClaim := { program := "ytbndmmfpoljeaaa", sum := "9c3694b7fb239cac5323d1668efad0d9ffa4e42147fbaf88ed6f417ddae937c3", func := "klaxon/klaxonlaw9.VecRuns", spec := "vecRuns", inPlace := ["internal/abi.NoEscape", "internal/bytealg.MakeNoZero"], unfollowed := true, recurses := true, apart := false, narrowed := true }
def VecRunsUptoSaid : Prop := vecRunsUptoRow.holds Try.pinned (OpenSpec.upto vecRunsSpec)

/-- 'klaxonlaw9.VecTells', WHERE WHAT IT READS IS OF BULK AT MOST 1048576: true; the input reads as it did. -/
def vecTellsUptoRow : OpenClaim := { program := "ytbndmmfpoljeaaa", sum := "9c3694b7fb239cac5323d1668efad0d9ffa4e42147fbaf88ed6f417ddae937c3", func := "klaxon/klaxonlaw9.VecTells", spec := "vecTells", inPlace := ["internal/abi.NoEscape", "internal/bytealg.MakeNoZero"], unfollowed := true, recurses := true, apart := false, narrowed := true }
def VecTellsUptoSaid : Prop := vecTellsUptoRow.holds Try.pinned (OpenSpec.upto vecTellsSpec)

/-- 'klaxonlaw9.VecLogic', WHERE WHAT IT READS IS OF BULK AT MOST 1048576: true; the input reads as it did. -/
def vecLogicUptoRow : OpenClaim := { program := "ytbndmmfpoljeaaa", sum := "9c3694b7fb239cac5323d1668efad0d9ffa4e42147fbaf88ed6f417ddae937c3", func := "klaxon/klaxonlaw9.VecLogic", spec := "vecLogic", inPlace := ["internal/abi.NoEscape", "internal/bytealg.MakeNoZero"], unfollowed := true, recurses := true, apart := false, narrowed := true }
def VecLogicUptoSaid : Prop := vecLogicUptoRow.holds Try.pinned (OpenSpec.upto vecLogicSpec)

/-- 'klaxonlaw9.VecGroups', WHERE WHAT IT READS IS OF BULK AT MOST 1048576: true; the input reads as it did. -/
def vecGroupsUptoRow : OpenClaim := { program := "ytbndmmfpoljeaaa", sum := "9c3694b7fb239cac5323d1668efad0d9ffa4e42147fbaf88ed6f417ddae937c3", func := "klaxon/klaxonlaw9.VecGroups", spec := "vecGroups", inPlace := ["internal/abi.NoEscape", "internal/bytealg.MakeNoZero"], unfollowed := true, recurses := true, apart := false, narrowed := true }
def VecGroupsUptoSaid : Prop := vecGroupsUptoRow.holds Try.pinned (OpenSpec.upto vecGroupsSpec)

/-- 'klaxonlaw9.VecMath', WHERE WHAT IT READS IS OF BULK AT MOST 1048576: true; the input reads as it did. -/
def vecMathUptoRow : OpenClaim := { program := "ytbndmmfpoljeaaa", sum := "9c3694b7fb239cac5323d1668efad0d9ffa4e42147fbaf88ed6f417ddae937c3", func := "klaxon/klaxonlaw9.VecMath", spec := "vecMath", inPlace := ["internal/abi.NoEscape", "internal/bytealg.MakeNoZero", "internal/bytealg.abigen_runtime_cmpstring"], unfollowed := true, recurses := true, apart := false, narrowed := true }
def VecMathUptoSaid : Prop := vecMathUptoRow.holds Try.pinned (OpenSpec.upto vecMathSpec)

/-- 'klaxonlaw9.VecFilter', WHERE WHAT IT READS IS OF BULK AT MOST 1048576: true; the input reads as it did. -/
def vecFilterUptoRow : OpenClaim := { program := "ytbndmmfpoljeaaa", sum := "9c3694b7fb239cac5323d1668efad0d9ffa4e42147fbaf88ed6f417ddae937c3", func := "klaxon/klaxonlaw9.VecFilter", spec := "vecFilter", inPlace := ["internal/abi.NoEscape", "internal/bytealg.MakeNoZero"], unfollowed := true, recurses := true, apart := false, narrowed := true }
def VecFilterUptoSaid : Prop := vecFilterUptoRow.holds Try.pinned (OpenSpec.upto vecFilterSpec)

end Rows
end Go.Proofs.Ytbndmmfpoljeaaa
