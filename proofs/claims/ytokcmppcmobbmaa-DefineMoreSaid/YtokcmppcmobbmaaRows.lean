/-
  No cell of these rows narrows 'for every input' (looked for: loops, veiled, ifaces, maps, wideKeys, modest, calm, conditions, laid).
  DERIVED. THE GIVEN ROWS OF THIS SEAT. 5 by the template 'for every input the law returns true; each argument reads behind the call as it read before'; 0 by the template 'total and deterministic' (their statements: YtokcmppcmobbmaaTotals.lean).
  GIVEN WITH THE SEED: the statements are not yours to turn. If you find one false, say at which input.
  Laid BY PROGRAM, IN A SANDBOX (cutbox-rows.mjs): the forced cells as the released guide's own fill.sh prints them over the translation f414ec5a726c5289… (all of the seat's roots in one cut). By AI agents, Wed Nov 11 2026. No macro, syntax, notation, axiom, sorry.
-/
import Derived.Test.YtokcmppcmobbmaaChecked
import GoSem.Claim
import GoSem.ClaimJoined
import GoSem.ClaimMapViews
import Derived.JoinedTies
import Derived.KernelRfl
namespace Go.Proofs.Ytokcmppcmobbmaa
/- THE CELL 'sum', in the pinned program and in every row, IS THE sha256 OF THE DUMP (.gsa) THAT YtokcmppcmobbmaaProg.lean LOADS. Nothing in Lean hashes anything: it is a label: what it is worth is what the hold of that sum in a sandbox is worth. -/
noncomputable def Try.pinned : Pinned := { name := "ytokcmppcmobbmaa", sum := "f414ec5a726c52894624aa514d265e91abeca27f58bc70016ca940ced86c5637", checked := Try.checked }
namespace Rows
def none {H : Type} : Left H := { results := [], args := [] }

/-- 'klaxonlaw12.LifeTells': WHATEVER THE INPUT: true; the input reads as it did. -/
def lifeTellsSpec : ChangeSpec := { name := "lifeTells", fn := fun _ => fun
  | [d1, d2, d3, d4] => { results := [.lit (.bool true)], args := [d1, d2, d3, d4] }
  | _ => none }
def lifeTellsRow : OpenClaim := { program := "ytokcmppcmobbmaa", sum := "f414ec5a726c52894624aa514d265e91abeca27f58bc70016ca940ced86c5637", func := "klaxon/klaxonlaw12.LifeTells", spec := "lifeTells", recurses := true, apart := false }
def LifeTellsSaid : Prop := lifeTellsRow.holds Try.pinned (OpenSpec.ofChange lifeTellsSpec)

/-- ITS FALSE NEIGHBOUR: 'it returns false'. Refute it at one input. -/
def lifeTellsWrong : ChangeSpec := { name := "lifeTells", fn := fun _ => fun
  | [d1, d2, d3, d4] => { results := [.lit (.bool false)], args := [d1, d2, d3, d4] }
  | _ => none }
def LifeTellsWrongFalsely : Prop := lifeTellsRow.holds Try.pinned (OpenSpec.ofChange lifeTellsWrong)

/-- 'klaxonlaw16.DefineRuns': WHATEVER THE INPUT: true; the input reads as it did. -/
def defineRunsSpec : ChangeSpec := { name := "defineRuns", fn := fun _ => fun
  | [] => { results := [.lit (.bool true)], args := [] }
  | _ => none }
def defineRunsRow : OpenClaim := { program := "ytokcmppcmobbmaa", sum := "f414ec5a726c52894624aa514d265e91abeca27f58bc70016ca940ced86c5637", func := "klaxon/klaxonlaw16.DefineRuns", spec := "defineRuns", apart := false }
def DefineRunsSaid : Prop := defineRunsRow.holds Try.pinned (OpenSpec.ofChange defineRunsSpec)

/-- ITS FALSE NEIGHBOUR: 'it returns false'. Refute it at one input. -/
def defineRunsWrong : ChangeSpec := { name := "defineRuns", fn := fun _ => fun
  | [] => { results := [.lit (.bool false)], args := [] }
  | _ => none }
def DefineRunsWrongFalsely : Prop := defineRunsRow.holds Try.pinned (OpenSpec.ofChange defineRunsWrong)

/-- 'klaxonlaw16.DefineTells': WHATEVER THE INPUT: true; the input reads as it did. -/
def defineTellsSpec : ChangeSpec := { name := "defineTells", fn := fun _ => fun
  | [d1, d2, d3, d4] => { results := [.lit (.bool true)], args := [d1, d2, d3, d4] }
  | _ => none }
def defineTellsRow : OpenClaim := { program := "ytokcmppcmobbmaa", sum := "f414ec5a726c52894624aa514d265e91abeca27f58bc70016ca940ced86c5637", func := "klaxon/klaxonlaw16.DefineTells", spec := "defineTells", recurses := true, apart := false }
def DefineTellsSaid : Prop := defineTellsRow.holds Try.pinned (OpenSpec.ofChange defineTellsSpec)

/-- ITS FALSE NEIGHBOUR: 'it returns false'. Refute it at one input. -/
def defineTellsWrong : ChangeSpec := { name := "defineTells", fn := fun _ => fun
  | [d1, d2, d3, d4] => { results := [.lit (.bool false)], args := [d1, d2, d3, d4] }
  | _ => none }
def DefineTellsWrongFalsely : Prop := defineTellsRow.holds Try.pinned (OpenSpec.ofChange defineTellsWrong)

/-- 'klaxonlaw16.DefineLife': WHATEVER THE INPUT: true; the input reads as it did. -/
def defineLifeSpec : ChangeSpec := { name := "defineLife", fn := fun _ => fun
  | [d1, d2, d3, d4] => { results := [.lit (.bool true)], args := [d1, d2, d3, d4] }
  | _ => none }
def defineLifeRow : OpenClaim := { program := "ytokcmppcmobbmaa", sum := "f414ec5a726c52894624aa514d265e91abeca27f58bc70016ca940ced86c5637", func := "klaxon/klaxonlaw16.DefineLife", spec := "defineLife", apart := false }
def DefineLifeSaid : Prop := defineLifeRow.holds Try.pinned (OpenSpec.ofChange defineLifeSpec)

/-- ITS FALSE NEIGHBOUR: 'it returns false'. Refute it at one input. -/
def defineLifeWrong : ChangeSpec := { name := "defineLife", fn := fun _ => fun
  | [d1, d2, d3, d4] => { results := [.lit (.bool false)], args := [d1, d2, d3, d4] }
  | _ => none }
def DefineLifeWrongFalsely : Prop := defineLifeRow.holds Try.pinned (OpenSpec.ofChange defineLifeWrong)

/-- 'klaxonlaw16.DefineMore': WHATEVER THE INPUT: true; the input reads as it did. -/
def defineMoreSpec : ChangeSpec := { name := "defineMore", fn := fun _ => fun
  | [d1, d2, d3, d4, d5, d6] => { results := [.lit (.bool true)], args := [d1, d2, d3, d4, d5, d6] }
  | _ => none }
def defineMoreRow : OpenClaim := { program := "ytokcmppcmobbmaa", sum := "f414ec5a726c52894624aa514d265e91abeca27f58bc70016ca940ced86c5637", func := "klaxon/klaxonlaw16.DefineMore", spec := "defineMore", apart := false }
def DefineMoreSaid : Prop := defineMoreRow.holds Try.pinned (OpenSpec.ofChange defineMoreSpec)

/-- ITS FALSE NEIGHBOUR: 'it returns false'. Refute it at one input. -/
def defineMoreWrong : ChangeSpec := { name := "defineMore", fn := fun _ => fun
  | [d1, d2, d3, d4, d5, d6] => { results := [.lit (.bool false)], args := [d1, d2, d3, d4, d5, d6] }
  | _ => none }
def DefineMoreWrongFalsely : Prop := defineMoreRow.holds Try.pinned (OpenSpec.ofChange defineMoreWrong)

/- THE SECOND FORM. 'bulk': how many values and letters a reading holds, each counted each time it is reached (what is shared counts as often as it is met; a slice's spare places count too). A statement '..UptoSaid' is the law's where the arguments, and the package variables that the reading takes, are together of bulk at most 1048576: NARROWER than '..Said'. Prove '..Said' where nothing that the law and all that it calls make is longer than what came in: it says more and counts as full. Else prove '..UptoSaid'. A law counts once. -/
mutual
def uptoBulk {H : Type} : DataW H → Nat
  | .lit (.string bytes) => bytes.length + 1
  | .lit _ => 1
  | .nil => 1
  | .ptr d => uptoBulk d + 1
  | .slice elems spare => uptoBulkAll elems + uptoBulkAll spare + 1
  | .agg parts => uptoBulkAll parts + 1
  | .iface _ d => uptoBulk d + 1
  | .map entries => uptoBulkEntries entries + 1
  | .held _ => 1
def uptoBulkAll {H : Type} : List (DataW H) → Nat
  | [] => 0
  | d :: r => uptoBulk d + uptoBulkAll r
def uptoBulkEntries {H : Type} : List (Lit × DataW H) → Nat
  | [] => 0
  | x :: r => uptoBulkEntry x + uptoBulkEntries r
def uptoBulkEntry {H : Type} : Lit × DataW H → Nat
  | (.string bytes, d) => bytes.length + uptoBulk d + 1
  | (_, d) => uptoBulk d + 1
 end
def uptoSmall : (H : Type) → List (DataW H) → Bool := fun _ ds => decide (uptoBulkAll ds ≤ 1048576)
def OpenSpec.upto (s : _root_.Go.ChangeSpec) : _root_.Go.OpenSpec := { _root_.Go.OpenSpec.ofChange s with cond := some uptoSmall }

/-- 'klaxonlaw12.LifeTells', WHERE WHAT IT READS IS OF BULK AT MOST 1048576: true; the input reads as it did. -/
def lifeTellsUptoRow : OpenClaim := { program := "ytokcmppcmobbmaa", sum := "f414ec5a726c52894624aa514d265e91abeca27f58bc70016ca940ced86c5637", func := "klaxon/klaxonlaw12.LifeTells", spec := "lifeTells", recurses := true, apart := false, narrowed := true }
def LifeTellsUptoSaid : Prop := lifeTellsUptoRow.holds Try.pinned (OpenSpec.upto lifeTellsSpec)

/-- 'klaxonlaw16.DefineRuns', WHERE WHAT IT READS IS OF BULK AT MOST 1048576: true; the input reads as it did. -/
def defineRunsUptoRow : OpenClaim := { program := "ytokcmppcmobbmaa", sum := "f414ec5a726c52894624aa514d265e91abeca27f58bc70016ca940ced86c5637", func := "klaxon/klaxonlaw16.DefineRuns", spec := "defineRuns", apart := false, narrowed := true }
def DefineRunsUptoSaid : Prop := defineRunsUptoRow.holds Try.pinned (OpenSpec.upto defineRunsSpec)

/-- 'klaxonlaw16.DefineTells', WHERE WHAT IT READS IS OF BULK AT MOST 1048576: true; the input reads as it did. -/
def defineTellsUptoRow : OpenClaim := { program := "ytokcmppcmobbmaa", sum := "f414ec5a726c52894624aa514d265e91abeca27f58bc70016ca940ced86c5637", func := "klaxon/klaxonlaw16.DefineTells", spec := "defineTells", recurses := true, apart := false, narrowed := true }
def DefineTellsUptoSaid : Prop := defineTellsUptoRow.holds Try.pinned (OpenSpec.upto defineTellsSpec)

/-- 'klaxonlaw16.DefineLife', WHERE WHAT IT READS IS OF BULK AT MOST 1048576: true; the input reads as it did. -/
def defineLifeUptoRow : OpenClaim := { program := "ytokcmppcmobbmaa", sum := "f414ec5a726c52894624aa514d265e91abeca27f58bc70016ca940ced86c5637", func := "klaxon/klaxonlaw16.DefineLife", spec := "defineLife", apart := false, narrowed := true }
def DefineLifeUptoSaid : Prop := defineLifeUptoRow.holds Try.pinned (OpenSpec.upto defineLifeSpec)

/-- 'klaxonlaw16.DefineMore', WHERE WHAT IT READS IS OF BULK AT MOST 1048576: true; the input reads as it did. -/
def defineMoreUptoRow : OpenClaim := { program := "ytokcmppcmobbmaa", sum := "f414ec5a726c52894624aa514d265e91abeca27f58bc70016ca940ced86c5637", func := "klaxon/klaxonlaw16.DefineMore", spec := "defineMore", apart := false, narrowed := true }
def DefineMoreUptoSaid : Prop := defineMoreUptoRow.holds Try.pinned (OpenSpec.upto defineMoreSpec)

end Rows
end Go.Proofs.Ytokcmppcmobbmaa
