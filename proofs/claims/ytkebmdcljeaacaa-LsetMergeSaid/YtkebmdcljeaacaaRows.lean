/-
  No cell of these rows narrows 'for every input' (looked for: loops, veiled, ifaces, maps, wideKeys, modest, calm, conditions, laid).
  DERIVED. THE GIVEN ROWS OF THIS SEAT. 6 by the template 'for every input the law returns true; each argument reads behind the call as it read before'; 0 by the template 'total and deterministic' (their statements: YtkebmdcljeaacaaTotals.lean).
  GIVEN WITH THE SEED: the statements are not yours to turn. If you find one false, say at which input.
  Laid BY PROGRAM, IN A SANDBOX (cutbox-rows.mjs): the forced cells as the released guide's own fill.sh prints them over the translation b076823ada7aeb16… (all of the seat's roots in one cut). By AI agents, Wed Nov 11 2026. No macro, syntax, notation, axiom, sorry.
-/
import Derived.Test.YtkebmdcljeaacaaChecked
import GoSem.Claim
import GoSem.ClaimJoined
import GoSem.ClaimMapViews
import Derived.JoinedTies
import Derived.KernelRfl
namespace Go.Proofs.Ytkebmdcljeaacaa
/- THE CELL 'sum', in the pinned program and in every row, IS THE sha256 OF THE DUMP (.gsa) THAT YtkebmdcljeaacaaProg.lean LOADS. Nothing in Lean hashes anything: it is a label: what it is worth is what the hold of that sum in a sandbox is worth. -/
noncomputable def Try.pinned : Pinned := { name := "ytkebmdcljeaacaa", sum := "b076823ada7aeb168a682d0caf3b985c07d4372e42e9839a0bd145d9921bff5f", checked := Try.checked }
namespace Rows
def none {H : Type} : Left H := { results := [], args := [] }

/-- 'klaxonlaw2.LsetRuns': WHATEVER THE INPUT: true; the input reads as it did. -/
def lsetRunsSpec : ChangeSpec := { name := "lsetRuns", fn := fun _ => fun
  | [] => { results := [.lit (.bool true)], args := [] }
  | _ => none }
def lsetRunsRow : OpenClaim := { program := "ytkebmdcljeaacaa", sum := "b076823ada7aeb168a682d0caf3b985c07d4372e42e9839a0bd145d9921bff5f", func := "klaxon/klaxonlaw2.LsetRuns", spec := "lsetRuns", inPlace := ["internal/bytealg.IndexByteString", "internal/bytealg.IndexString", "internal/abi.NoEscape", "internal/bytealg.MakeNoZero", "slices.overlaps[klaxon/api.Label]"], named := ["internal/bytealg.MaxLen"], apart := false }
def LsetRunsSaid : Prop := lsetRunsRow.holds Try.pinned (OpenSpec.ofChange lsetRunsSpec)

/-- ITS FALSE NEIGHBOUR: 'it returns false'. Refute it at one input. -/
def lsetRunsWrong : ChangeSpec := { name := "lsetRuns", fn := fun _ => fun
  | [] => { results := [.lit (.bool false)], args := [] }
  | _ => none }
def LsetRunsWrongFalsely : Prop := lsetRunsRow.holds Try.pinned (OpenSpec.ofChange lsetRunsWrong)

/-- 'klaxonlaw2.LsetTells': WHATEVER THE INPUT: true; the input reads as it did. -/
def lsetTellsSpec : ChangeSpec := { name := "lsetTells", fn := fun _ => fun
  | [d1, d2, d3] => { results := [.lit (.bool true)], args := [d1, d2, d3] }
  | _ => none }
def lsetTellsRow : OpenClaim := { program := "ytkebmdcljeaacaa", sum := "b076823ada7aeb168a682d0caf3b985c07d4372e42e9839a0bd145d9921bff5f", func := "klaxon/klaxonlaw2.LsetTells", spec := "lsetTells", inPlace := ["internal/abi.NoEscape", "internal/bytealg.MakeNoZero", "internal/bytealg.IndexByteString", "internal/bytealg.IndexString", "slices.overlaps[klaxon/api.Label]"], named := ["internal/bytealg.MaxLen"], apart := false }
def LsetTellsSaid : Prop := lsetTellsRow.holds Try.pinned (OpenSpec.ofChange lsetTellsSpec)

/-- ITS FALSE NEIGHBOUR: 'it returns false'. Refute it at one input. -/
def lsetTellsWrong : ChangeSpec := { name := "lsetTells", fn := fun _ => fun
  | [d1, d2, d3] => { results := [.lit (.bool false)], args := [d1, d2, d3] }
  | _ => none }
def LsetTellsWrongFalsely : Prop := lsetTellsRow.holds Try.pinned (OpenSpec.ofChange lsetTellsWrong)

/-- 'klaxonlaw2.LsetBack': WHATEVER THE INPUT: true; the input reads as it did. -/
def lsetBackSpec : ChangeSpec := { name := "lsetBack", fn := fun _ => fun
  | [d1, d2, d3] => { results := [.lit (.bool true)], args := [d1, d2, d3] }
  | _ => none }
def lsetBackRow : OpenClaim := { program := "ytkebmdcljeaacaa", sum := "b076823ada7aeb168a682d0caf3b985c07d4372e42e9839a0bd145d9921bff5f", func := "klaxon/klaxonlaw2.LsetBack", spec := "lsetBack", inPlace := ["internal/abi.NoEscape", "internal/bytealg.MakeNoZero", "internal/bytealg.IndexByteString", "internal/bytealg.IndexString", "internal/bytealg.abigen_runtime_cmpstring", "slices.overlaps[klaxon/api.Label]"], named := ["internal/bytealg.MaxLen"], apart := false }
def LsetBackSaid : Prop := lsetBackRow.holds Try.pinned (OpenSpec.ofChange lsetBackSpec)

/-- ITS FALSE NEIGHBOUR: 'it returns false'. Refute it at one input. -/
def lsetBackWrong : ChangeSpec := { name := "lsetBack", fn := fun _ => fun
  | [d1, d2, d3] => { results := [.lit (.bool false)], args := [d1, d2, d3] }
  | _ => none }
def LsetBackWrongFalsely : Prop := lsetBackRow.holds Try.pinned (OpenSpec.ofChange lsetBackWrong)

/-- 'klaxonlaw2.LsetWith': WHATEVER THE INPUT: true; the input reads as it did. -/
def lsetWithSpec : ChangeSpec := { name := "lsetWith", fn := fun _ => fun
  | [d1, d2, d3, d4] => { results := [.lit (.bool true)], args := [d1, d2, d3, d4] }
  | _ => none }
def lsetWithRow : OpenClaim := { program := "ytkebmdcljeaacaa", sum := "b076823ada7aeb168a682d0caf3b985c07d4372e42e9839a0bd145d9921bff5f", func := "klaxon/klaxonlaw2.LsetWith", spec := "lsetWith", inPlace := ["slices.overlaps[klaxon/api.Label]", "internal/bytealg.IndexByteString", "internal/bytealg.IndexString", "internal/abi.NoEscape", "internal/bytealg.MakeNoZero"], named := ["internal/bytealg.MaxLen"], apart := false }
def LsetWithSaid : Prop := lsetWithRow.holds Try.pinned (OpenSpec.ofChange lsetWithSpec)

/-- ITS FALSE NEIGHBOUR: 'it returns false'. Refute it at one input. -/
def lsetWithWrong : ChangeSpec := { name := "lsetWith", fn := fun _ => fun
  | [d1, d2, d3, d4] => { results := [.lit (.bool false)], args := [d1, d2, d3, d4] }
  | _ => none }
def LsetWithWrongFalsely : Prop := lsetWithRow.holds Try.pinned (OpenSpec.ofChange lsetWithWrong)

/-- 'klaxonlaw2.LsetQuote': WHATEVER THE INPUT: true; the input reads as it did. -/
def lsetQuoteSpec : ChangeSpec := { name := "lsetQuote", fn := fun _ => fun
  | [d1, d2, d3] => { results := [.lit (.bool true)], args := [d1, d2, d3] }
  | _ => none }
def lsetQuoteRow : OpenClaim := { program := "ytkebmdcljeaacaa", sum := "b076823ada7aeb168a682d0caf3b985c07d4372e42e9839a0bd145d9921bff5f", func := "klaxon/klaxonlaw2.LsetQuote", spec := "lsetQuote", inPlace := ["internal/abi.NoEscape", "internal/bytealg.MakeNoZero", "internal/bytealg.IndexByteString", "internal/bytealg.IndexString", "slices.overlaps[klaxon/api.Label]"], named := ["internal/bytealg.MaxLen"], apart := false }
def LsetQuoteSaid : Prop := lsetQuoteRow.holds Try.pinned (OpenSpec.ofChange lsetQuoteSpec)

/-- ITS FALSE NEIGHBOUR: 'it returns false'. Refute it at one input. -/
def lsetQuoteWrong : ChangeSpec := { name := "lsetQuote", fn := fun _ => fun
  | [d1, d2, d3] => { results := [.lit (.bool false)], args := [d1, d2, d3] }
  | _ => none }
def LsetQuoteWrongFalsely : Prop := lsetQuoteRow.holds Try.pinned (OpenSpec.ofChange lsetQuoteWrong)

/-- 'klaxonlaw2.LsetMerge': WHATEVER THE INPUT: true; the input reads as it did. -/
def lsetMergeSpec : ChangeSpec := { name := "lsetMerge", fn := fun _ => fun
  | [d1, d2, d3] => { results := [.lit (.bool true)], args := [d1, d2, d3] }
  | _ => none }
def lsetMergeRow : OpenClaim := { program := "ytkebmdcljeaacaa", sum := "b076823ada7aeb168a682d0caf3b985c07d4372e42e9839a0bd145d9921bff5f", func := "klaxon/klaxonlaw2.LsetMerge", spec := "lsetMerge", inPlace := ["slices.overlaps[klaxon/api.Label]", "internal/abi.NoEscape", "internal/bytealg.MakeNoZero", "internal/bytealg.abigen_runtime_cmpstring", "internal/bytealg.IndexByteString", "internal/bytealg.IndexString"], named := ["internal/bytealg.MaxLen"], apart := false }
def LsetMergeSaid : Prop := lsetMergeRow.holds Try.pinned (OpenSpec.ofChange lsetMergeSpec)

/-- ITS FALSE NEIGHBOUR: 'it returns false'. Refute it at one input. -/
def lsetMergeWrong : ChangeSpec := { name := "lsetMerge", fn := fun _ => fun
  | [d1, d2, d3] => { results := [.lit (.bool false)], args := [d1, d2, d3] }
  | _ => none }
def LsetMergeWrongFalsely : Prop := lsetMergeRow.holds Try.pinned (OpenSpec.ofChange lsetMergeWrong)

/- THE SECOND FORM. 'bulk': how many values and letters a reading holds, each counted each time it is reached (what is shared counts as often as it is met; a slice's spare places count too). A statement '..UptoSaid' is the law's where the arguments, and the package variables that the reading takes, are together of bulk at most 1048576: NARROWER than '..Said'. Prove '..Said' where nothing that the law and all that it calls make is longer than what came in: it says more and counts as full. Else prove '..UptoSaid'. A law counts once. -/
mutual
def uptoBulk {H : Type} : DataW H → Nat
  | .lit (.string bytes) => bytes.length + 1
  | .lit _ => 1
  | .nil => 1
  | .ptr d => uptoBulk d + 1
  | .slice elems spare => uptoBulkAll elems + uptoBulkAll spare + 1
  | .agg parts => uptoBulkAll parts + 1
  | .iface _ d => uptoBulk d + 1
  | .map entries => uptoBulkEntries entries + 1
  | .held _ => 1
def uptoBulkAll {H : Type} : List (DataW H) → Nat
  | [] => 0
  | d :: r => uptoBulk d + uptoBulkAll r
def uptoBulkEntries {H : Type} : List (Lit × DataW H) → Nat
  | [] => 0
  | x :: r => uptoBulkEntry x + uptoBulkEntries r
def uptoBulkEntry {H : Type} : Lit × DataW H → Nat
  | (.string bytes, d) => bytes.length + uptoBulk d + 1
  | (_, d) => uptoBulk d + 1
 end
def uptoSmall : (H : Type) → List (DataW H) → Bool := fun _ ds => decide (uptoBulkAll ds ≤ 1048576)
def OpenSpec.upto (s : _root_.Go.ChangeSpec) : _root_.Go.OpenSpec := { _root_.Go.OpenSpec.ofChange s with cond := some uptoSmall }

/-- 'klaxonlaw2.LsetRuns', WHERE WHAT IT READS IS OF BULK AT MOST 1048576: true; the input reads as it did. -/
def lsetRunsUptoRow : OpenClaim := { program := "ytkebmdcljeaacaa", sum := "b076823ada7aeb168a682d0caf3b985c07d4372e42e9839a0bd145d9921bff5f", func := "klaxon/klaxonlaw2.LsetRuns", spec := "lsetRuns", inPlace := ["internal/bytealg.IndexByteString", "internal/bytealg.IndexString", "internal/abi.NoEscape", "internal/bytealg.MakeNoZero", "slices.overlaps[klaxon/api.Label]"], named := ["internal/bytealg.MaxLen"], apart := false, narrowed := true }
def LsetRunsUptoSaid : Prop := lsetRunsUptoRow.holds Try.pinned (OpenSpec.upto lsetRunsSpec)

/-- 'klaxonlaw2.LsetTells', WHERE WHAT IT READS IS OF BULK AT MOST 1048576: true; the input reads as it did. -/
def lsetTellsUptoRow : OpenClaim := { program := "ytkebmdcljeaacaa", sum := "b076823ada7aeb168a682d0caf3b985c07d4372e42e9839a0bd145d9921bff5f", func := "klaxon/klaxonlaw2.LsetTells", spec := "lsetTells", inPlace := ["internal/abi.NoEscape", "internal/bytealg.MakeNoZero", "internal/bytealg.IndexByteString", "internal/bytealg.IndexString", "slices.overlaps[klaxon/api.Label]"], named := ["internal/bytealg.MaxLen"], apart := false, narrowed := true }
def LsetTellsUptoSaid : Prop := lsetTellsUptoRow.holds Try.pinned (OpenSpec.upto lsetTellsSpec)

/-- 'klaxonlaw2.LsetBack', WHERE WHAT IT READS IS OF BULK AT MOST 1048576: true; the input reads as it did. -/
def lsetBackUptoRow : OpenClaim := { program := "ytkebmdcljeaacaa", sum := "b076823ada7aeb168a682d0caf3b985c07d4372e42e9839a0bd145d9921bff5f", func := "klaxon/klaxonlaw2.LsetBack", spec := "lsetBack", inPlace := ["internal/abi.NoEscape", "internal/bytealg.MakeNoZero", "internal/bytealg.IndexByteString", "internal/bytealg.IndexString", "internal/bytealg.abigen_runtime_cmpstring", "slices.overlaps[klaxon/api.Label]"], named := ["internal/bytealg.MaxLen"], apart := false, narrowed := true }
def LsetBackUptoSaid : Prop := lsetBackUptoRow.holds Try.pinned (OpenSpec.upto lsetBackSpec)

/-- 'klaxonlaw2.LsetWith', WHERE WHAT IT READS IS OF BULK AT MOST 1048576: true; the input reads as it did. -/
def lsetWithUptoRow : OpenClaim := { program := "ytkebmdcljeaacaa", sum := "b076823ada7aeb168a682d0caf3b985c07d4372e42e9839a0bd145d9921bff5f", func := "klaxon/klaxonlaw2.LsetWith", spec := "lsetWith", inPlace := ["slices.overlaps[klaxon/api.Label]", "internal/bytealg.IndexByteString", "internal/bytealg.IndexString", "internal/abi.NoEscape", "internal/bytealg.MakeNoZero"], named := ["internal/bytealg.MaxLen"], apart := false, narrowed := true }
def LsetWithUptoSaid : Prop := lsetWithUptoRow.holds Try.pinned (OpenSpec.upto lsetWithSpec)

/-- 'klaxonlaw2.LsetQuote', WHERE WHAT IT READS IS OF BULK AT MOST 1048576: true; the input reads as it did. -/
def lsetQuoteUptoRow : OpenClaim := { program := "ytkebmdcljeaacaa", sum := "b076823ada7aeb168a682d0caf3b985c07d4372e42e9839a0bd145d9921bff5f", func := "klaxon/klaxonlaw2.LsetQuote", spec := "lsetQuote", inPlace := ["internal/abi.NoEscape", "internal/bytealg.MakeNoZero", "internal/bytealg.IndexByteString", "internal/bytealg.IndexString", "slices.overlaps[klaxon/api.Label]"], named := ["internal/bytealg.MaxLen"], apart := false, narrowed := true }
def LsetQuoteUptoSaid : Prop := lsetQuoteUptoRow.holds Try.pinned (OpenSpec.upto lsetQuoteSpec)

/-- 'klaxonlaw2.LsetMerge', WHERE WHAT IT READS IS OF BULK AT MOST 1048576: true; the input reads as it did. -/
def lsetMergeUptoRow : OpenClaim := { program := "ytkebmdcljeaacaa", sum := "b076823ada7aeb168a682d0caf3b985c07d4372e42e9839a0bd145d9921bff5f", func := "klaxon/klaxonlaw2.LsetMerge", spec := "lsetMerge", inPlace := ["slices.overlaps[klaxon/api.Label]", "internal/abi.NoEscape", "internal/bytealg.MakeNoZero", "internal/bytealg.abigen_runtime_cmpstring", "internal/bytealg.IndexByteString", "internal/bytealg.IndexString"], named := ["internal/bytealg.MaxLen"], apart := false, narrowed := true }
def LsetMergeUptoSaid : Prop := lsetMergeUptoRow.holds Try.pinned (OpenSpec.upto lsetMergeSpec)

end Rows
end Go.Proofs.Ytkebmdcljeaacaa
