/-
  NARROWER THAN 'FOR EVERY INPUT', by the rows' own cells (each row's printed sentence says how): RouteTells: loops.
  DERIVED. THE GIVEN ROWS OF THIS SEAT. 4 by the template 'for every input the law returns true; each argument reads behind the call as it read before'; 0 by the template 'total and deterministic' (their statements: YtddkkfjgdfdcnaaTotals.lean).
  GIVEN WITH THE SEED: the statements are not yours to turn. If you find one false, say at which input.
  Laid BY PROGRAM, IN A SANDBOX (cutbox-rows.mjs): the forced cells as the released guide's own fill.sh prints them over the translation 35685511d8399351… (all of the seat's roots in one cut). By AI agents, Wed Nov 11 2026. No macro, syntax, notation, axiom, sorry.
-/
import Derived.Test.YtddkkfjgdfdcnaaChecked
import GoSem.Claim
import GoSem.ClaimJoined
import GoSem.ClaimMapViews
import Derived.JoinedTies
import Derived.KernelRfl
namespace Go.Proofs.Ytddkkfjgdfdcnaa
/- THE CELL 'sum', in the pinned program and in every row, IS THE sha256 OF THE DUMP (.gsa) THAT YtddkkfjgdfdcnaaProg.lean LOADS. Nothing in Lean hashes anything: it is a label: what it is worth is what the hold of that sum in a sandbox is worth. -/
noncomputable def Try.pinned : Pinned := { name := "ytddkkfjgdfdcnaa", sum := "35685511d8399351879b6c23e74b3515343db196d8b18afc000f400552b620f2", checked := Try.checked }
namespace Rows
def none {H : Type} : Left H := { results := [], args := [] }

/-- 'klaxonlaw17.RouteRuns': WHATEVER THE INPUT: true; the input reads as it did. -/
def routeRunsSpec : ChangeSpec := { name := "routeRuns", fn := fun _ => fun
  | [] => { results := [.lit (.bool true)], args := [] }
  | _ => none }
def routeRunsRow : OpenClaim := { program := "ytddkkfjgdfdcnaa", sum := "35685511d8399351879b6c23e74b3515343db196d8b18afc000f400552b620f2", func := "klaxon/klaxonlaw17.RouteRuns", spec := "routeRuns", unfollowed := true, recurses := true, apart := false }
def RouteRunsSaid : Prop := routeRunsRow.holds Try.pinned (OpenSpec.ofChange routeRunsSpec)

/-- ITS FALSE NEIGHBOUR: 'it returns false'. Refute it at one input. -/
def routeRunsWrong : ChangeSpec := { name := "routeRuns", fn := fun _ => fun
  | [] => { results := [.lit (.bool false)], args := [] }
  | _ => none }
def RouteRunsWrongFalsely : Prop := routeRunsRow.holds Try.pinned (OpenSpec.ofChange routeRunsWrong)

/-- 'klaxonlaw17.RouteTells': WHATEVER THE INPUT: true; the input reads as it did. -/
def routeTellsSpec : ChangeSpec := { name := "routeTells", fn := fun _ => fun
  | [d1, d2, d3, d4] => { results := [.lit (.bool true)], args := [d1, d2, d3, d4] }
  | _ => none }
def routeTellsRow : OpenClaim := { program := "ytddkkfjgdfdcnaa", sum := "35685511d8399351879b6c23e74b3515343db196d8b18afc000f400552b620f2", func := "klaxon/klaxonlaw17.RouteTells", spec := "routeTells", unfollowed := true, recurses := true, loops := true, apart := false }
def RouteTellsSaid : Prop := routeTellsRow.holds Try.pinned (OpenSpec.ofChange routeTellsSpec)

/-- ITS FALSE NEIGHBOUR: 'it returns false'. Refute it at one input. -/
def routeTellsWrong : ChangeSpec := { name := "routeTells", fn := fun _ => fun
  | [d1, d2, d3, d4] => { results := [.lit (.bool false)], args := [d1, d2, d3, d4] }
  | _ => none }
def RouteTellsWrongFalsely : Prop := routeTellsRow.holds Try.pinned (OpenSpec.ofChange routeTellsWrong)

/-- 'klaxonlaw17.RouteAll': WHATEVER THE INPUT: true; the input reads as it did. -/
def routeAllSpec : ChangeSpec := { name := "routeAll", fn := fun _ => fun
  | [d1, d2] => { results := [.lit (.bool true)], args := [d1, d2] }
  | _ => none }
def routeAllRow : OpenClaim := { program := "ytddkkfjgdfdcnaa", sum := "35685511d8399351879b6c23e74b3515343db196d8b18afc000f400552b620f2", func := "klaxon/klaxonlaw17.RouteAll", spec := "routeAll", unfollowed := true, recurses := true, apart := false }
def RouteAllSaid : Prop := routeAllRow.holds Try.pinned (OpenSpec.ofChange routeAllSpec)

/-- ITS FALSE NEIGHBOUR: 'it returns false'. Refute it at one input. -/
def routeAllWrong : ChangeSpec := { name := "routeAll", fn := fun _ => fun
  | [d1, d2] => { results := [.lit (.bool false)], args := [d1, d2] }
  | _ => none }
def RouteAllWrongFalsely : Prop := routeAllRow.holds Try.pinned (OpenSpec.ofChange routeAllWrong)

/-- 'klaxonlaw17.RouteGoes': WHATEVER THE INPUT: true; the input reads as it did. -/
def routeGoesSpec : ChangeSpec := { name := "routeGoes", fn := fun _ => fun
  | [d1, d2] => { results := [.lit (.bool true)], args := [d1, d2] }
  | _ => none }
def routeGoesRow : OpenClaim := { program := "ytddkkfjgdfdcnaa", sum := "35685511d8399351879b6c23e74b3515343db196d8b18afc000f400552b620f2", func := "klaxon/klaxonlaw17.RouteGoes", spec := "routeGoes", unfollowed := true, recurses := true, apart := false }
def RouteGoesSaid : Prop := routeGoesRow.holds Try.pinned (OpenSpec.ofChange routeGoesSpec)

/-- ITS FALSE NEIGHBOUR: 'it returns false'. Refute it at one input. -/
def routeGoesWrong : ChangeSpec := { name := "routeGoes", fn := fun _ => fun
  | [d1, d2] => { results := [.lit (.bool false)], args := [d1, d2] }
  | _ => none }
def RouteGoesWrongFalsely : Prop := routeGoesRow.holds Try.pinned (OpenSpec.ofChange routeGoesWrong)

/- THE SECOND FORM. 'bulk': how many values and letters a reading holds, each counted each time it is reached (what is shared counts as often as it is met; a slice's spare places count too). A statement '..UptoSaid' is the law's where the arguments, and the package variables that the reading takes, are together of bulk at most 1048576: NARROWER than '..Said'. Prove '..Said' where nothing that the law and all that it calls make is longer than what came in: it says more and counts as full. Else prove '..UptoSaid'. A law counts once. -/
mutual
def uptoBulk {H : Type} : DataW H → Nat
  | .lit (.string bytes) => bytes.length + 1
  | .lit _ => 1
  | .nil => 1
  | .ptr d => uptoBulk d + 1
  | .slice elems spare => uptoBulkAll elems + uptoBulkAll spare + 1
  | .agg parts => uptoBulkAll parts + 1
  | .iface _ d => uptoBulk d + 1
  | .map entries => uptoBulkEntries entries + 1
  | .held _ => 1
def uptoBulkAll {H : Type} : List (DataW H) → Nat
  | [] => 0
  | d :: r => uptoBulk d + uptoBulkAll r
def uptoBulkEntries {H : Type} : List (Lit × DataW H) → Nat
  | [] => 0
  | x :: r => uptoBulkEntry x + uptoBulkEntries r
def uptoBulkEntry {H : Type} : Lit × DataW H → Nat
  | (.string bytes, d) => bytes.length + uptoBulk d + 1
  | (_, d) => uptoBulk d + 1
 end
def uptoSmall : (H : Type) → List (DataW H) → Bool := fun _ ds => decide (uptoBulkAll ds ≤ 1048576)
def OpenSpec.upto (s : _root_.Go.ChangeSpec) : _root_.Go.OpenSpec := { _root_.Go.OpenSpec.ofChange s with cond := some uptoSmall }

/-- 'klaxonlaw17.RouteRuns', WHERE WHAT IT READS IS OF BULK AT MOST 1048576: true; the input reads as it did. -/
def routeRunsUptoRow : OpenClaim := { program := "ytddkkfjgdfdcnaa", sum := "35685511d8399351879b6c23e74b3515343db196d8b18afc000f400552b620f2", func := "klaxon/klaxonlaw17.RouteRuns", spec := "routeRuns", unfollowed := true, recurses := true, apart := false, narrowed := true }
def RouteRunsUptoSaid : Prop := routeRunsUptoRow.holds Try.pinned (OpenSpec.upto routeRunsSpec)

/-- 'klaxonlaw17.RouteTells', WHERE WHAT IT READS IS OF BULK AT MOST 1048576: true; the input reads as it did. -/
def routeTellsUptoRow : OpenClaim := { program := "ytddkkfjgdfdcnaa", sum := "35685511d8399351879b6c23e74b3515343db196d8b18afc000f400552b620f2", func := "klaxon/klaxonlaw17.RouteTells", spec := "routeTells", unfollowed := true, recurses := true, loops := true, apart := false, narrowed := true }
def RouteTellsUptoSaid : Prop := routeTellsUptoRow.holds Try.pinned (OpenSpec.upto routeTellsSpec)

/-- 'klaxonlaw17.RouteAll', WHERE WHAT IT READS IS OF BULK AT MOST 1048576: true; the input reads as it did. -/
def routeAllUptoRow : OpenClaim := { program := "ytddkkfjgdfdcnaa", sum := "35685511d8399351879b6c23e74b3515343db196d8b18afc000f400552b620f2", func := "klaxon/klaxonlaw17.RouteAll", spec := "routeAll", unfollowed := true, recurses := true, apart := false, narrowed := true }
def RouteAllUptoSaid : Prop := routeAllUptoRow.holds Try.pinned (OpenSpec.upto routeAllSpec)

/-- 'klaxonlaw17.RouteGoes', WHERE WHAT IT READS IS OF BULK AT MOST 1048576: true; the input reads as it did. -/
def routeGoesUptoRow : OpenClaim := { program := "ytddkkfjgdfdcnaa", sum := "35685511d8399351879b6c23e74b3515343db196d8b18afc000f400552b620f2", func := "klaxon/klaxonlaw17.RouteGoes", spec := "routeGoes", unfollowed := true, recurses := true, apart := false, narrowed := true }
def RouteGoesUptoSaid : Prop := routeGoesUptoRow.holds Try.pinned (OpenSpec.upto routeGoesSpec)

end Rows
end Go.Proofs.Ytddkkfjgdfdcnaa
