/-
  DERIVED. GIVEN WITH THE SEED: THE CARDS: each row of YtnkbpcenkbihpaaDoorRows.lean that lists a variable, with what it lists TIED to the program's text (the seventh form; the later family's looks); each row that meets fmt, with fmt's text TOLD by the authors' own Lean function (tested against real Go, not proved from fmt's source: count such statements apart). THE CARD IS WHAT COUNTS. Prove the row's statement (the work); the ties are given (YtnkbpcenkbihpaaDoorTie.lean); close each card by the builder's one call (the guide's Derived/Test/ToyasCard.lean, 'card_holds'). Laid BY PROGRAM, IN A SANDBOX (cutbox-door.mjs). By AI agents, Wed Nov 11 2026. No macro, syntax, notation, axiom, sorry.
-/
import Derived.Test.YtnkbpcenkbihpaaDoorRows
import GoSem.ClaimSeven
namespace Go.Proofs.YtnkbpcenkbihpaaDoor
namespace Rows

/-- THE TIED CARD OF 'klaxonlaw8.ExprRuns'. -/
def exprRunsCard : Claim7 := { stood := { row := exprRunsRow, standIns := [], harness := (true, "86d52c3798a98556328a80d80416feeb5cc645b0677a3f92b8e8c4399d34b136"), looks := false }, kinds := [], alts := [], laidByText := true, laidKinds := [.data, .data, .data], laidTests := true, laidLooks := .later }
def ExprRunsCardSaid : Prop := Claim7.holds Tryd.pinned (.plain (OpenSpec.ofChange exprRunsSpec)) exprRunsCard

/-- THE TIED CARD OF 'klaxonlaw8.ExprBack'. -/
def exprBackCard : Claim7 := { stood := { row := exprBackRow, standIns := [], harness := (true, "86d52c3798a98556328a80d80416feeb5cc645b0677a3f92b8e8c4399d34b136"), looks := false }, kinds := [], alts := [], laidByText := true, laidKinds := [.data, .data, .data], laidTests := true, laidLooks := .later }
def ExprBackCardSaid : Prop := Claim7.holds Tryd.pinned (.plain (OpenSpec.ofChange exprBackSpec)) exprBackCard

/-- THE TIED CARD OF 'klaxonlaw8.ExprOnly'. -/
def exprOnlyCard : Claim7 := { stood := { row := exprOnlyRow, standIns := [], harness := (true, "86d52c3798a98556328a80d80416feeb5cc645b0677a3f92b8e8c4399d34b136"), looks := false }, kinds := [], alts := [], laidByText := true, laidKinds := [.data, .data, .data], laidTests := true, laidLooks := .later }
def ExprOnlyCardSaid : Prop := Claim7.holds Tryd.pinned (.plain (OpenSpec.ofChange exprOnlySpec)) exprOnlyCard

/-- THE TIED CARD OF 'klaxonlaw8.ExprDeep'. -/
def exprDeepCard : Claim7 := { stood := { row := exprDeepRow, standIns := [], harness := (true, "86d52c3798a98556328a80d80416feeb5cc645b0677a3f92b8e8c4399d34b136"), looks := false }, kinds := [], alts := [], laidByText := true, laidKinds := [.data, .data, .data], laidTests := true, laidLooks := .later }
def ExprDeepCardSaid : Prop := Claim7.holds Tryd.pinned (.plain (OpenSpec.ofChange exprDeepSpec)) exprDeepCard

/-- THE TIED CARD OF 'klaxonlaw8.ExprTypes'. -/
def exprTypesCard : Claim7 := { stood := { row := exprTypesRow, standIns := [], harness := (true, "86d52c3798a98556328a80d80416feeb5cc645b0677a3f92b8e8c4399d34b136"), looks := false }, kinds := [], alts := [], laidByText := true, laidKinds := [.data, .data, .data], laidTests := true, laidLooks := .later }
def ExprTypesCardSaid : Prop := Claim7.holds Tryd.pinned (.plain (OpenSpec.ofChange exprTypesSpec)) exprTypesCard

/-- THE TIED CARD OF 'klaxonlaw8.ExprPicks'. -/
def exprPicksCard : Claim7 := { stood := { row := exprPicksRow, standIns := [], harness := (true, "86d52c3798a98556328a80d80416feeb5cc645b0677a3f92b8e8c4399d34b136"), looks := false }, kinds := [], alts := [], laidByText := true, laidKinds := [.data, .data, .data], laidTests := true, laidLooks := .later }
def ExprPicksCardSaid : Prop := Claim7.holds Tryd.pinned (.plain (OpenSpec.ofChange exprPicksSpec)) exprPicksCard

/-- THE SECOND FORM's CARD OF 'klaxonlaw8.ExprRuns'. -/
def exprRunsUptoCard : Claim7 := { stood := { row := exprRunsUptoRow, standIns := [], harness := (true, "86d52c3798a98556328a80d80416feeb5cc645b0677a3f92b8e8c4399d34b136"), looks := false }, kinds := [], alts := [], laidByText := true, laidKinds := [.data, .data, .data], laidTests := true, laidLooks := .later }
def ExprRunsUptoCardSaid : Prop := Claim7.holds Tryd.pinned (.plain (OpenSpec.upto exprRunsSpec)) exprRunsUptoCard

/-- THE SECOND FORM's CARD OF 'klaxonlaw8.ExprBack'. -/
def exprBackUptoCard : Claim7 := { stood := { row := exprBackUptoRow, standIns := [], harness := (true, "86d52c3798a98556328a80d80416feeb5cc645b0677a3f92b8e8c4399d34b136"), looks := false }, kinds := [], alts := [], laidByText := true, laidKinds := [.data, .data, .data], laidTests := true, laidLooks := .later }
def ExprBackUptoCardSaid : Prop := Claim7.holds Tryd.pinned (.plain (OpenSpec.upto exprBackSpec)) exprBackUptoCard

/-- THE SECOND FORM's CARD OF 'klaxonlaw8.ExprOnly'. -/
def exprOnlyUptoCard : Claim7 := { stood := { row := exprOnlyUptoRow, standIns := [], harness := (true, "86d52c3798a98556328a80d80416feeb5cc645b0677a3f92b8e8c4399d34b136"), looks := false }, kinds := [], alts := [], laidByText := true, laidKinds := [.data, .data, .data], laidTests := true, laidLooks := .later }
def ExprOnlyUptoCardSaid : Prop := Claim7.holds Tryd.pinned (.plain (OpenSpec.upto exprOnlySpec)) exprOnlyUptoCard

/-- THE SECOND FORM's CARD OF 'klaxonlaw8.ExprDeep'. -/
def exprDeepUptoCard : Claim7 := { stood := { row := exprDeepUptoRow, standIns := [], harness := (true, "86d52c3798a98556328a80d80416feeb5cc645b0677a3f92b8e8c4399d34b136"), looks := false }, kinds := [], alts := [], laidByText := true, laidKinds := [.data, .data, .data], laidTests := true, laidLooks := .later }
def ExprDeepUptoCardSaid : Prop := Claim7.holds Tryd.pinned (.plain (OpenSpec.upto exprDeepSpec)) exprDeepUptoCard

/-- THE SECOND FORM's CARD OF 'klaxonlaw8.ExprTypes'. -/
def exprTypesUptoCard : Claim7 := { stood := { row := exprTypesUptoRow, standIns := [], harness := (true, "86d52c3798a98556328a80d80416feeb5cc645b0677a3f92b8e8c4399d34b136"), looks := false }, kinds := [], alts := [], laidByText := true, laidKinds := [.data, .data, .data], laidTests := true, laidLooks := .later }
def ExprTypesUptoCardSaid : Prop := Claim7.holds Tryd.pinned (.plain (OpenSpec.upto exprTypesSpec)) exprTypesUptoCard

/-- THE SECOND FORM's CARD OF 'klaxonlaw8.ExprPicks'. -/
def exprPicksUptoCard : Claim7 := { stood := { row := exprPicksUptoRow, standIns := [], harness := (true, "86d52c3798a98556328a80d80416feeb5cc645b0677a3f92b8e8c4399d34b136"), looks := false }, kinds := [], alts := [], laidByText := true, laidKinds := [.data, .data, .data], laidTests := true, laidLooks := .later }
def ExprPicksUptoCardSaid : Prop := Claim7.holds Tryd.pinned (.plain (OpenSpec.upto exprPicksSpec)) exprPicksUptoCard
end Rows
end Go.Proofs.YtnkbpcenkbihpaaDoor
