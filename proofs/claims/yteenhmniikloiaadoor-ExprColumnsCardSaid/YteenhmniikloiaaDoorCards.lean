/-
  DERIVED. GIVEN WITH THE SEED: THE CARDS: each row of YteenhmniikloiaaDoorRows.lean that lists a variable, with what it lists TIED to the program's text (the seventh form; the later family's looks); each row that meets fmt, with fmt's text TOLD by the authors' own Lean function (tested against real Go, not proved from fmt's source: count such statements apart). THE CARD IS WHAT COUNTS. Prove the row's statement (the work); the ties are given (YteenhmniikloiaaDoorTie.lean); close each card by the builder's one call (the guide's Derived/Test/ToyasCard.lean, 'card_holds'). Laid BY PROGRAM, IN A SANDBOX (cutbox-door.mjs). By AI agents, Wed Nov 11 2026. No macro, syntax, notation, axiom, sorry.
-/
import Derived.Test.YteenhmniikloiaaDoorRows
import GoSem.ClaimSeven
namespace Go.Proofs.YteenhmniikloiaaDoor
namespace Rows

/-- THE TIED CARD OF 'bywashlaw04.ExprTypes'. -/
def exprTypesCard : Claim7 := { stood := { row := exprTypesRow, standIns := [], harness := (true, "a351b59e72d0018e565240e93b0a2a2c4c1e4ce69992a042751f77005627701c"), looks := false }, kinds := [], alts := [], laidByText := true, laidKinds := [.data, .data], laidTests := true, laidLooks := .later }
def ExprTypesCardSaid : Prop := Claim7.holds Tryd.pinned (.plain (OpenSpec.ofChange exprTypesSpec)) exprTypesCard

/-- THE TIED CARD OF 'bywashlaw04.ExprEvals'. -/
def exprEvalsCard : Claim7 := { stood := { row := exprEvalsRow, standIns := [], harness := (true, "a351b59e72d0018e565240e93b0a2a2c4c1e4ce69992a042751f77005627701c"), looks := false }, kinds := [], alts := [], laidByText := true, laidKinds := [.data, .data], laidTests := true, laidLooks := .later }
def ExprEvalsCardSaid : Prop := Claim7.holds Tryd.pinned (.plain (OpenSpec.ofChange exprEvalsSpec)) exprEvalsCard

/-- THE TIED CARD OF 'bywashlaw04.ExprColumns'. -/
def exprColumnsCard : Claim7 := { stood := { row := exprColumnsRow, standIns := [], harness := (true, "a351b59e72d0018e565240e93b0a2a2c4c1e4ce69992a042751f77005627701c"), looks := false }, kinds := [], alts := [], laidByText := true, laidKinds := [.data, .data], laidTests := true, laidLooks := .later }
def ExprColumnsCardSaid : Prop := Claim7.holds Tryd.pinned (.plain (OpenSpec.ofChange exprColumnsSpec)) exprColumnsCard

/-- THE TIED CARD OF 'bywashlaw04.ExprMakes'. -/
def exprMakesCard : Claim7 := { stood := { row := exprMakesRow, standIns := [], harness := (true, "a351b59e72d0018e565240e93b0a2a2c4c1e4ce69992a042751f77005627701c"), looks := false }, kinds := [], alts := [], laidByText := true, laidKinds := [.data, .data], laidTests := true, laidLooks := .later }
def ExprMakesCardSaid : Prop := Claim7.holds Tryd.pinned (.plain (OpenSpec.ofChange exprMakesSpec)) exprMakesCard

/-- THE TIED CARD OF 'bywashlaw04.ExprEquals'. -/
def exprEqualsCard : Claim7 := { stood := { row := exprEqualsRow, standIns := [], harness := (true, "a351b59e72d0018e565240e93b0a2a2c4c1e4ce69992a042751f77005627701c"), looks := false }, kinds := [], alts := [], laidByText := true, laidKinds := [.data, .data], laidTests := true, laidLooks := .later }
def ExprEqualsCardSaid : Prop := Claim7.holds Tryd.pinned (.plain (OpenSpec.ofChange exprEqualsSpec)) exprEqualsCard

/-- THE SECOND FORM's CARD OF 'bywashlaw04.ExprTypes'. -/
def exprTypesUptoCard : Claim7 := { stood := { row := exprTypesUptoRow, standIns := [], harness := (true, "a351b59e72d0018e565240e93b0a2a2c4c1e4ce69992a042751f77005627701c"), looks := false }, kinds := [], alts := [], laidByText := true, laidKinds := [.data, .data], laidTests := true, laidLooks := .later }
def ExprTypesUptoCardSaid : Prop := Claim7.holds Tryd.pinned (.plain (OpenSpec.upto exprTypesSpec)) exprTypesUptoCard

/-- THE SECOND FORM's CARD OF 'bywashlaw04.ExprEvals'. -/
def exprEvalsUptoCard : Claim7 := { stood := { row := exprEvalsUptoRow, standIns := [], harness := (true, "a351b59e72d0018e565240e93b0a2a2c4c1e4ce69992a042751f77005627701c"), looks := false }, kinds := [], alts := [], laidByText := true, laidKinds := [.data, .data], laidTests := true, laidLooks := .later }
def ExprEvalsUptoCardSaid : Prop := Claim7.holds Tryd.pinned (.plain (OpenSpec.upto exprEvalsSpec)) exprEvalsUptoCard

/-- THE SECOND FORM's CARD OF 'bywashlaw04.ExprColumns'. -/
def exprColumnsUptoCard : Claim7 := { stood := { row := exprColumnsUptoRow, standIns := [], harness := (true, "a351b59e72d0018e565240e93b0a2a2c4c1e4ce69992a042751f77005627701c"), looks := false }, kinds := [], alts := [], laidByText := true, laidKinds := [.data, .data], laidTests := true, laidLooks := .later }
def ExprColumnsUptoCardSaid : Prop := Claim7.holds Tryd.pinned (.plain (OpenSpec.upto exprColumnsSpec)) exprColumnsUptoCard

/-- THE SECOND FORM's CARD OF 'bywashlaw04.ExprMakes'. -/
def exprMakesUptoCard : Claim7 := { stood := { row := exprMakesUptoRow, standIns := [], harness := (true, "a351b59e72d0018e565240e93b0a2a2c4c1e4ce69992a042751f77005627701c"), looks := false }, kinds := [], alts := [], laidByText := true, laidKinds := [.data, .data], laidTests := true, laidLooks := .later }
def ExprMakesUptoCardSaid : Prop := Claim7.holds Tryd.pinned (.plain (OpenSpec.upto exprMakesSpec)) exprMakesUptoCard

/-- THE SECOND FORM's CARD OF 'bywashlaw04.ExprEquals'. -/
def exprEqualsUptoCard : Claim7 := { stood := { row := exprEqualsUptoRow, standIns := [], harness := (true, "a351b59e72d0018e565240e93b0a2a2c4c1e4ce69992a042751f77005627701c"), looks := false }, kinds := [], alts := [], laidByText := true, laidKinds := [.data, .data], laidTests := true, laidLooks := .later }
def ExprEqualsUptoCardSaid : Prop := Claim7.holds Tryd.pinned (.plain (OpenSpec.upto exprEqualsSpec)) exprEqualsUptoCard
end Rows
end Go.Proofs.YteenhmniikloiaaDoor
