/-
  DERIVED. GIVEN WITH THE SEED: THE CARDS: each row of YtdhbgfdkbjnedaaDoorRows.lean that lists a variable, with what it lists TIED to the program's text (the seventh form; the later family's looks); each row that meets fmt, with fmt's text TOLD by the authors' own Lean function (tested against real Go, not proved from fmt's source: count such statements apart). THE CARD IS WHAT COUNTS. Prove the row's statement (the work); the ties are given (YtdhbgfdkbjnedaaDoorTie.lean); close each card by the builder's one call (the guide's Derived/Test/ToyasCard.lean, 'card_holds'). Laid BY PROGRAM, IN A SANDBOX (cutbox-door.mjs). By AI agents, Wed Nov 11 2026. No macro, syntax, notation, axiom, sorry.
-/
import Derived.Test.YtdhbgfdkbjnedaaDoorRows
import GoSem.ClaimSeven
namespace Go.Proofs.YtdhbgfdkbjnedaaDoor
namespace Rows

/-- THE TIED CARD OF 'bywashlaw04.ExprTypes'. -/
def exprTypesCard : Claim7 := { stood := { row := exprTypesRow, standIns := [], harness := (true, "6da5384a824d1c85ad763dd7e4431644182cb7b1a1d99b179a5cba5558d54e4f"), looks := false }, kinds := [], alts := [], laidByText := true, laidKinds := [.data, .data], laidTests := true, laidLooks := .later }
def ExprTypesCardSaid : Prop := Claim7.holds Tryd.pinned (.plain (OpenSpec.ofChange exprTypesSpec)) exprTypesCard

/-- THE TIED CARD OF 'bywashlaw04.ExprEvals'. -/
def exprEvalsCard : Claim7 := { stood := { row := exprEvalsRow, standIns := [], harness := (true, "6da5384a824d1c85ad763dd7e4431644182cb7b1a1d99b179a5cba5558d54e4f"), looks := false }, kinds := [], alts := [], laidByText := true, laidKinds := [.data, .data], laidTests := true, laidLooks := .later }
def ExprEvalsCardSaid : Prop := Claim7.holds Tryd.pinned (.plain (OpenSpec.ofChange exprEvalsSpec)) exprEvalsCard

/-- THE TIED CARD OF 'bywashlaw04.ExprColumns'. -/
def exprColumnsCard : Claim7 := { stood := { row := exprColumnsRow, standIns := [], harness := (true, "6da5384a824d1c85ad763dd7e4431644182cb7b1a1d99b179a5cba5558d54e4f"), looks := false }, kinds := [], alts := [], laidByText := true, laidKinds := [.data, .data], laidTests := true, laidLooks := .later }
def ExprColumnsCardSaid : Prop := Claim7.holds Tryd.pinned (.plain (OpenSpec.ofChange exprColumnsSpec)) exprColumnsCard

/-- THE TIED CARD OF 'bywashlaw04.ExprMakes'. -/
def exprMakesCard : Claim7 := { stood := { row := exprMakesRow, standIns := [], harness := (true, "6da5384a824d1c85ad763dd7e4431644182cb7b1a1d99b179a5cba5558d54e4f"), looks := false }, kinds := [], alts := [], laidByText := true, laidKinds := [.data, .data], laidTests := true, laidLooks := .later }
def ExprMakesCardSaid : Prop := Claim7.holds Tryd.pinned (.plain (OpenSpec.ofChange exprMakesSpec)) exprMakesCard

/-- THE TIED CARD OF 'bywashlaw04.ExprEquals'. -/
def exprEqualsCard : Claim7 := { stood := { row := exprEqualsRow, standIns := [], harness := (true, "6da5384a824d1c85ad763dd7e4431644182cb7b1a1d99b179a5cba5558d54e4f"), looks := false }, kinds := [], alts := [], laidByText := true, laidKinds := [.data, .data], laidTests := true, laidLooks := .later }
def ExprEqualsCardSaid : Prop := Claim7.holds Tryd.pinned (.plain (OpenSpec.ofChange exprEqualsSpec)) exprEqualsCard

/-- THE TIED CARD OF 'bywashlaw04.ExprNulls'. -/
def exprNullsCard : Claim7 := { stood := { row := exprNullsRow, standIns := [], harness := (true, "6da5384a824d1c85ad763dd7e4431644182cb7b1a1d99b179a5cba5558d54e4f"), looks := false }, kinds := [], alts := [], laidByText := true, laidKinds := [.data, .data], laidTests := true, laidLooks := .later }
def ExprNullsCardSaid : Prop := Claim7.holds Tryd.pinned (.plain (OpenSpec.ofChange exprNullsSpec)) exprNullsCard

/-- THE SECOND FORM's CARD OF 'bywashlaw04.ExprTypes'. -/
def exprTypesUptoCard : Claim7 := { stood := { row := exprTypesUptoRow, standIns := [], harness := (true, "6da5384a824d1c85ad763dd7e4431644182cb7b1a1d99b179a5cba5558d54e4f"), looks := false }, kinds := [], alts := [], laidByText := true, laidKinds := [.data, .data], laidTests := true, laidLooks := .later }
def ExprTypesUptoCardSaid : Prop := Claim7.holds Tryd.pinned (.plain (OpenSpec.upto exprTypesSpec)) exprTypesUptoCard

/-- THE SECOND FORM's CARD OF 'bywashlaw04.ExprEvals'. -/
def exprEvalsUptoCard : Claim7 := { stood := { row := exprEvalsUptoRow, standIns := [], harness := (true, "6da5384a824d1c85ad763dd7e4431644182cb7b1a1d99b179a5cba5558d54e4f"), looks := false }, kinds := [], alts := [], laidByText := true, laidKinds := [.data, .data], laidTests := true, laidLooks := .later }
def ExprEvalsUptoCardSaid : Prop := Claim7.holds Tryd.pinned (.plain (OpenSpec.upto exprEvalsSpec)) exprEvalsUptoCard

/-- THE SECOND FORM's CARD OF 'bywashlaw04.ExprColumns'. -/
def exprColumnsUptoCard : Claim7 := { stood := { row := exprColumnsUptoRow, standIns := [], harness := (true, "6da5384a824d1c85ad763dd7e4431644182cb7b1a1d99b179a5cba5558d54e4f"), looks := false }, kinds := [], alts := [], laidByText := true, laidKinds := [.data, .data], laidTests := true, laidLooks := .later }
def ExprColumnsUptoCardSaid : Prop := Claim7.holds Tryd.pinned (.plain (OpenSpec.upto exprColumnsSpec)) exprColumnsUptoCard

/-- THE SECOND FORM's CARD OF 'bywashlaw04.ExprMakes'. -/
def exprMakesUptoCard : Claim7 := { stood := { row := exprMakesUptoRow, standIns := [], harness := (true, "6da5384a824d1c85ad763dd7e4431644182cb7b1a1d99b179a5cba5558d54e4f"), looks := false }, kinds := [], alts := [], laidByText := true, laidKinds := [.data, .data], laidTests := true, laidLooks := .later }
def ExprMakesUptoCardSaid : Prop := Claim7.holds Tryd.pinned (.plain (OpenSpec.upto exprMakesSpec)) exprMakesUptoCard

/-- THE SECOND FORM's CARD OF 'bywashlaw04.ExprEquals'. -/
def exprEqualsUptoCard : Claim7 := { stood := { row := exprEqualsUptoRow, standIns := [], harness := (true, "6da5384a824d1c85ad763dd7e4431644182cb7b1a1d99b179a5cba5558d54e4f"), looks := false }, kinds := [], alts := [], laidByText := true, laidKinds := [.data, .data], laidTests := true, laidLooks := .later }
def ExprEqualsUptoCardSaid : Prop := Claim7.holds Tryd.pinned (.plain (OpenSpec.upto exprEqualsSpec)) exprEqualsUptoCard

/-- THE SECOND FORM's CARD OF 'bywashlaw04.ExprNulls'. -/
def exprNullsUptoCard : Claim7 := { stood := { row := exprNullsUptoRow, standIns := [], harness := (true, "6da5384a824d1c85ad763dd7e4431644182cb7b1a1d99b179a5cba5558d54e4f"), looks := false }, kinds := [], alts := [], laidByText := true, laidKinds := [.data, .data], laidTests := true, laidLooks := .later }
def ExprNullsUptoCardSaid : Prop := Claim7.holds Tryd.pinned (.plain (OpenSpec.upto exprNullsSpec)) exprNullsUptoCard
end Rows
end Go.Proofs.YtdhbgfdkbjnedaaDoor
