/-
  DERIVED. GIVEN WITH THE SEED: THE CARDS: each row of YtljoajjlkjjgeaaGreatDoorRows.lean that lists a variable, with what it lists TIED to the program's text (the seventh form; the later family's looks); each row that meets fmt, with fmt's text TOLD by the authors' own Lean function (tested against real Go, not proved from fmt's source: count such statements apart). THE CARD IS WHAT COUNTS. Prove the row's statement (the work); the ties are given (YtljoajjlkjjgeaaGreatDoorTie.lean); close each card by the builder's one call (the guide's Derived/Test/ToyasCard.lean, 'card_holds'). Laid BY PROGRAM, IN A SANDBOX (cutbox-door.mjs). By AI agents, Wed Nov 11 2026. No macro, syntax, notation, axiom, sorry.
-/
import Derived.Test.YtljoajjlkjjgeaaGreatDoorRows
import GoSem.ClaimSeven
namespace Go.Proofs.YtljoajjlkjjgeaaGreatDoor
namespace Rows

/-- THE TIED CARD OF 'bywashlaw14.ParseSources'. -/
def parseSourcesCard : Claim7 := { stood := { row := parseSourcesRow, standIns := [], harness := (true, "445b750ac5ef9189686860d6348fe2c5baaa041be084a7521d60139ae29545d5"), looks := true }, kinds := [], alts := [], laidByText := true, laidKinds := [.data, .data, .data, .sentinel, .sentinel, .data], laidTests := true, laidLooks := .later }
def ParseSourcesCardSaid : Prop := Claim7.holds Tryz.pinned (.plain (OpenSpec.ofChange parseSourcesSpec)) parseSourcesCard

/-- THE TIED CARD OF 'bywashlaw14.ParseAssets'. -/
def parseAssetsCard : Claim7 := { stood := { row := parseAssetsRow, standIns := [], harness := (true, "445b750ac5ef9189686860d6348fe2c5baaa041be084a7521d60139ae29545d5"), looks := true }, kinds := [], alts := [], laidByText := true, laidKinds := [.data, .data, .data, .sentinel, .sentinel, .data], laidTests := true, laidLooks := .later }
def ParseAssetsCardSaid : Prop := Claim7.holds Tryz.pinned (.plain (OpenSpec.ofChange parseAssetsSpec)) parseAssetsCard

/-- THE TIED CARD OF 'bywashlaw14.ParseSchedules'. -/
def parseSchedulesCard : Claim7 := { stood := { row := parseSchedulesRow, standIns := [], harness := (true, "445b750ac5ef9189686860d6348fe2c5baaa041be084a7521d60139ae29545d5"), looks := true }, kinds := [], alts := [], laidByText := true, laidKinds := [.data, .data, .data, .sentinel, .sentinel, .data], laidTests := true, laidLooks := .later }
def ParseSchedulesCardSaid : Prop := Claim7.holds Tryz.pinned (.plain (OpenSpec.ofChange parseSchedulesSpec)) parseSchedulesCard

/-- THE TIED CARD OF 'bywashlaw14.ParseQueries'. -/
def parseQueriesCard : Claim7 := { stood := { row := parseQueriesRow, standIns := [], harness := (true, "445b750ac5ef9189686860d6348fe2c5baaa041be084a7521d60139ae29545d5"), looks := true }, kinds := [], alts := [], laidByText := true, laidKinds := [.data, .data, .data, .sentinel, .sentinel, .data], laidTests := true, laidLooks := .later }
def ParseQueriesCardSaid : Prop := Claim7.holds Tryz.pinned (.plain (OpenSpec.ofChange parseQueriesSpec)) parseQueriesCard

/-- THE TIED CARD OF 'bywashlaw14.ParseTexts'. -/
def parseTextsCard : Claim7 := { stood := { row := parseTextsRow, standIns := [], harness := (true, "445b750ac5ef9189686860d6348fe2c5baaa041be084a7521d60139ae29545d5"), looks := true }, kinds := [], alts := [], laidByText := true, laidKinds := [.data, .data, .data, .sentinel, .sentinel, .data], laidTests := true, laidLooks := .later }
def ParseTextsCardSaid : Prop := Claim7.holds Tryz.pinned (.plain (OpenSpec.ofChange parseTextsSpec)) parseTextsCard

/-- THE SECOND FORM's CARD OF 'bywashlaw14.ParseSources'. -/
def parseSourcesUptoCard : Claim7 := { stood := { row := parseSourcesUptoRow, standIns := [], harness := (true, "445b750ac5ef9189686860d6348fe2c5baaa041be084a7521d60139ae29545d5"), looks := true }, kinds := [], alts := [], laidByText := true, laidKinds := [.data, .data, .data, .sentinel, .sentinel, .data], laidTests := true, laidLooks := .later }
def ParseSourcesUptoCardSaid : Prop := Claim7.holds Tryz.pinned (.plain (OpenSpec.upto parseSourcesSpec)) parseSourcesUptoCard

/-- THE SECOND FORM's CARD OF 'bywashlaw14.ParseAssets'. -/
def parseAssetsUptoCard : Claim7 := { stood := { row := parseAssetsUptoRow, standIns := [], harness := (true, "445b750ac5ef9189686860d6348fe2c5baaa041be084a7521d60139ae29545d5"), looks := true }, kinds := [], alts := [], laidByText := true, laidKinds := [.data, .data, .data, .sentinel, .sentinel, .data], laidTests := true, laidLooks := .later }
def ParseAssetsUptoCardSaid : Prop := Claim7.holds Tryz.pinned (.plain (OpenSpec.upto parseAssetsSpec)) parseAssetsUptoCard

/-- THE SECOND FORM's CARD OF 'bywashlaw14.ParseSchedules'. -/
def parseSchedulesUptoCard : Claim7 := { stood := { row := parseSchedulesUptoRow, standIns := [], harness := (true, "445b750ac5ef9189686860d6348fe2c5baaa041be084a7521d60139ae29545d5"), looks := true }, kinds := [], alts := [], laidByText := true, laidKinds := [.data, .data, .data, .sentinel, .sentinel, .data], laidTests := true, laidLooks := .later }
def ParseSchedulesUptoCardSaid : Prop := Claim7.holds Tryz.pinned (.plain (OpenSpec.upto parseSchedulesSpec)) parseSchedulesUptoCard

/-- THE SECOND FORM's CARD OF 'bywashlaw14.ParseQueries'. -/
def parseQueriesUptoCard : Claim7 := { stood := { row := parseQueriesUptoRow, standIns := [], harness := (true, "445b750ac5ef9189686860d6348fe2c5baaa041be084a7521d60139ae29545d5"), looks := true }, kinds := [], alts := [], laidByText := true, laidKinds := [.data, .data, .data, .sentinel, .sentinel, .data], laidTests := true, laidLooks := .later }
def ParseQueriesUptoCardSaid : Prop := Claim7.holds Tryz.pinned (.plain (OpenSpec.upto parseQueriesSpec)) parseQueriesUptoCard

/-- THE SECOND FORM's CARD OF 'bywashlaw14.ParseTexts'. -/
def parseTextsUptoCard : Claim7 := { stood := { row := parseTextsUptoRow, standIns := [], harness := (true, "445b750ac5ef9189686860d6348fe2c5baaa041be084a7521d60139ae29545d5"), looks := true }, kinds := [], alts := [], laidByText := true, laidKinds := [.data, .data, .data, .sentinel, .sentinel, .data], laidTests := true, laidLooks := .later }
def ParseTextsUptoCardSaid : Prop := Claim7.holds Tryz.pinned (.plain (OpenSpec.upto parseTextsSpec)) parseTextsUptoCard
end Rows
end Go.Proofs.YtljoajjlkjjgeaaGreatDoor
