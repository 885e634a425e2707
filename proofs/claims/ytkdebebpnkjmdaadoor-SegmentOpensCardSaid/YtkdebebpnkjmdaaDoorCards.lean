/-
  DERIVED. GIVEN WITH THE SEED: THE CARDS: each row of YtkdebebpnkjmdaaDoorRows.lean that lists a variable, with what it lists TIED to the program's text (the seventh form; the later family's looks); each row that meets fmt, with fmt's text TOLD by the authors' own Lean function (tested against real Go, not proved from fmt's source: count such statements apart). THE CARD IS WHAT COUNTS. Prove the row's statement (the work); the ties are given (YtkdebebpnkjmdaaDoorTie.lean); close each card by the builder's one call (the guide's Derived/Test/ToyasCard.lean, 'card_holds'). Laid BY PROGRAM, IN A SANDBOX (cutbox-door.mjs). By AI agents, Wed Nov 11 2026. No macro, syntax, notation, axiom, sorry.
-/
import Derived.Test.YtkdebebpnkjmdaaDoorRows
import GoSem.ClaimSeven
namespace Go.Proofs.YtkdebebpnkjmdaaDoor
namespace Rows

/-- THE TIED CARD OF 'bywashlaw08.SegmentOpens'. -/
def segmentOpensCard : Claim7 := { stood := { row := segmentOpensRow, standIns := [], harness := (true, "46673fd83d67c5a2f0b176637ccd5342fc926e699fb487cbf2c4f565acc7ea98"), looks := false }, kinds := [], alts := [], laidByText := true, laidKinds := [.data], laidTests := true, laidLooks := .later }
def SegmentOpensCardSaid : Prop := Claim7.holds Tryd.pinned (.plain (OpenSpec.ofChange segmentOpensSpec)) segmentOpensCard

/-- THE TIED CARD OF 'bywashlaw08.SegmentPlays'. -/
def segmentPlaysCard : Claim7 := { stood := { row := segmentPlaysRow, standIns := [], harness := (true, "46673fd83d67c5a2f0b176637ccd5342fc926e699fb487cbf2c4f565acc7ea98"), looks := false }, kinds := [], alts := [], laidByText := true, laidKinds := [.data], laidTests := true, laidLooks := .later }
def SegmentPlaysCardSaid : Prop := Claim7.holds Tryd.pinned (.plain (OpenSpec.ofChange segmentPlaysSpec)) segmentPlaysCard

/-- THE TIED CARD OF 'bywashlaw08.SegmentCrashes'. -/
def segmentCrashesCard : Claim7 := { stood := { row := segmentCrashesRow, standIns := [], harness := (true, "46673fd83d67c5a2f0b176637ccd5342fc926e699fb487cbf2c4f565acc7ea98"), looks := false }, kinds := [], alts := [], laidByText := true, laidKinds := [.data], laidTests := true, laidLooks := .later }
def SegmentCrashesCardSaid : Prop := Claim7.holds Tryd.pinned (.plain (OpenSpec.ofChange segmentCrashesSpec)) segmentCrashesCard

/-- THE TIED CARD OF 'bywashlaw08.SegmentReopens'. -/
def segmentReopensCard : Claim7 := { stood := { row := segmentReopensRow, standIns := [], harness := (true, "46673fd83d67c5a2f0b176637ccd5342fc926e699fb487cbf2c4f565acc7ea98"), looks := false }, kinds := [], alts := [], laidByText := true, laidKinds := [.data], laidTests := true, laidLooks := .later }
def SegmentReopensCardSaid : Prop := Claim7.holds Tryd.pinned (.plain (OpenSpec.ofChange segmentReopensSpec)) segmentReopensCard

/-- THE SECOND FORM's CARD OF 'bywashlaw08.SegmentOpens'. -/
def segmentOpensUptoCard : Claim7 := { stood := { row := segmentOpensUptoRow, standIns := [], harness := (true, "46673fd83d67c5a2f0b176637ccd5342fc926e699fb487cbf2c4f565acc7ea98"), looks := false }, kinds := [], alts := [], laidByText := true, laidKinds := [.data], laidTests := true, laidLooks := .later }
def SegmentOpensUptoCardSaid : Prop := Claim7.holds Tryd.pinned (.plain (OpenSpec.upto segmentOpensSpec)) segmentOpensUptoCard

/-- THE SECOND FORM's CARD OF 'bywashlaw08.SegmentPlays'. -/
def segmentPlaysUptoCard : Claim7 := { stood := { row := segmentPlaysUptoRow, standIns := [], harness := (true, "46673fd83d67c5a2f0b176637ccd5342fc926e699fb487cbf2c4f565acc7ea98"), looks := false }, kinds := [], alts := [], laidByText := true, laidKinds := [.data], laidTests := true, laidLooks := .later }
def SegmentPlaysUptoCardSaid : Prop := Claim7.holds Tryd.pinned (.plain (OpenSpec.upto segmentPlaysSpec)) segmentPlaysUptoCard

/-- THE SECOND FORM's CARD OF 'bywashlaw08.SegmentCrashes'. -/
def segmentCrashesUptoCard : Claim7 := { stood := { row := segmentCrashesUptoRow, standIns := [], harness := (true, "46673fd83d67c5a2f0b176637ccd5342fc926e699fb487cbf2c4f565acc7ea98"), looks := false }, kinds := [], alts := [], laidByText := true, laidKinds := [.data], laidTests := true, laidLooks := .later }
def SegmentCrashesUptoCardSaid : Prop := Claim7.holds Tryd.pinned (.plain (OpenSpec.upto segmentCrashesSpec)) segmentCrashesUptoCard

/-- THE SECOND FORM's CARD OF 'bywashlaw08.SegmentReopens'. -/
def segmentReopensUptoCard : Claim7 := { stood := { row := segmentReopensUptoRow, standIns := [], harness := (true, "46673fd83d67c5a2f0b176637ccd5342fc926e699fb487cbf2c4f565acc7ea98"), looks := false }, kinds := [], alts := [], laidByText := true, laidKinds := [.data], laidTests := true, laidLooks := .later }
def SegmentReopensUptoCardSaid : Prop := Claim7.holds Tryd.pinned (.plain (OpenSpec.upto segmentReopensSpec)) segmentReopensUptoCard
end Rows
end Go.Proofs.YtkdebebpnkjmdaaDoor
