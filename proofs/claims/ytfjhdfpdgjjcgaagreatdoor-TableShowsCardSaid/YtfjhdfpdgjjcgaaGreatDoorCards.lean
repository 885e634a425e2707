/-
  DERIVED. GIVEN WITH THE SEED: THE CARDS: each row of YtfjhdfpdgjjcgaaGreatDoorRows.lean that lists a variable, with what it lists TIED to the program's text (the seventh form; the later family's looks); each row that meets fmt, with fmt's text TOLD by the authors' own Lean function (tested against real Go, not proved from fmt's source: count such statements apart). THE CARD IS WHAT COUNTS. Prove the row's statement (the work); the ties are given (YtfjhdfpdgjjcgaaGreatDoorTie.lean); close each card by the builder's one call (the guide's Derived/Test/ToyasCard.lean, 'card_holds'). Laid BY PROGRAM, IN A SANDBOX (cutbox-door.mjs). By AI agents, Wed Nov 11 2026. No macro, syntax, notation, axiom, sorry.
-/
import Derived.Test.YtfjhdfpdgjjcgaaGreatDoorRows
import GoSem.ClaimSeven
namespace Go.Proofs.YtfjhdfpdgjjcgaaGreatDoor
namespace Rows

/-- THE TIED CARD OF 'bywashlaw03.TableUnions'. -/
def tableUnionsCard : Claim7 := { stood := { row := tableUnionsRow, standIns := [], harness := (true, "73b54d85e5ed28f4b25161bfdd18d945345729de29ec2bcbe4e69cb4bbf49dfb"), looks := true }, kinds := [], alts := [], laidByText := true, laidKinds := [.data, .data, .data], laidTests := true, laidLooks := .later }
def TableUnionsCardSaid : Prop := Claim7.holds Tryz.pinned (.plain (OpenSpec.ofChange tableUnionsSpec)) tableUnionsCard

/-- THE TIED CARD OF 'bywashlaw03.TableShows'. -/
def tableShowsCard : Claim7 := { stood := { row := tableShowsRow, standIns := [], harness := (true, "73b54d85e5ed28f4b25161bfdd18d945345729de29ec2bcbe4e69cb4bbf49dfb"), looks := true }, kinds := [], alts := [], laidByText := true, laidKinds := [.data, .data, .data, .data, .sentinel, .sentinel, .pinned], laidTests := true, laidLooks := .later }
def TableShowsCardSaid : Prop := Claim7.holds Tryz.pinned (.plain (OpenSpec.ofChange tableShowsSpec)) tableShowsCard

/-- THE TIED CARD OF 'bywashlaw03.TableParses'. -/
def tableParsesCard : Claim7 := { stood := { row := tableParsesRow, standIns := [], harness := (true, "73b54d85e5ed28f4b25161bfdd18d945345729de29ec2bcbe4e69cb4bbf49dfb"), looks := true }, kinds := [], alts := [], laidByText := true, laidKinds := [.data, .data, .data, .data, .sentinel, .sentinel, .pinned], laidTests := true, laidLooks := .later }
def TableParsesCardSaid : Prop := Claim7.holds Tryz.pinned (.plain (OpenSpec.ofChange tableParsesSpec)) tableParsesCard

/-- THE SECOND FORM's CARD OF 'bywashlaw03.TableUnions'. -/
def tableUnionsUptoCard : Claim7 := { stood := { row := tableUnionsUptoRow, standIns := [], harness := (true, "73b54d85e5ed28f4b25161bfdd18d945345729de29ec2bcbe4e69cb4bbf49dfb"), looks := true }, kinds := [], alts := [], laidByText := true, laidKinds := [.data, .data, .data], laidTests := true, laidLooks := .later }
def TableUnionsUptoCardSaid : Prop := Claim7.holds Tryz.pinned (.plain (OpenSpec.upto tableUnionsSpec)) tableUnionsUptoCard

/-- THE SECOND FORM's CARD OF 'bywashlaw03.TableShows'. -/
def tableShowsUptoCard : Claim7 := { stood := { row := tableShowsUptoRow, standIns := [], harness := (true, "73b54d85e5ed28f4b25161bfdd18d945345729de29ec2bcbe4e69cb4bbf49dfb"), looks := true }, kinds := [], alts := [], laidByText := true, laidKinds := [.data, .data, .data, .data, .sentinel, .sentinel, .pinned], laidTests := true, laidLooks := .later }
def TableShowsUptoCardSaid : Prop := Claim7.holds Tryz.pinned (.plain (OpenSpec.upto tableShowsSpec)) tableShowsUptoCard

/-- THE SECOND FORM's CARD OF 'bywashlaw03.TableParses'. -/
def tableParsesUptoCard : Claim7 := { stood := { row := tableParsesUptoRow, standIns := [], harness := (true, "73b54d85e5ed28f4b25161bfdd18d945345729de29ec2bcbe4e69cb4bbf49dfb"), looks := true }, kinds := [], alts := [], laidByText := true, laidKinds := [.data, .data, .data, .data, .sentinel, .sentinel, .pinned], laidTests := true, laidLooks := .later }
def TableParsesUptoCardSaid : Prop := Claim7.holds Tryz.pinned (.plain (OpenSpec.upto tableParsesSpec)) tableParsesUptoCard
end Rows
end Go.Proofs.YtfjhdfpdgjjcgaaGreatDoor
