/-
  DERIVED. GIVEN WITH THE SEED: THE CARDS: each row of YtomhiganfmoceaaDoorRows.lean that lists a variable, with what it lists TIED to the program's text (the seventh form; the later family's looks); each row that meets fmt, with fmt's text TOLD by the authors' own Lean function (tested against real Go, not proved from fmt's source: count such statements apart). THE CARD IS WHAT COUNTS. Prove the row's statement (the work); the ties are given (YtomhiganfmoceaaDoorTie.lean); close each card by the builder's one call (the guide's Derived/Test/ToyasCard.lean, 'card_holds'). Laid BY PROGRAM, IN A SANDBOX (cutbox-door.mjs). By AI agents, Wed Nov 11 2026. No macro, syntax, notation, axiom, sorry.
-/
import Derived.Test.YtomhiganfmoceaaDoorRows
import GoSem.ClaimSeven
namespace Go.Proofs.YtomhiganfmoceaaDoor
namespace Rows

/-- THE TIED CARD OF 'bywashlaw12.WindowChecks'. -/
def windowChecksCard : Claim7 := { stood := { row := windowChecksRow, standIns := [], harness := (true, "9380d5f676e847cd8ec4eb91e11a07f73d206525004c509b61952d3d8c29c0d8"), looks := true }, kinds := [], alts := [], laidByText := true, laidKinds := [.data, .data, .data, .data, .data], laidTests := true, laidLooks := .later }
def WindowChecksCardSaid : Prop := Claim7.holds Tryd.pinned (.plain (OpenSpec.ofChange windowChecksSpec)) windowChecksCard

/-- THE TIED CARD OF 'bywashlaw12.WindowNeeds'. -/
def windowNeedsCard : Claim7 := { stood := { row := windowNeedsRow, standIns := [], harness := (true, "9380d5f676e847cd8ec4eb91e11a07f73d206525004c509b61952d3d8c29c0d8"), looks := true }, kinds := [], alts := [], laidByText := true, laidKinds := [.data, .data, .data, .data, .data], laidTests := true, laidLooks := .later }
def WindowNeedsCardSaid : Prop := Claim7.holds Tryd.pinned (.plain (OpenSpec.ofChange windowNeedsSpec)) windowNeedsCard

/-- THE TIED CARD OF 'bywashlaw12.WindowBack'. -/
def windowBackCard : Claim7 := { stood := { row := windowBackRow, standIns := [], harness := (true, "9380d5f676e847cd8ec4eb91e11a07f73d206525004c509b61952d3d8c29c0d8"), looks := true }, kinds := [], alts := [], laidByText := true, laidKinds := [.data, .data, .data, .data, .data], laidTests := true, laidLooks := .later }
def WindowBackCardSaid : Prop := Claim7.holds Tryd.pinned (.plain (OpenSpec.ofChange windowBackSpec)) windowBackCard

/-- THE TIED CARD OF 'bywashlaw12.WindowBoth'. -/
def windowBothCard : Claim7 := { stood := { row := windowBothRow, standIns := [], harness := (true, "9380d5f676e847cd8ec4eb91e11a07f73d206525004c509b61952d3d8c29c0d8"), looks := true }, kinds := [], alts := [], laidByText := true, laidKinds := [.data, .data, .data, .data, .data], laidTests := true, laidLooks := .later }
def WindowBothCardSaid : Prop := Claim7.holds Tryd.pinned (.plain (OpenSpec.ofChange windowBothSpec)) windowBothCard

/-- THE TIED CARD OF 'bywashlaw12.WindowShows'. -/
def windowShowsCard : Claim7 := { stood := { row := windowShowsRow, standIns := [], harness := (true, "9380d5f676e847cd8ec4eb91e11a07f73d206525004c509b61952d3d8c29c0d8"), looks := true }, kinds := [], alts := [], laidByText := true, laidKinds := [.data, .data, .data, .sentinel, .sentinel, .data, .data], laidTests := true, laidLooks := .later }
def WindowShowsCardSaid : Prop := Claim7.holds Tryd.pinned (.plain (OpenSpec.ofChange windowShowsSpec)) windowShowsCard

/-- THE TIED CARD OF 'bywashlaw12.WindowParses'. -/
def windowParsesCard : Claim7 := { stood := { row := windowParsesRow, standIns := [], harness := (true, "9380d5f676e847cd8ec4eb91e11a07f73d206525004c509b61952d3d8c29c0d8"), looks := true }, kinds := [], alts := [], laidByText := true, laidKinds := [.data, .data, .data, .sentinel, .sentinel, .data, .data], laidTests := true, laidLooks := .later }
def WindowParsesCardSaid : Prop := Claim7.holds Tryd.pinned (.plain (OpenSpec.ofChange windowParsesSpec)) windowParsesCard

/-- THE SECOND FORM's CARD OF 'bywashlaw12.WindowChecks'. -/
def windowChecksUptoCard : Claim7 := { stood := { row := windowChecksUptoRow, standIns := [], harness := (true, "9380d5f676e847cd8ec4eb91e11a07f73d206525004c509b61952d3d8c29c0d8"), looks := true }, kinds := [], alts := [], laidByText := true, laidKinds := [.data, .data, .data, .data, .data], laidTests := true, laidLooks := .later }
def WindowChecksUptoCardSaid : Prop := Claim7.holds Tryd.pinned (.plain (OpenSpec.upto windowChecksSpec)) windowChecksUptoCard

/-- THE SECOND FORM's CARD OF 'bywashlaw12.WindowNeeds'. -/
def windowNeedsUptoCard : Claim7 := { stood := { row := windowNeedsUptoRow, standIns := [], harness := (true, "9380d5f676e847cd8ec4eb91e11a07f73d206525004c509b61952d3d8c29c0d8"), looks := true }, kinds := [], alts := [], laidByText := true, laidKinds := [.data, .data, .data, .data, .data], laidTests := true, laidLooks := .later }
def WindowNeedsUptoCardSaid : Prop := Claim7.holds Tryd.pinned (.plain (OpenSpec.upto windowNeedsSpec)) windowNeedsUptoCard

/-- THE SECOND FORM's CARD OF 'bywashlaw12.WindowBack'. -/
def windowBackUptoCard : Claim7 := { stood := { row := windowBackUptoRow, standIns := [], harness := (true, "9380d5f676e847cd8ec4eb91e11a07f73d206525004c509b61952d3d8c29c0d8"), looks := true }, kinds := [], alts := [], laidByText := true, laidKinds := [.data, .data, .data, .data, .data], laidTests := true, laidLooks := .later }
def WindowBackUptoCardSaid : Prop := Claim7.holds Tryd.pinned (.plain (OpenSpec.upto windowBackSpec)) windowBackUptoCard

/-- THE SECOND FORM's CARD OF 'bywashlaw12.WindowBoth'. -/
def windowBothUptoCard : Claim7 := { stood := { row := windowBothUptoRow, standIns := [], harness := (true, "9380d5f676e847cd8ec4eb91e11a07f73d206525004c509b61952d3d8c29c0d8"), looks := true }, kinds := [], alts := [], laidByText := true, laidKinds := [.data, .data, .data, .data, .data], laidTests := true, laidLooks := .later }
def WindowBothUptoCardSaid : Prop := Claim7.holds Tryd.pinned (.plain (OpenSpec.upto windowBothSpec)) windowBothUptoCard

/-- THE SECOND FORM's CARD OF 'bywashlaw12.WindowShows'. -/
def windowShowsUptoCard : Claim7 := { stood := { row := windowShowsUptoRow, standIns := [], harness := (true, "9380d5f676e847cd8ec4eb91e11a07f73d206525004c509b61952d3d8c29c0d8"), looks := true }, kinds := [], alts := [], laidByText := true, laidKinds := [.data, .data, .data, .sentinel, .sentinel, .data, .data], laidTests := true, laidLooks := .later }
def WindowShowsUptoCardSaid : Prop := Claim7.holds Tryd.pinned (.plain (OpenSpec.upto windowShowsSpec)) windowShowsUptoCard

/-- THE SECOND FORM's CARD OF 'bywashlaw12.WindowParses'. -/
def windowParsesUptoCard : Claim7 := { stood := { row := windowParsesUptoRow, standIns := [], harness := (true, "9380d5f676e847cd8ec4eb91e11a07f73d206525004c509b61952d3d8c29c0d8"), looks := true }, kinds := [], alts := [], laidByText := true, laidKinds := [.data, .data, .data, .sentinel, .sentinel, .data, .data], laidTests := true, laidLooks := .later }
def WindowParsesUptoCardSaid : Prop := Claim7.holds Tryd.pinned (.plain (OpenSpec.upto windowParsesSpec)) windowParsesUptoCard
end Rows
end Go.Proofs.YtomhiganfmoceaaDoor
