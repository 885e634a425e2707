/-
  DERIVED. GIVEN WITH THE SEED: THE CARDS: each row of YtggaflihblhapaaDoorRows.lean that lists a variable, with what it lists TIED to the program's text (the seventh form; the later family's looks); each row that meets fmt, with fmt's text TOLD by the authors' own Lean function (tested against real Go, not proved from fmt's source: count such statements apart). THE CARD IS WHAT COUNTS. Prove the row's statement (the work); the ties are given (YtggaflihblhapaaDoorTie.lean); close each card by the builder's one call (the guide's Derived/Test/ToyasCard.lean, 'card_holds'). Laid BY PROGRAM, IN A SANDBOX (cutbox-door.mjs). By AI agents, Wed Nov 11 2026. No macro, syntax, notation, axiom, sorry.
-/
import Derived.Test.YtggaflihblhapaaDoorRows
import GoSem.ClaimSeven
namespace Go.Proofs.YtggaflihblhapaaDoor
namespace Rows

/-- THE TIED CARD OF 'bywashlaw10.CronShows'. -/
def cronShowsCard : Claim7 := { stood := { row := cronShowsRow, standIns := [], harness := (true, "1e9bb4b5a4282e6527fa1f69cf93f23d165dd5550c4333c89e3193307c760040"), looks := true }, kinds := [], alts := [], laidByText := true, laidKinds := [.data, .data, .data, .data, .data, .data, .data, .pinned], laidTests := true, laidLooks := .later }
def CronShowsCardSaid : Prop := Claim7.holds Tryd.pinned (.plain (OpenSpec.ofChange cronShowsSpec)) cronShowsCard

/-- THE TIED CARD OF 'bywashlaw11.SchemeChecks'. -/
def schemeChecksCard : Claim7 := { stood := { row := schemeChecksRow, standIns := [], harness := (true, "1e9bb4b5a4282e6527fa1f69cf93f23d165dd5550c4333c89e3193307c760040"), looks := true }, kinds := [], alts := [], laidByText := true, laidKinds := [.data, .data, .data, .sentinel, .sentinel, .data, .data], laidTests := true, laidLooks := .later }
def SchemeChecksCardSaid : Prop := Claim7.holds Tryd.pinned (.plain (OpenSpec.ofChange schemeChecksSpec)) schemeChecksCard

/-- THE TIED CARD OF 'bywashlaw11.SchemeWindows'. -/
def schemeWindowsCard : Claim7 := { stood := { row := schemeWindowsRow, standIns := [], harness := (true, "1e9bb4b5a4282e6527fa1f69cf93f23d165dd5550c4333c89e3193307c760040"), looks := true }, kinds := [], alts := [], laidByText := true, laidKinds := [.data, .data, .data, .sentinel, .sentinel, .data, .data], laidTests := true, laidLooks := .later }
def SchemeWindowsCardSaid : Prop := Claim7.holds Tryd.pinned (.plain (OpenSpec.ofChange schemeWindowsSpec)) schemeWindowsCard

/-- THE TIED CARD OF 'bywashlaw11.SchemeTiles'. -/
def schemeTilesCard : Claim7 := { stood := { row := schemeTilesRow, standIns := [], harness := (true, "1e9bb4b5a4282e6527fa1f69cf93f23d165dd5550c4333c89e3193307c760040"), looks := true }, kinds := [], alts := [], laidByText := true, laidKinds := [.data, .data, .data, .sentinel, .sentinel, .data, .data], laidTests := true, laidLooks := .later }
def SchemeTilesCardSaid : Prop := Claim7.holds Tryd.pinned (.plain (OpenSpec.ofChange schemeTilesSpec)) schemeTilesCard

/-- THE TIED CARD OF 'bywashlaw11.SchemeWithin'. -/
def schemeWithinCard : Claim7 := { stood := { row := schemeWithinRow, standIns := [], harness := (true, "1e9bb4b5a4282e6527fa1f69cf93f23d165dd5550c4333c89e3193307c760040"), looks := true }, kinds := [], alts := [], laidByText := true, laidKinds := [.data, .data, .data, .sentinel, .sentinel, .data, .data], laidTests := true, laidLooks := .later }
def SchemeWithinCardSaid : Prop := Claim7.holds Tryd.pinned (.plain (OpenSpec.ofChange schemeWithinSpec)) schemeWithinCard

/-- THE TIED CARD OF 'bywashlaw11.SchemeShows'. -/
def schemeShowsCard : Claim7 := { stood := { row := schemeShowsRow, standIns := [], harness := (true, "1e9bb4b5a4282e6527fa1f69cf93f23d165dd5550c4333c89e3193307c760040"), looks := true }, kinds := [], alts := [], laidByText := true, laidKinds := [.data, .data, .data, .sentinel, .sentinel, .data, .data], laidTests := true, laidLooks := .later }
def SchemeShowsCardSaid : Prop := Claim7.holds Tryd.pinned (.plain (OpenSpec.ofChange schemeShowsSpec)) schemeShowsCard

/-- THE TIED CARD OF 'bywashlaw11.SchemeParses'. -/
def schemeParsesCard : Claim7 := { stood := { row := schemeParsesRow, standIns := [], harness := (true, "1e9bb4b5a4282e6527fa1f69cf93f23d165dd5550c4333c89e3193307c760040"), looks := true }, kinds := [], alts := [], laidByText := true, laidKinds := [.data, .data, .data, .sentinel, .sentinel, .data, .data], laidTests := true, laidLooks := .later }
def SchemeParsesCardSaid : Prop := Claim7.holds Tryd.pinned (.plain (OpenSpec.ofChange schemeParsesSpec)) schemeParsesCard

/-- THE SECOND FORM's CARD OF 'bywashlaw10.CronShows'. -/
def cronShowsUptoCard : Claim7 := { stood := { row := cronShowsUptoRow, standIns := [], harness := (true, "1e9bb4b5a4282e6527fa1f69cf93f23d165dd5550c4333c89e3193307c760040"), looks := true }, kinds := [], alts := [], laidByText := true, laidKinds := [.data, .data, .data, .data, .data, .data, .data, .pinned], laidTests := true, laidLooks := .later }
def CronShowsUptoCardSaid : Prop := Claim7.holds Tryd.pinned (.plain (OpenSpec.upto cronShowsSpec)) cronShowsUptoCard

/-- THE SECOND FORM's CARD OF 'bywashlaw11.SchemeChecks'. -/
def schemeChecksUptoCard : Claim7 := { stood := { row := schemeChecksUptoRow, standIns := [], harness := (true, "1e9bb4b5a4282e6527fa1f69cf93f23d165dd5550c4333c89e3193307c760040"), looks := true }, kinds := [], alts := [], laidByText := true, laidKinds := [.data, .data, .data, .sentinel, .sentinel, .data, .data], laidTests := true, laidLooks := .later }
def SchemeChecksUptoCardSaid : Prop := Claim7.holds Tryd.pinned (.plain (OpenSpec.upto schemeChecksSpec)) schemeChecksUptoCard

/-- THE SECOND FORM's CARD OF 'bywashlaw11.SchemeWindows'. -/
def schemeWindowsUptoCard : Claim7 := { stood := { row := schemeWindowsUptoRow, standIns := [], harness := (true, "1e9bb4b5a4282e6527fa1f69cf93f23d165dd5550c4333c89e3193307c760040"), looks := true }, kinds := [], alts := [], laidByText := true, laidKinds := [.data, .data, .data, .sentinel, .sentinel, .data, .data], laidTests := true, laidLooks := .later }
def SchemeWindowsUptoCardSaid : Prop := Claim7.holds Tryd.pinned (.plain (OpenSpec.upto schemeWindowsSpec)) schemeWindowsUptoCard

/-- THE SECOND FORM's CARD OF 'bywashlaw11.SchemeTiles'. -/
def schemeTilesUptoCard : Claim7 := { stood := { row := schemeTilesUptoRow, standIns := [], harness := (true, "1e9bb4b5a4282e6527fa1f69cf93f23d165dd5550c4333c89e3193307c760040"), looks := true }, kinds := [], alts := [], laidByText := true, laidKinds := [.data, .data, .data, .sentinel, .sentinel, .data, .data], laidTests := true, laidLooks := .later }
def SchemeTilesUptoCardSaid : Prop := Claim7.holds Tryd.pinned (.plain (OpenSpec.upto schemeTilesSpec)) schemeTilesUptoCard

/-- THE SECOND FORM's CARD OF 'bywashlaw11.SchemeWithin'. -/
def schemeWithinUptoCard : Claim7 := { stood := { row := schemeWithinUptoRow, standIns := [], harness := (true, "1e9bb4b5a4282e6527fa1f69cf93f23d165dd5550c4333c89e3193307c760040"), looks := true }, kinds := [], alts := [], laidByText := true, laidKinds := [.data, .data, .data, .sentinel, .sentinel, .data, .data], laidTests := true, laidLooks := .later }
def SchemeWithinUptoCardSaid : Prop := Claim7.holds Tryd.pinned (.plain (OpenSpec.upto schemeWithinSpec)) schemeWithinUptoCard

/-- THE SECOND FORM's CARD OF 'bywashlaw11.SchemeShows'. -/
def schemeShowsUptoCard : Claim7 := { stood := { row := schemeShowsUptoRow, standIns := [], harness := (true, "1e9bb4b5a4282e6527fa1f69cf93f23d165dd5550c4333c89e3193307c760040"), looks := true }, kinds := [], alts := [], laidByText := true, laidKinds := [.data, .data, .data, .sentinel, .sentinel, .data, .data], laidTests := true, laidLooks := .later }
def SchemeShowsUptoCardSaid : Prop := Claim7.holds Tryd.pinned (.plain (OpenSpec.upto schemeShowsSpec)) schemeShowsUptoCard

/-- THE SECOND FORM's CARD OF 'bywashlaw11.SchemeParses'. -/
def schemeParsesUptoCard : Claim7 := { stood := { row := schemeParsesUptoRow, standIns := [], harness := (true, "1e9bb4b5a4282e6527fa1f69cf93f23d165dd5550c4333c89e3193307c760040"), looks := true }, kinds := [], alts := [], laidByText := true, laidKinds := [.data, .data, .data, .sentinel, .sentinel, .data, .data], laidTests := true, laidLooks := .later }
def SchemeParsesUptoCardSaid : Prop := Claim7.holds Tryd.pinned (.plain (OpenSpec.upto schemeParsesSpec)) schemeParsesUptoCard
end Rows
end Go.Proofs.YtggaflihblhapaaDoor
