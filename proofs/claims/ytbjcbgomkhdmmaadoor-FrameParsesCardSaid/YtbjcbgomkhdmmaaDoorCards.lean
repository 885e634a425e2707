/-
  DERIVED. GIVEN WITH THE SEED: THE CARDS: each row of YtbjcbgomkhdmmaaDoorRows.lean that lists a variable, with what it lists TIED to the program's text (the seventh form; the later family's looks); each row that meets fmt, with fmt's text TOLD by the authors' own Lean function (tested against real Go, not proved from fmt's source: count such statements apart). THE CARD IS WHAT COUNTS. Prove the row's statement (the work); the ties are given (YtbjcbgomkhdmmaaDoorTie.lean); close each card by the builder's one call (the guide's Derived/Test/ToyasCard.lean, 'card_holds'). Laid BY PROGRAM, IN A SANDBOX (cutbox-door.mjs). By AI agents, Wed Nov 11 2026. No macro, syntax, notation, axiom, sorry.
-/
import Derived.Test.YtbjcbgomkhdmmaaDoorRows
import GoSem.ClaimSeven
namespace Go.Proofs.YtbjcbgomkhdmmaaDoor
namespace Rows

/-- THE TIED CARD OF 'bywashlaw07.FrameTables'. -/
def frameTablesCard : Claim7 := { stood := { row := frameTablesRow, standIns := [], harness := (true, "c1c3f902351b80b2893c70b8299c10aa3f5dc0f26b972507bc7235e92e5b4117"), looks := false }, kinds := [], alts := [], laidByText := true, laidKinds := [.data], laidTests := true, laidLooks := .later }
def FrameTablesCardSaid : Prop := Claim7.holds Tryd.pinned (.plain (OpenSpec.ofChange frameTablesSpec)) frameTablesCard

/-- THE TIED CARD OF 'bywashlaw07.FrameParses'. -/
def frameParsesCard : Claim7 := { stood := { row := frameParsesRow, standIns := [], harness := (true, "c1c3f902351b80b2893c70b8299c10aa3f5dc0f26b972507bc7235e92e5b4117"), looks := false }, kinds := [], alts := [], laidByText := true, laidKinds := [.data], laidTests := true, laidLooks := .later }
def FrameParsesCardSaid : Prop := Claim7.holds Tryd.pinned (.plain (OpenSpec.ofChange frameParsesSpec)) frameParsesCard

/-- THE SECOND FORM's CARD OF 'bywashlaw07.FrameTables'. -/
def frameTablesUptoCard : Claim7 := { stood := { row := frameTablesUptoRow, standIns := [], harness := (true, "c1c3f902351b80b2893c70b8299c10aa3f5dc0f26b972507bc7235e92e5b4117"), looks := false }, kinds := [], alts := [], laidByText := true, laidKinds := [.data], laidTests := true, laidLooks := .later }
def FrameTablesUptoCardSaid : Prop := Claim7.holds Tryd.pinned (.plain (OpenSpec.upto frameTablesSpec)) frameTablesUptoCard

/-- THE SECOND FORM's CARD OF 'bywashlaw07.FrameParses'. -/
def frameParsesUptoCard : Claim7 := { stood := { row := frameParsesUptoRow, standIns := [], harness := (true, "c1c3f902351b80b2893c70b8299c10aa3f5dc0f26b972507bc7235e92e5b4117"), looks := false }, kinds := [], alts := [], laidByText := true, laidKinds := [.data], laidTests := true, laidLooks := .later }
def FrameParsesUptoCardSaid : Prop := Claim7.holds Tryd.pinned (.plain (OpenSpec.upto frameParsesSpec)) frameParsesUptoCard
end Rows
end Go.Proofs.YtbjcbgomkhdmmaaDoor
