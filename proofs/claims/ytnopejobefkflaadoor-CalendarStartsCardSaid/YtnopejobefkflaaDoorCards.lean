/-
  DERIVED. GIVEN WITH THE SEED: THE CARDS: each row of YtnopejobefkflaaDoorRows.lean that lists a variable, with what it lists TIED to the program's text (the seventh form; the later family's looks); each row that meets fmt, with fmt's text TOLD by the authors' own Lean function (tested against real Go, not proved from fmt's source: count such statements apart). THE CARD IS WHAT COUNTS. Prove the row's statement (the work); the ties are given (YtnopejobefkflaaDoorTie.lean); close each card by the builder's one call (the guide's Derived/Test/ToyasCard.lean, 'card_holds'). Laid BY PROGRAM, IN A SANDBOX (cutbox-door.mjs). By AI agents, Wed Nov 11 2026. No macro, syntax, notation, axiom, sorry.
-/
import Derived.Test.YtnopejobefkflaaDoorRows
import GoSem.ClaimSeven
namespace Go.Proofs.YtnopejobefkflaaDoor
namespace Rows

/-- THE TIED CARD OF 'bywashlaw09.CalendarDates'. -/
def calendarDatesCard : Claim7 := { stood := { row := calendarDatesRow, standIns := [], harness := (true, "879dfd280543e247467b31e13e64a1aaf28c02aa7c0cd7a49bc031f2bc55857b"), looks := true }, kinds := [], alts := [], laidByText := true, laidKinds := [.data, .data, .data, .data], laidTests := true, laidLooks := .later }
def CalendarDatesCardSaid : Prop := Claim7.holds Tryd.pinned (.plain (OpenSpec.ofChange calendarDatesSpec)) calendarDatesCard

/-- THE TIED CARD OF 'bywashlaw09.CalendarMinutes'. -/
def calendarMinutesCard : Claim7 := { stood := { row := calendarMinutesRow, standIns := [], harness := (true, "879dfd280543e247467b31e13e64a1aaf28c02aa7c0cd7a49bc031f2bc55857b"), looks := true }, kinds := [], alts := [], laidByText := true, laidKinds := [.data, .data, .data, .data], laidTests := true, laidLooks := .later }
def CalendarMinutesCardSaid : Prop := Claim7.holds Tryd.pinned (.plain (OpenSpec.ofChange calendarMinutesSpec)) calendarMinutesCard

/-- THE TIED CARD OF 'bywashlaw09.CalendarTexts'. -/
def calendarTextsCard : Claim7 := { stood := { row := calendarTextsRow, standIns := [], harness := (true, "879dfd280543e247467b31e13e64a1aaf28c02aa7c0cd7a49bc031f2bc55857b"), looks := true }, kinds := [], alts := [], laidByText := true, laidKinds := [.data, .data, .data, .sentinel, .sentinel, .data], laidTests := true, laidLooks := .later }
def CalendarTextsCardSaid : Prop := Claim7.holds Tryd.pinned (.plain (OpenSpec.ofChange calendarTextsSpec)) calendarTextsCard

/-- THE TIED CARD OF 'bywashlaw09.CalendarParses'. -/
def calendarParsesCard : Claim7 := { stood := { row := calendarParsesRow, standIns := [], harness := (true, "879dfd280543e247467b31e13e64a1aaf28c02aa7c0cd7a49bc031f2bc55857b"), looks := true }, kinds := [], alts := [], laidByText := true, laidKinds := [.data, .data, .data, .sentinel, .sentinel, .data], laidTests := true, laidLooks := .later }
def CalendarParsesCardSaid : Prop := Claim7.holds Tryd.pinned (.plain (OpenSpec.ofChange calendarParsesSpec)) calendarParsesCard

/-- THE TIED CARD OF 'bywashlaw09.CalendarMonths'. -/
def calendarMonthsCard : Claim7 := { stood := { row := calendarMonthsRow, standIns := [], harness := (true, "879dfd280543e247467b31e13e64a1aaf28c02aa7c0cd7a49bc031f2bc55857b"), looks := true }, kinds := [], alts := [], laidByText := true, laidKinds := [.data, .data, .data, .data], laidTests := true, laidLooks := .later }
def CalendarMonthsCardSaid : Prop := Claim7.holds Tryd.pinned (.plain (OpenSpec.ofChange calendarMonthsSpec)) calendarMonthsCard

/-- THE TIED CARD OF 'bywashlaw09.CalendarStarts'. -/
def calendarStartsCard : Claim7 := { stood := { row := calendarStartsRow, standIns := [], harness := (true, "879dfd280543e247467b31e13e64a1aaf28c02aa7c0cd7a49bc031f2bc55857b"), looks := true }, kinds := [], alts := [], laidByText := true, laidKinds := [.data, .data, .data, .data], laidTests := true, laidLooks := .later }
def CalendarStartsCardSaid : Prop := Claim7.holds Tryd.pinned (.plain (OpenSpec.ofChange calendarStartsSpec)) calendarStartsCard

/-- THE TIED CARD OF 'bywashlaw09.CalendarLeaps'. -/
def calendarLeapsCard : Claim7 := { stood := { row := calendarLeapsRow, standIns := [], harness := (true, "879dfd280543e247467b31e13e64a1aaf28c02aa7c0cd7a49bc031f2bc55857b"), looks := true }, kinds := [], alts := [], laidByText := true, laidKinds := [.data, .data, .data, .data], laidTests := true, laidLooks := .later }
def CalendarLeapsCardSaid : Prop := Claim7.holds Tryd.pinned (.plain (OpenSpec.ofChange calendarLeapsSpec)) calendarLeapsCard

/-- THE SECOND FORM's CARD OF 'bywashlaw09.CalendarDates'. -/
def calendarDatesUptoCard : Claim7 := { stood := { row := calendarDatesUptoRow, standIns := [], harness := (true, "879dfd280543e247467b31e13e64a1aaf28c02aa7c0cd7a49bc031f2bc55857b"), looks := true }, kinds := [], alts := [], laidByText := true, laidKinds := [.data, .data, .data, .data], laidTests := true, laidLooks := .later }
def CalendarDatesUptoCardSaid : Prop := Claim7.holds Tryd.pinned (.plain (OpenSpec.upto calendarDatesSpec)) calendarDatesUptoCard

/-- THE SECOND FORM's CARD OF 'bywashlaw09.CalendarMinutes'. -/
def calendarMinutesUptoCard : Claim7 := { stood := { row := calendarMinutesUptoRow, standIns := [], harness := (true, "879dfd280543e247467b31e13e64a1aaf28c02aa7c0cd7a49bc031f2bc55857b"), looks := true }, kinds := [], alts := [], laidByText := true, laidKinds := [.data, .data, .data, .data], laidTests := true, laidLooks := .later }
def CalendarMinutesUptoCardSaid : Prop := Claim7.holds Tryd.pinned (.plain (OpenSpec.upto calendarMinutesSpec)) calendarMinutesUptoCard

/-- THE SECOND FORM's CARD OF 'bywashlaw09.CalendarTexts'. -/
def calendarTextsUptoCard : Claim7 := { stood := { row := calendarTextsUptoRow, standIns := [], harness := (true, "879dfd280543e247467b31e13e64a1aaf28c02aa7c0cd7a49bc031f2bc55857b"), looks := true }, kinds := [], alts := [], laidByText := true, laidKinds := [.data, .data, .data, .sentinel, .sentinel, .data], laidTests := true, laidLooks := .later }
def CalendarTextsUptoCardSaid : Prop := Claim7.holds Tryd.pinned (.plain (OpenSpec.upto calendarTextsSpec)) calendarTextsUptoCard

/-- THE SECOND FORM's CARD OF 'bywashlaw09.CalendarParses'. -/
def calendarParsesUptoCard : Claim7 := { stood := { row := calendarParsesUptoRow, standIns := [], harness := (true, "879dfd280543e247467b31e13e64a1aaf28c02aa7c0cd7a49bc031f2bc55857b"), looks := true }, kinds := [], alts := [], laidByText := true, laidKinds := [.data, .data, .data, .sentinel, .sentinel, .data], laidTests := true, laidLooks := .later }
def CalendarParsesUptoCardSaid : Prop := Claim7.holds Tryd.pinned (.plain (OpenSpec.upto calendarParsesSpec)) calendarParsesUptoCard

/-- THE SECOND FORM's CARD OF 'bywashlaw09.CalendarMonths'. -/
def calendarMonthsUptoCard : Claim7 := { stood := { row := calendarMonthsUptoRow, standIns := [], harness := (true, "879dfd280543e247467b31e13e64a1aaf28c02aa7c0cd7a49bc031f2bc55857b"), looks := true }, kinds := [], alts := [], laidByText := true, laidKinds := [.data, .data, .data, .data], laidTests := true, laidLooks := .later }
def CalendarMonthsUptoCardSaid : Prop := Claim7.holds Tryd.pinned (.plain (OpenSpec.upto calendarMonthsSpec)) calendarMonthsUptoCard

/-- THE SECOND FORM's CARD OF 'bywashlaw09.CalendarStarts'. -/
def calendarStartsUptoCard : Claim7 := { stood := { row := calendarStartsUptoRow, standIns := [], harness := (true, "879dfd280543e247467b31e13e64a1aaf28c02aa7c0cd7a49bc031f2bc55857b"), looks := true }, kinds := [], alts := [], laidByText := true, laidKinds := [.data, .data, .data, .data], laidTests := true, laidLooks := .later }
def CalendarStartsUptoCardSaid : Prop := Claim7.holds Tryd.pinned (.plain (OpenSpec.upto calendarStartsSpec)) calendarStartsUptoCard

/-- THE SECOND FORM's CARD OF 'bywashlaw09.CalendarLeaps'. -/
def calendarLeapsUptoCard : Claim7 := { stood := { row := calendarLeapsUptoRow, standIns := [], harness := (true, "879dfd280543e247467b31e13e64a1aaf28c02aa7c0cd7a49bc031f2bc55857b"), looks := true }, kinds := [], alts := [], laidByText := true, laidKinds := [.data, .data, .data, .data], laidTests := true, laidLooks := .later }
def CalendarLeapsUptoCardSaid : Prop := Claim7.holds Tryd.pinned (.plain (OpenSpec.upto calendarLeapsSpec)) calendarLeapsUptoCard
end Rows
end Go.Proofs.YtnopejobefkflaaDoor
