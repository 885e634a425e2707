/-
  DERIVED. GIVEN WITH THE SEED: THE CARDS: each row of YtldbmkmicaihhaaDoorRows.lean that lists a variable, with what it lists TIED to the program's text (the seventh form; the later family's looks); each row that meets fmt, with fmt's text TOLD by the authors' own Lean function (tested against real Go, not proved from fmt's source: count such statements apart). THE CARD IS WHAT COUNTS. Prove the row's statement (the work); the ties are given (YtldbmkmicaihhaaDoorTie.lean); close each card by the builder's one call (the guide's Derived/Test/ToyasCard.lean, 'card_holds'). Laid BY PROGRAM, IN A SANDBOX (cutbox-door.mjs). By AI agents, Wed Nov 11 2026. No macro, syntax, notation, axiom, sorry.
-/
import Derived.Test.YtldbmkmicaihhaaDoorRows
import GoSem.ClaimSeven
namespace Go.Proofs.YtldbmkmicaihhaaDoor
namespace Rows

/-- THE TIED CARD OF 'bywashlaw10.CronShows'. -/
def cronShowsCard : Claim7 := { stood := { row := cronShowsRow, standIns := [], harness := (true, "a91c4b2e4a22ced1a85e0bc9884a8d9f4815eccf8865d7222014c5e392943d6c"), looks := false }, kinds := [], alts := [], laidByText := true, laidKinds := [.data, .data, .data, .data, .data, .data, .data, .pinned], laidTests := true, laidLooks := .later }
def CronShowsCardSaid : Prop := Claim7.holds Tryd.pinned (.plain (OpenSpec.ofChange cronShowsSpec)) cronShowsCard

/-- THE TIED CARD OF 'bywashlaw10.CronParses'. -/
def cronParsesCard : Claim7 := { stood := { row := cronParsesRow, standIns := [], harness := (true, "a91c4b2e4a22ced1a85e0bc9884a8d9f4815eccf8865d7222014c5e392943d6c"), looks := false }, kinds := [], alts := [], laidByText := true, laidKinds := [.data, .data, .data, .data, .data, .pinned], laidTests := true, laidLooks := .later }
def CronParsesCardSaid : Prop := Claim7.holds Tryd.pinned (.plain (OpenSpec.ofChange cronParsesSpec)) cronParsesCard

/-- THE TIED CARD OF 'bywashlaw10.CronMatches'. -/
def cronMatchesCard : Claim7 := { stood := { row := cronMatchesRow, standIns := [], harness := (true, "a91c4b2e4a22ced1a85e0bc9884a8d9f4815eccf8865d7222014c5e392943d6c"), looks := false }, kinds := [], alts := [], laidByText := true, laidKinds := [.data, .data, .data, .data, .data, .pinned], laidTests := true, laidLooks := .later }
def CronMatchesCardSaid : Prop := Claim7.holds Tryd.pinned (.plain (OpenSpec.ofChange cronMatchesSpec)) cronMatchesCard

/-- THE TIED CARD OF 'bywashlaw10.CronNext'. -/
def cronNextCard : Claim7 := { stood := { row := cronNextRow, standIns := [], harness := (true, "a91c4b2e4a22ced1a85e0bc9884a8d9f4815eccf8865d7222014c5e392943d6c"), looks := false }, kinds := [], alts := [], laidByText := true, laidKinds := [.data, .data, .data, .data, .data, .pinned], laidTests := true, laidLooks := .later }
def CronNextCardSaid : Prop := Claim7.holds Tryd.pinned (.plain (OpenSpec.ofChange cronNextSpec)) cronNextCard

/-- THE TIED CARD OF 'bywashlaw10.CronBetween'. -/
def cronBetweenCard : Claim7 := { stood := { row := cronBetweenRow, standIns := [], harness := (true, "a91c4b2e4a22ced1a85e0bc9884a8d9f4815eccf8865d7222014c5e392943d6c"), looks := false }, kinds := [], alts := [], laidByText := true, laidKinds := [.data, .data, .data, .data, .data, .pinned], laidTests := true, laidLooks := .later }
def CronBetweenCardSaid : Prop := Claim7.holds Tryd.pinned (.plain (OpenSpec.ofChange cronBetweenSpec)) cronBetweenCard

/-- THE TIED CARD OF 'bywashlaw10.CronParts'. -/
def cronPartsCard : Claim7 := { stood := { row := cronPartsRow, standIns := [], harness := (true, "a91c4b2e4a22ced1a85e0bc9884a8d9f4815eccf8865d7222014c5e392943d6c"), looks := false }, kinds := [], alts := [], laidByText := true, laidKinds := [.data, .data, .data, .data, .data, .pinned], laidTests := true, laidLooks := .later }
def CronPartsCardSaid : Prop := Claim7.holds Tryd.pinned (.plain (OpenSpec.ofChange cronPartsSpec)) cronPartsCard

/-- THE SECOND FORM's CARD OF 'bywashlaw10.CronShows'. -/
def cronShowsUptoCard : Claim7 := { stood := { row := cronShowsUptoRow, standIns := [], harness := (true, "a91c4b2e4a22ced1a85e0bc9884a8d9f4815eccf8865d7222014c5e392943d6c"), looks := false }, kinds := [], alts := [], laidByText := true, laidKinds := [.data, .data, .data, .data, .data, .data, .data, .pinned], laidTests := true, laidLooks := .later }
def CronShowsUptoCardSaid : Prop := Claim7.holds Tryd.pinned (.plain (OpenSpec.upto cronShowsSpec)) cronShowsUptoCard

/-- THE SECOND FORM's CARD OF 'bywashlaw10.CronParses'. -/
def cronParsesUptoCard : Claim7 := { stood := { row := cronParsesUptoRow, standIns := [], harness := (true, "a91c4b2e4a22ced1a85e0bc9884a8d9f4815eccf8865d7222014c5e392943d6c"), looks := false }, kinds := [], alts := [], laidByText := true, laidKinds := [.data, .data, .data, .data, .data, .pinned], laidTests := true, laidLooks := .later }
def CronParsesUptoCardSaid : Prop := Claim7.holds Tryd.pinned (.plain (OpenSpec.upto cronParsesSpec)) cronParsesUptoCard

/-- THE SECOND FORM's CARD OF 'bywashlaw10.CronMatches'. -/
def cronMatchesUptoCard : Claim7 := { stood := { row := cronMatchesUptoRow, standIns := [], harness := (true, "a91c4b2e4a22ced1a85e0bc9884a8d9f4815eccf8865d7222014c5e392943d6c"), looks := false }, kinds := [], alts := [], laidByText := true, laidKinds := [.data, .data, .data, .data, .data, .pinned], laidTests := true, laidLooks := .later }
def CronMatchesUptoCardSaid : Prop := Claim7.holds Tryd.pinned (.plain (OpenSpec.upto cronMatchesSpec)) cronMatchesUptoCard

/-- THE SECOND FORM's CARD OF 'bywashlaw10.CronNext'. -/
def cronNextUptoCard : Claim7 := { stood := { row := cronNextUptoRow, standIns := [], harness := (true, "a91c4b2e4a22ced1a85e0bc9884a8d9f4815eccf8865d7222014c5e392943d6c"), looks := false }, kinds := [], alts := [], laidByText := true, laidKinds := [.data, .data, .data, .data, .data, .pinned], laidTests := true, laidLooks := .later }
def CronNextUptoCardSaid : Prop := Claim7.holds Tryd.pinned (.plain (OpenSpec.upto cronNextSpec)) cronNextUptoCard

/-- THE SECOND FORM's CARD OF 'bywashlaw10.CronBetween'. -/
def cronBetweenUptoCard : Claim7 := { stood := { row := cronBetweenUptoRow, standIns := [], harness := (true, "a91c4b2e4a22ced1a85e0bc9884a8d9f4815eccf8865d7222014c5e392943d6c"), looks := false }, kinds := [], alts := [], laidByText := true, laidKinds := [.data, .data, .data, .data, .data, .pinned], laidTests := true, laidLooks := .later }
def CronBetweenUptoCardSaid : Prop := Claim7.holds Tryd.pinned (.plain (OpenSpec.upto cronBetweenSpec)) cronBetweenUptoCard

/-- THE SECOND FORM's CARD OF 'bywashlaw10.CronParts'. -/
def cronPartsUptoCard : Claim7 := { stood := { row := cronPartsUptoRow, standIns := [], harness := (true, "a91c4b2e4a22ced1a85e0bc9884a8d9f4815eccf8865d7222014c5e392943d6c"), looks := false }, kinds := [], alts := [], laidByText := true, laidKinds := [.data, .data, .data, .data, .data, .pinned], laidTests := true, laidLooks := .later }
def CronPartsUptoCardSaid : Prop := Claim7.holds Tryd.pinned (.plain (OpenSpec.upto cronPartsSpec)) cronPartsUptoCard
end Rows
end Go.Proofs.YtldbmkmicaihhaaDoor
