/-
  DERIVED. GIVEN WITH THE SEED: THE CARDS: each row of YtddbjcfdmdbmkaaGreatDoorRows.lean that lists a variable, with what it lists TIED to the program's text (the seventh form; the later family's looks); each row that meets fmt, with fmt's text TOLD by the authors' own Lean function (tested against real Go, not proved from fmt's source: count such statements apart). THE CARD IS WHAT COUNTS. Prove the row's statement (the work); the ties are given (YtddbjcfdmdbmkaaGreatDoorTie.lean); close each card by the builder's one call (the guide's Derived/Test/ToyasCard.lean, 'card_holds'). Laid BY PROGRAM, IN A SANDBOX (cutbox-door.mjs). By AI agents, Wed Nov 11 2026. No macro, syntax, notation, axiom, sorry.
-/
import Derived.Test.YtddbjcfdmdbmkaaGreatDoorRows
import GoSem.ClaimSeven
namespace Go.Proofs.YtddbjcfdmdbmkaaGreatDoor
namespace Rows

/-- THE TIED CARD OF 'heraldlaw.Compiles'. -/
def compilesCard : Claim7 := { stood := { row := compilesRow, standIns := [], harness := (true, "75c08ab6eb60ab37e8726de599c9ee395479d9717c9c4489b02cb76e4fee7750"), looks := true }, kinds := [], alts := [], laidByText := true, laidKinds := [.data, .data, .data, .sentinel, .sentinel], laidTests := true, laidLooks := .later }
def CompilesCardSaid : Prop := Claim7.holds Tryz.pinned (.plain (OpenSpec.ofChange compilesSpec)) compilesCard

/-- THE TIED CARD OF 'heraldlaw.Prints'. -/
def printsCard : Claim7 := { stood := { row := printsRow, standIns := [], harness := (true, "75c08ab6eb60ab37e8726de599c9ee395479d9717c9c4489b02cb76e4fee7750"), looks := true }, kinds := [], alts := [], laidByText := true, laidKinds := [.data, .data, .data, .data, .sentinel, .sentinel, .pinned], laidTests := true, laidLooks := .later }
def PrintsCardSaid : Prop := Claim7.holds Tryz.pinned (.plain (OpenSpec.ofChange printsSpec)) printsCard

/-- THE TIED CARD OF 'heraldlaw.Feeds'. -/
def feedsCard : Claim7 := { stood := { row := feedsRow, standIns := [], harness := (true, "75c08ab6eb60ab37e8726de599c9ee395479d9717c9c4489b02cb76e4fee7750"), looks := true }, kinds := [], alts := [], laidByText := true, laidKinds := [.data, .data, .data, .data, .sentinel, .sentinel, .pinned], laidTests := true, laidLooks := .later }
def FeedsCardSaid : Prop := Claim7.holds Tryz.pinned (.plain (OpenSpec.ofChange feedsSpec)) feedsCard

/-- THE TIED CARD OF 'heraldlaw.All'. -/
def allCard : Claim7 := { stood := { row := allRow, standIns := [], harness := (true, "75c08ab6eb60ab37e8726de599c9ee395479d9717c9c4489b02cb76e4fee7750"), looks := true }, kinds := [], alts := [], laidByText := true, laidKinds := [.data, .data, .data, .data, .sentinel, .sentinel, .pinned], laidTests := true, laidLooks := .later }
def AllCardSaid : Prop := Claim7.holds Tryz.pinned (.plain (OpenSpec.ofChange allSpec)) allCard

/-- THE TIED CARD OF 'heraldkeep.Full'. -/
def fullCard : Claim7 := { stood := { row := fullRow, standIns := [], harness := (true, "75c08ab6eb60ab37e8726de599c9ee395479d9717c9c4489b02cb76e4fee7750"), looks := true }, kinds := [], alts := [], laidByText := true, laidKinds := [.data, .data, .data, .sentinel, .sentinel], laidTests := true, laidLooks := .later }
def FullCardSaid : Prop := Claim7.holds Tryz.pinned (.plain (OpenSpec.ofChange fullSpec)) fullCard

/-- THE TIED CARD OF 'heraldkeep.Bounded'. -/
def boundedCard : Claim7 := { stood := { row := boundedRow, standIns := [], harness := (true, "75c08ab6eb60ab37e8726de599c9ee395479d9717c9c4489b02cb76e4fee7750"), looks := true }, kinds := [], alts := [], laidByText := true, laidKinds := [.data, .data, .data, .sentinel, .sentinel], laidTests := true, laidLooks := .later }
def BoundedCardSaid : Prop := Claim7.holds Tryz.pinned (.plain (OpenSpec.ofChange boundedSpec)) boundedCard

/-- THE TIED CARD OF 'heraldkeep.Either'. -/
def eitherCard : Claim7 := { stood := { row := eitherRow, standIns := [], harness := (true, "75c08ab6eb60ab37e8726de599c9ee395479d9717c9c4489b02cb76e4fee7750"), looks := true }, kinds := [], alts := [], laidByText := true, laidKinds := [.data, .data, .data, .sentinel, .sentinel], laidTests := true, laidLooks := .later }
def EitherCardSaid : Prop := Claim7.holds Tryz.pinned (.plain (OpenSpec.ofChange eitherSpec)) eitherCard

/-- THE TIED CARD OF 'heraldkeep.Often'. -/
def oftenCard : Claim7 := { stood := { row := oftenRow, standIns := [], harness := (true, "75c08ab6eb60ab37e8726de599c9ee395479d9717c9c4489b02cb76e4fee7750"), looks := true }, kinds := [], alts := [], laidByText := true, laidKinds := [.data, .data, .data, .sentinel, .sentinel], laidTests := true, laidLooks := .later }
def OftenCardSaid : Prop := Claim7.holds Tryz.pinned (.plain (OpenSpec.ofChange oftenSpec)) oftenCard

/-- THE TIED CARD OF 'heraldkeep.Guarded'. -/
def guardedCard : Claim7 := { stood := { row := guardedRow, standIns := [], harness := (true, "75c08ab6eb60ab37e8726de599c9ee395479d9717c9c4489b02cb76e4fee7750"), looks := true }, kinds := [], alts := [], laidByText := true, laidKinds := [.data, .data, .data, .sentinel, .sentinel], laidTests := true, laidLooks := .later }
def GuardedCardSaid : Prop := Claim7.holds Tryz.pinned (.plain (OpenSpec.ofChange guardedSpec)) guardedCard

/-- THE TIED CARD OF 'heraldkeep.Printed'. -/
def printedCard : Claim7 := { stood := { row := printedRow, standIns := [], harness := (true, "75c08ab6eb60ab37e8726de599c9ee395479d9717c9c4489b02cb76e4fee7750"), looks := true }, kinds := [], alts := [], laidByText := true, laidKinds := [.data, .data, .data, .data, .sentinel, .sentinel, .pinned], laidTests := true, laidLooks := .later }
def PrintedCardSaid : Prop := Claim7.holds Tryz.pinned (.plain (OpenSpec.ofChange printedSpec)) printedCard

/-- THE TIED CARD OF 'heraldkeep.Shifted'. -/
def shiftedCard : Claim7 := { stood := { row := shiftedRow, standIns := [], harness := (true, "75c08ab6eb60ab37e8726de599c9ee395479d9717c9c4489b02cb76e4fee7750"), looks := true }, kinds := [], alts := [], laidByText := true, laidKinds := [.data, .data, .data, .sentinel, .sentinel], laidTests := true, laidLooks := .later }
def ShiftedCardSaid : Prop := Claim7.holds Tryz.pinned (.plain (OpenSpec.ofChange shiftedSpec)) shiftedCard

/-- THE TIED CARD OF 'heraldkeep.Reckoned'. -/
def reckonedCard : Claim7 := { stood := { row := reckonedRow, standIns := [], harness := (true, "75c08ab6eb60ab37e8726de599c9ee395479d9717c9c4489b02cb76e4fee7750"), looks := true }, kinds := [], alts := [], laidByText := true, laidKinds := [.data, .data, .data, .sentinel, .sentinel], laidTests := true, laidLooks := .later }
def ReckonedCardSaid : Prop := Claim7.holds Tryz.pinned (.plain (OpenSpec.ofChange reckonedSpec)) reckonedCard

/-- THE SECOND FORM's CARD OF 'heraldlaw.Compiles'. -/
def compilesUptoCard : Claim7 := { stood := { row := compilesUptoRow, standIns := [], harness := (true, "75c08ab6eb60ab37e8726de599c9ee395479d9717c9c4489b02cb76e4fee7750"), looks := true }, kinds := [], alts := [], laidByText := true, laidKinds := [.data, .data, .data, .sentinel, .sentinel], laidTests := true, laidLooks := .later }
def CompilesUptoCardSaid : Prop := Claim7.holds Tryz.pinned (.plain (OpenSpec.upto compilesSpec)) compilesUptoCard

/-- THE SECOND FORM's CARD OF 'heraldlaw.Prints'. -/
def printsUptoCard : Claim7 := { stood := { row := printsUptoRow, standIns := [], harness := (true, "75c08ab6eb60ab37e8726de599c9ee395479d9717c9c4489b02cb76e4fee7750"), looks := true }, kinds := [], alts := [], laidByText := true, laidKinds := [.data, .data, .data, .data, .sentinel, .sentinel, .pinned], laidTests := true, laidLooks := .later }
def PrintsUptoCardSaid : Prop := Claim7.holds Tryz.pinned (.plain (OpenSpec.upto printsSpec)) printsUptoCard

/-- THE SECOND FORM's CARD OF 'heraldlaw.Feeds'. -/
def feedsUptoCard : Claim7 := { stood := { row := feedsUptoRow, standIns := [], harness := (true, "75c08ab6eb60ab37e8726de599c9ee395479d9717c9c4489b02cb76e4fee7750"), looks := true }, kinds := [], alts := [], laidByText := true, laidKinds := [.data, .data, .data, .data, .sentinel, .sentinel, .pinned], laidTests := true, laidLooks := .later }
def FeedsUptoCardSaid : Prop := Claim7.holds Tryz.pinned (.plain (OpenSpec.upto feedsSpec)) feedsUptoCard

/-- THE SECOND FORM's CARD OF 'heraldlaw.All'. -/
def allUptoCard : Claim7 := { stood := { row := allUptoRow, standIns := [], harness := (true, "75c08ab6eb60ab37e8726de599c9ee395479d9717c9c4489b02cb76e4fee7750"), looks := true }, kinds := [], alts := [], laidByText := true, laidKinds := [.data, .data, .data, .data, .sentinel, .sentinel, .pinned], laidTests := true, laidLooks := .later }
def AllUptoCardSaid : Prop := Claim7.holds Tryz.pinned (.plain (OpenSpec.upto allSpec)) allUptoCard

/-- THE SECOND FORM's CARD OF 'heraldkeep.Full'. -/
def fullUptoCard : Claim7 := { stood := { row := fullUptoRow, standIns := [], harness := (true, "75c08ab6eb60ab37e8726de599c9ee395479d9717c9c4489b02cb76e4fee7750"), looks := true }, kinds := [], alts := [], laidByText := true, laidKinds := [.data, .data, .data, .sentinel, .sentinel], laidTests := true, laidLooks := .later }
def FullUptoCardSaid : Prop := Claim7.holds Tryz.pinned (.plain (OpenSpec.upto fullSpec)) fullUptoCard

/-- THE SECOND FORM's CARD OF 'heraldkeep.Bounded'. -/
def boundedUptoCard : Claim7 := { stood := { row := boundedUptoRow, standIns := [], harness := (true, "75c08ab6eb60ab37e8726de599c9ee395479d9717c9c4489b02cb76e4fee7750"), looks := true }, kinds := [], alts := [], laidByText := true, laidKinds := [.data, .data, .data, .sentinel, .sentinel], laidTests := true, laidLooks := .later }
def BoundedUptoCardSaid : Prop := Claim7.holds Tryz.pinned (.plain (OpenSpec.upto boundedSpec)) boundedUptoCard

/-- THE SECOND FORM's CARD OF 'heraldkeep.Either'. -/
def eitherUptoCard : Claim7 := { stood := { row := eitherUptoRow, standIns := [], harness := (true, "75c08ab6eb60ab37e8726de599c9ee395479d9717c9c4489b02cb76e4fee7750"), looks := true }, kinds := [], alts := [], laidByText := true, laidKinds := [.data, .data, .data, .sentinel, .sentinel], laidTests := true, laidLooks := .later }
def EitherUptoCardSaid : Prop := Claim7.holds Tryz.pinned (.plain (OpenSpec.upto eitherSpec)) eitherUptoCard

/-- THE SECOND FORM's CARD OF 'heraldkeep.Often'. -/
def oftenUptoCard : Claim7 := { stood := { row := oftenUptoRow, standIns := [], harness := (true, "75c08ab6eb60ab37e8726de599c9ee395479d9717c9c4489b02cb76e4fee7750"), looks := true }, kinds := [], alts := [], laidByText := true, laidKinds := [.data, .data, .data, .sentinel, .sentinel], laidTests := true, laidLooks := .later }
def OftenUptoCardSaid : Prop := Claim7.holds Tryz.pinned (.plain (OpenSpec.upto oftenSpec)) oftenUptoCard

/-- THE SECOND FORM's CARD OF 'heraldkeep.Guarded'. -/
def guardedUptoCard : Claim7 := { stood := { row := guardedUptoRow, standIns := [], harness := (true, "75c08ab6eb60ab37e8726de599c9ee395479d9717c9c4489b02cb76e4fee7750"), looks := true }, kinds := [], alts := [], laidByText := true, laidKinds := [.data, .data, .data, .sentinel, .sentinel], laidTests := true, laidLooks := .later }
def GuardedUptoCardSaid : Prop := Claim7.holds Tryz.pinned (.plain (OpenSpec.upto guardedSpec)) guardedUptoCard

/-- THE SECOND FORM's CARD OF 'heraldkeep.Printed'. -/
def printedUptoCard : Claim7 := { stood := { row := printedUptoRow, standIns := [], harness := (true, "75c08ab6eb60ab37e8726de599c9ee395479d9717c9c4489b02cb76e4fee7750"), looks := true }, kinds := [], alts := [], laidByText := true, laidKinds := [.data, .data, .data, .data, .sentinel, .sentinel, .pinned], laidTests := true, laidLooks := .later }
def PrintedUptoCardSaid : Prop := Claim7.holds Tryz.pinned (.plain (OpenSpec.upto printedSpec)) printedUptoCard

/-- THE SECOND FORM's CARD OF 'heraldkeep.Shifted'. -/
def shiftedUptoCard : Claim7 := { stood := { row := shiftedUptoRow, standIns := [], harness := (true, "75c08ab6eb60ab37e8726de599c9ee395479d9717c9c4489b02cb76e4fee7750"), looks := true }, kinds := [], alts := [], laidByText := true, laidKinds := [.data, .data, .data, .sentinel, .sentinel], laidTests := true, laidLooks := .later }
def ShiftedUptoCardSaid : Prop := Claim7.holds Tryz.pinned (.plain (OpenSpec.upto shiftedSpec)) shiftedUptoCard

/-- THE SECOND FORM's CARD OF 'heraldkeep.Reckoned'. -/
def reckonedUptoCard : Claim7 := { stood := { row := reckonedUptoRow, standIns := [], harness := (true, "75c08ab6eb60ab37e8726de599c9ee395479d9717c9c4489b02cb76e4fee7750"), looks := true }, kinds := [], alts := [], laidByText := true, laidKinds := [.data, .data, .data, .sentinel, .sentinel], laidTests := true, laidLooks := .later }
def ReckonedUptoCardSaid : Prop := Claim7.holds Tryz.pinned (.plain (OpenSpec.upto reckonedSpec)) reckonedUptoCard
end Rows
end Go.Proofs.YtddbjcfdmdbmkaaGreatDoor
