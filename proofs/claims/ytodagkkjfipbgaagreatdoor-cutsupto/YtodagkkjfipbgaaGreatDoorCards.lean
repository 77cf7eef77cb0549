/-
  DERIVED. GIVEN WITH THE SEED: THE CARDS: each row of YtodagkkjfipbgaaGreatDoorRows.lean that lists a variable, with what it lists TIED to the program's text (the seventh form; the later family's looks); each row that meets fmt, with fmt's text TOLD by the authors' own Lean function (tested against real Go, not proved from fmt's source: count such statements apart). THE CARD IS WHAT COUNTS. Prove the row's statement (the work); the ties are given (YtodagkkjfipbgaaGreatDoorTie.lean); close each card by the builder's one call (the guide's Derived/Test/ToyasCard.lean, 'card_holds'). Laid BY PROGRAM, IN A SANDBOX (cutbox-door.mjs). By AI agents, Wed Nov 11 2026. No macro, syntax, notation, axiom, sorry.
-/
import Derived.Test.YtodagkkjfipbgaaGreatDoorRows
import GoSem.ClaimSeven
namespace Go.Proofs.YtodagkkjfipbgaaGreatDoor
namespace Rows

/-- THE TIED CARD OF 'cleavelaw.Compiles'. -/
def compilesCard : Claim7 := { stood := { row := compilesRow, standIns := [], harness := (true, "0eca4d943396bbeb993c75ead332384aea73429a5a59be311f17d89518fa93fc"), looks := true }, kinds := [], alts := [], laidByText := true, laidKinds := [.data, .data, .data, .wider, .sentinel, .sentinel], laidTests := true, laidLooks := .later }
def CompilesCardSaid : Prop := Claim7.holds Tryz.pinned (.plain (OpenSpec.ofChange compilesSpec)) compilesCard

/-- THE TIED CARD OF 'cleavelaw.Cuts'. -/
def cutsCard : Claim7 := { stood := { row := cutsRow, standIns := [], harness := (true, "0eca4d943396bbeb993c75ead332384aea73429a5a59be311f17d89518fa93fc"), looks := true }, kinds := [], alts := [], laidByText := true, laidKinds := [.data, .data, .data, .data, .wider, .sentinel, .sentinel, .pinned], laidTests := true, laidLooks := .later }
def CutsCardSaid : Prop := Claim7.holds Tryz.pinned (.plain (OpenSpec.ofChange cutsSpec)) cutsCard

/-- THE TIED CARD OF 'cleavekeep.Whole'. -/
def wholeCard : Claim7 := { stood := { row := wholeRow, standIns := [], harness := (true, "0eca4d943396bbeb993c75ead332384aea73429a5a59be311f17d89518fa93fc"), looks := true }, kinds := [], alts := [], laidByText := true, laidKinds := [.data, .data, .data, .data, .wider, .sentinel, .sentinel, .pinned], laidTests := true, laidLooks := .later }
def WholeCardSaid : Prop := Claim7.holds Tryz.pinned (.plain (OpenSpec.ofChange wholeSpec)) wholeCard

/-- THE TIED CARD OF 'cleavekeep.Known'. -/
def knownCard : Claim7 := { stood := { row := knownRow, standIns := [], harness := (true, "0eca4d943396bbeb993c75ead332384aea73429a5a59be311f17d89518fa93fc"), looks := true }, kinds := [], alts := [], laidByText := true, laidKinds := [.data, .data, .data, .data, .wider, .sentinel, .sentinel, .pinned], laidTests := true, laidLooks := .later }
def KnownCardSaid : Prop := Claim7.holds Tryz.pinned (.plain (OpenSpec.ofChange knownSpec)) knownCard

/-- THE TIED CARD OF 'cleavelaw.Delays'. -/
def delaysCard : Claim7 := { stood := { row := delaysRow, standIns := [], harness := (true, "0eca4d943396bbeb993c75ead332384aea73429a5a59be311f17d89518fa93fc"), looks := true }, kinds := [], alts := [], laidByText := true, laidKinds := [.data, .data, .data, .data, .wider, .sentinel, .sentinel, .pinned], laidTests := true, laidLooks := .later }
def DelaysCardSaid : Prop := Claim7.holds Tryz.pinned (.plain (OpenSpec.ofChange delaysSpec)) delaysCard

/-- THE TIED CARD OF 'cleavelaw.Streams'. -/
def streamsCard : Claim7 := { stood := { row := streamsRow, standIns := [], harness := (true, "0eca4d943396bbeb993c75ead332384aea73429a5a59be311f17d89518fa93fc"), looks := true }, kinds := [], alts := [], laidByText := true, laidKinds := [.data, .data, .data, .data, .wider, .sentinel, .sentinel, .pinned], laidTests := true, laidLooks := .later }
def StreamsCardSaid : Prop := Claim7.holds Tryz.pinned (.plain (OpenSpec.ofChange streamsSpec)) streamsCard

/-- THE TIED CARD OF 'cleavekeep.Pieces'. -/
def piecesCard : Claim7 := { stood := { row := piecesRow, standIns := [], harness := (true, "0eca4d943396bbeb993c75ead332384aea73429a5a59be311f17d89518fa93fc"), looks := true }, kinds := [], alts := [], laidByText := true, laidKinds := [.data, .data, .data, .data, .wider, .sentinel, .sentinel, .pinned], laidTests := true, laidLooks := .later }
def PiecesCardSaid : Prop := Claim7.holds Tryz.pinned (.plain (OpenSpec.ofChange piecesSpec)) piecesCard

/-- THE TIED CARD OF 'cleavekeep.Safe'. -/
def safeCard : Claim7 := { stood := { row := safeRow, standIns := [], harness := (true, "0eca4d943396bbeb993c75ead332384aea73429a5a59be311f17d89518fa93fc"), looks := true }, kinds := [], alts := [], laidByText := true, laidKinds := [.data, .data, .data, .data, .wider, .sentinel, .sentinel, .pinned], laidTests := true, laidLooks := .later }
def SafeCardSaid : Prop := Claim7.holds Tryz.pinned (.plain (OpenSpec.ofChange safeSpec)) safeCard

/-- THE TIED CARD OF 'cleavekeep.Prompt'. -/
def promptCard : Claim7 := { stood := { row := promptRow, standIns := [], harness := (true, "0eca4d943396bbeb993c75ead332384aea73429a5a59be311f17d89518fa93fc"), looks := true }, kinds := [], alts := [], laidByText := true, laidKinds := [.data, .data, .data, .data, .wider, .sentinel, .sentinel, .pinned], laidTests := true, laidLooks := .later }
def PromptCardSaid : Prop := Claim7.holds Tryz.pinned (.plain (OpenSpec.ofChange promptSpec)) promptCard

/-- THE TIED CARD OF 'cleavekeep.Late'. -/
def lateCard : Claim7 := { stood := { row := lateRow, standIns := [], harness := (true, "0eca4d943396bbeb993c75ead332384aea73429a5a59be311f17d89518fa93fc"), looks := true }, kinds := [], alts := [], laidByText := true, laidKinds := [.data, .data, .data, .data, .wider, .sentinel, .sentinel, .pinned], laidTests := true, laidLooks := .later }
def LateCardSaid : Prop := Claim7.holds Tryz.pinned (.plain (OpenSpec.ofChange lateSpec)) lateCard

/-- THE TIED CARD OF 'cleavekeep.Counted'. -/
def countedCard : Claim7 := { stood := { row := countedRow, standIns := [], harness := (true, "0eca4d943396bbeb993c75ead332384aea73429a5a59be311f17d89518fa93fc"), looks := true }, kinds := [], alts := [], laidByText := true, laidKinds := [.data, .data, .data, .data, .wider, .sentinel, .sentinel, .pinned], laidTests := true, laidLooks := .later }
def CountedCardSaid : Prop := Claim7.holds Tryz.pinned (.plain (OpenSpec.ofChange countedSpec)) countedCard

/-- THE SECOND FORM's CARD OF 'cleavelaw.Compiles'. -/
def compilesUptoCard : Claim7 := { stood := { row := compilesUptoRow, standIns := [], harness := (true, "0eca4d943396bbeb993c75ead332384aea73429a5a59be311f17d89518fa93fc"), looks := true }, kinds := [], alts := [], laidByText := true, laidKinds := [.data, .data, .data, .wider, .sentinel, .sentinel], laidTests := true, laidLooks := .later }
def CompilesUptoCardSaid : Prop := Claim7.holds Tryz.pinned (.plain (OpenSpec.upto compilesSpec)) compilesUptoCard

/-- THE SECOND FORM's CARD OF 'cleavelaw.Cuts'. -/
def cutsUptoCard : Claim7 := { stood := { row := cutsUptoRow, standIns := [], harness := (true, "0eca4d943396bbeb993c75ead332384aea73429a5a59be311f17d89518fa93fc"), looks := true }, kinds := [], alts := [], laidByText := true, laidKinds := [.data, .data, .data, .data, .wider, .sentinel, .sentinel, .pinned], laidTests := true, laidLooks := .later }
def CutsUptoCardSaid : Prop := Claim7.holds Tryz.pinned (.plain (OpenSpec.upto cutsSpec)) cutsUptoCard

/-- THE SECOND FORM's CARD OF 'cleavekeep.Whole'. -/
def wholeUptoCard : Claim7 := { stood := { row := wholeUptoRow, standIns := [], harness := (true, "0eca4d943396bbeb993c75ead332384aea73429a5a59be311f17d89518fa93fc"), looks := true }, kinds := [], alts := [], laidByText := true, laidKinds := [.data, .data, .data, .data, .wider, .sentinel, .sentinel, .pinned], laidTests := true, laidLooks := .later }
def WholeUptoCardSaid : Prop := Claim7.holds Tryz.pinned (.plain (OpenSpec.upto wholeSpec)) wholeUptoCard

/-- THE SECOND FORM's CARD OF 'cleavekeep.Known'. -/
def knownUptoCard : Claim7 := { stood := { row := knownUptoRow, standIns := [], harness := (true, "0eca4d943396bbeb993c75ead332384aea73429a5a59be311f17d89518fa93fc"), looks := true }, kinds := [], alts := [], laidByText := true, laidKinds := [.data, .data, .data, .data, .wider, .sentinel, .sentinel, .pinned], laidTests := true, laidLooks := .later }
def KnownUptoCardSaid : Prop := Claim7.holds Tryz.pinned (.plain (OpenSpec.upto knownSpec)) knownUptoCard

/-- THE SECOND FORM's CARD OF 'cleavelaw.Delays'. -/
def delaysUptoCard : Claim7 := { stood := { row := delaysUptoRow, standIns := [], harness := (true, "0eca4d943396bbeb993c75ead332384aea73429a5a59be311f17d89518fa93fc"), looks := true }, kinds := [], alts := [], laidByText := true, laidKinds := [.data, .data, .data, .data, .wider, .sentinel, .sentinel, .pinned], laidTests := true, laidLooks := .later }
def DelaysUptoCardSaid : Prop := Claim7.holds Tryz.pinned (.plain (OpenSpec.upto delaysSpec)) delaysUptoCard

/-- THE SECOND FORM's CARD OF 'cleavelaw.Streams'. -/
def streamsUptoCard : Claim7 := { stood := { row := streamsUptoRow, standIns := [], harness := (true, "0eca4d943396bbeb993c75ead332384aea73429a5a59be311f17d89518fa93fc"), looks := true }, kinds := [], alts := [], laidByText := true, laidKinds := [.data, .data, .data, .data, .wider, .sentinel, .sentinel, .pinned], laidTests := true, laidLooks := .later }
def StreamsUptoCardSaid : Prop := Claim7.holds Tryz.pinned (.plain (OpenSpec.upto streamsSpec)) streamsUptoCard

/-- THE SECOND FORM's CARD OF 'cleavekeep.Pieces'. -/
def piecesUptoCard : Claim7 := { stood := { row := piecesUptoRow, standIns := [], harness := (true, "0eca4d943396bbeb993c75ead332384aea73429a5a59be311f17d89518fa93fc"), looks := true }, kinds := [], alts := [], laidByText := true, laidKinds := [.data, .data, .data, .data, .wider, .sentinel, .sentinel, .pinned], laidTests := true, laidLooks := .later }
def PiecesUptoCardSaid : Prop := Claim7.holds Tryz.pinned (.plain (OpenSpec.upto piecesSpec)) piecesUptoCard

/-- THE SECOND FORM's CARD OF 'cleavekeep.Safe'. -/
def safeUptoCard : Claim7 := { stood := { row := safeUptoRow, standIns := [], harness := (true, "0eca4d943396bbeb993c75ead332384aea73429a5a59be311f17d89518fa93fc"), looks := true }, kinds := [], alts := [], laidByText := true, laidKinds := [.data, .data, .data, .data, .wider, .sentinel, .sentinel, .pinned], laidTests := true, laidLooks := .later }
def SafeUptoCardSaid : Prop := Claim7.holds Tryz.pinned (.plain (OpenSpec.upto safeSpec)) safeUptoCard

/-- THE SECOND FORM's CARD OF 'cleavekeep.Prompt'. -/
def promptUptoCard : Claim7 := { stood := { row := promptUptoRow, standIns := [], harness := (true, "0eca4d943396bbeb993c75ead332384aea73429a5a59be311f17d89518fa93fc"), looks := true }, kinds := [], alts := [], laidByText := true, laidKinds := [.data, .data, .data, .data, .wider, .sentinel, .sentinel, .pinned], laidTests := true, laidLooks := .later }
def PromptUptoCardSaid : Prop := Claim7.holds Tryz.pinned (.plain (OpenSpec.upto promptSpec)) promptUptoCard

/-- THE SECOND FORM's CARD OF 'cleavekeep.Late'. -/
def lateUptoCard : Claim7 := { stood := { row := lateUptoRow, standIns := [], harness := (true, "0eca4d943396bbeb993c75ead332384aea73429a5a59be311f17d89518fa93fc"), looks := true }, kinds := [], alts := [], laidByText := true, laidKinds := [.data, .data, .data, .data, .wider, .sentinel, .sentinel, .pinned], laidTests := true, laidLooks := .later }
def LateUptoCardSaid : Prop := Claim7.holds Tryz.pinned (.plain (OpenSpec.upto lateSpec)) lateUptoCard

/-- THE SECOND FORM's CARD OF 'cleavekeep.Counted'. -/
def countedUptoCard : Claim7 := { stood := { row := countedUptoRow, standIns := [], harness := (true, "0eca4d943396bbeb993c75ead332384aea73429a5a59be311f17d89518fa93fc"), looks := true }, kinds := [], alts := [], laidByText := true, laidKinds := [.data, .data, .data, .data, .wider, .sentinel, .sentinel, .pinned], laidTests := true, laidLooks := .later }
def CountedUptoCardSaid : Prop := Claim7.holds Tryz.pinned (.plain (OpenSpec.upto countedSpec)) countedUptoCard
end Rows
end Go.Proofs.YtodagkkjfipbgaaGreatDoor
