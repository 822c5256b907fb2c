/-
  DERIVED. GIVEN WITH THE SEED: THE CARDS: each row of YtdaenaoagejgeaaDoorRows.lean that lists a variable, with what it lists TIED to the program's text (the seventh form; the later family's looks); each row that meets fmt, with fmt's text TOLD by the authors' own Lean function (tested against real Go, not proved from fmt's source: count such statements apart). THE CARD IS WHAT COUNTS. Prove the row's statement (the work); the ties are given (YtdaenaoagejgeaaDoorTie.lean); close each card by the builder's one call (the guide's Derived/Test/ToyasCard.lean, 'card_holds'). Laid BY PROGRAM, IN A SANDBOX (cutbox-door.mjs). By AI agents, Wed Nov 11 2026. No macro, syntax, notation, axiom, sorry.
-/
import Derived.Test.YtdaenaoagejgeaaDoorRows
import GoSem.ClaimSeven
namespace Go.Proofs.YtdaenaoagejgeaaDoor
namespace Rows

/-- THE TIED CARD OF 'whispererlaw14.ScreenShows'. -/
def screenShowsCard : Claim7 := { stood := { row := screenShowsRow, standIns := [], harness := (true, "95c26d023cd65c7ef362470548b19d30da8fcc01e6d425b47967ee01a37a4abc"), looks := true }, kinds := [], alts := [], laidByText := true, laidKinds := [.data, .data, .data, .data, .sentinel, .sentinel, .pinned], laidTests := true, laidLooks := .later }
def ScreenShowsCardSaid : Prop := Claim7.holds Tryd.pinned (.plain (OpenSpec.ofChange screenShowsSpec)) screenShowsCard

/-- THE TIED CARD OF 'whispererlaw14.ScreenNone'. -/
def screenNoneCard : Claim7 := { stood := { row := screenNoneRow, standIns := [], harness := (true, "95c26d023cd65c7ef362470548b19d30da8fcc01e6d425b47967ee01a37a4abc"), looks := true }, kinds := [], alts := [], laidByText := true, laidKinds := [.data, .data, .data, .data, .sentinel, .sentinel, .pinned], laidTests := true, laidLooks := .later }
def ScreenNoneCardSaid : Prop := Claim7.holds Tryd.pinned (.plain (OpenSpec.ofChange screenNoneSpec)) screenNoneCard

/-- THE TIED CARD OF 'whispererlaw14.ScreenPieces'. -/
def screenPiecesCard : Claim7 := { stood := { row := screenPiecesRow, standIns := [], harness := (true, "95c26d023cd65c7ef362470548b19d30da8fcc01e6d425b47967ee01a37a4abc"), looks := true }, kinds := [], alts := [], laidByText := true, laidKinds := [.data, .data, .data, .data, .sentinel, .sentinel, .pinned], laidTests := true, laidLooks := .later }
def ScreenPiecesCardSaid : Prop := Claim7.holds Tryd.pinned (.plain (OpenSpec.ofChange screenPiecesSpec)) screenPiecesCard

/-- THE TIED CARD OF 'whispererlaw14.ScreenSigns'. -/
def screenSignsCard : Claim7 := { stood := { row := screenSignsRow, standIns := [], harness := (true, "95c26d023cd65c7ef362470548b19d30da8fcc01e6d425b47967ee01a37a4abc"), looks := true }, kinds := [], alts := [], laidByText := true, laidKinds := [.data, .data, .data, .data, .sentinel, .sentinel, .pinned], laidTests := true, laidLooks := .later }
def ScreenSignsCardSaid : Prop := Claim7.holds Tryd.pinned (.plain (OpenSpec.ofChange screenSignsSpec)) screenSignsCard

/-- THE TIED CARD OF 'whispererlaw14.ScreenTyped'. -/
def screenTypedCard : Claim7 := { stood := { row := screenTypedRow, standIns := [], harness := (true, "95c26d023cd65c7ef362470548b19d30da8fcc01e6d425b47967ee01a37a4abc"), looks := true }, kinds := [], alts := [], laidByText := true, laidKinds := [.data, .data, .data, .data, .sentinel, .sentinel, .pinned], laidTests := true, laidLooks := .later }
def ScreenTypedCardSaid : Prop := Claim7.holds Tryd.pinned (.plain (OpenSpec.ofChange screenTypedSpec)) screenTypedCard

/-- THE TIED CARD OF 'whispererlaw14.ScreenBacks'. -/
def screenBacksCard : Claim7 := { stood := { row := screenBacksRow, standIns := [], harness := (true, "95c26d023cd65c7ef362470548b19d30da8fcc01e6d425b47967ee01a37a4abc"), looks := true }, kinds := [], alts := [], laidByText := true, laidKinds := [.data, .data, .data, .data, .sentinel, .sentinel, .pinned], laidTests := true, laidLooks := .later }
def ScreenBacksCardSaid : Prop := Claim7.holds Tryd.pinned (.plain (OpenSpec.ofChange screenBacksSpec)) screenBacksCard

/-- THE SECOND FORM's CARD OF 'whispererlaw14.ScreenShows'. -/
def screenShowsUptoCard : Claim7 := { stood := { row := screenShowsUptoRow, standIns := [], harness := (true, "95c26d023cd65c7ef362470548b19d30da8fcc01e6d425b47967ee01a37a4abc"), looks := true }, kinds := [], alts := [], laidByText := true, laidKinds := [.data, .data, .data, .data, .sentinel, .sentinel, .pinned], laidTests := true, laidLooks := .later }
def ScreenShowsUptoCardSaid : Prop := Claim7.holds Tryd.pinned (.plain (OpenSpec.upto screenShowsSpec)) screenShowsUptoCard

/-- THE SECOND FORM's CARD OF 'whispererlaw14.ScreenNone'. -/
def screenNoneUptoCard : Claim7 := { stood := { row := screenNoneUptoRow, standIns := [], harness := (true, "95c26d023cd65c7ef362470548b19d30da8fcc01e6d425b47967ee01a37a4abc"), looks := true }, kinds := [], alts := [], laidByText := true, laidKinds := [.data, .data, .data, .data, .sentinel, .sentinel, .pinned], laidTests := true, laidLooks := .later }
def ScreenNoneUptoCardSaid : Prop := Claim7.holds Tryd.pinned (.plain (OpenSpec.upto screenNoneSpec)) screenNoneUptoCard

/-- THE SECOND FORM's CARD OF 'whispererlaw14.ScreenPieces'. -/
def screenPiecesUptoCard : Claim7 := { stood := { row := screenPiecesUptoRow, standIns := [], harness := (true, "95c26d023cd65c7ef362470548b19d30da8fcc01e6d425b47967ee01a37a4abc"), looks := true }, kinds := [], alts := [], laidByText := true, laidKinds := [.data, .data, .data, .data, .sentinel, .sentinel, .pinned], laidTests := true, laidLooks := .later }
def ScreenPiecesUptoCardSaid : Prop := Claim7.holds Tryd.pinned (.plain (OpenSpec.upto screenPiecesSpec)) screenPiecesUptoCard

/-- THE SECOND FORM's CARD OF 'whispererlaw14.ScreenSigns'. -/
def screenSignsUptoCard : Claim7 := { stood := { row := screenSignsUptoRow, standIns := [], harness := (true, "95c26d023cd65c7ef362470548b19d30da8fcc01e6d425b47967ee01a37a4abc"), looks := true }, kinds := [], alts := [], laidByText := true, laidKinds := [.data, .data, .data, .data, .sentinel, .sentinel, .pinned], laidTests := true, laidLooks := .later }
def ScreenSignsUptoCardSaid : Prop := Claim7.holds Tryd.pinned (.plain (OpenSpec.upto screenSignsSpec)) screenSignsUptoCard

/-- THE SECOND FORM's CARD OF 'whispererlaw14.ScreenTyped'. -/
def screenTypedUptoCard : Claim7 := { stood := { row := screenTypedUptoRow, standIns := [], harness := (true, "95c26d023cd65c7ef362470548b19d30da8fcc01e6d425b47967ee01a37a4abc"), looks := true }, kinds := [], alts := [], laidByText := true, laidKinds := [.data, .data, .data, .data, .sentinel, .sentinel, .pinned], laidTests := true, laidLooks := .later }
def ScreenTypedUptoCardSaid : Prop := Claim7.holds Tryd.pinned (.plain (OpenSpec.upto screenTypedSpec)) screenTypedUptoCard

/-- THE SECOND FORM's CARD OF 'whispererlaw14.ScreenBacks'. -/
def screenBacksUptoCard : Claim7 := { stood := { row := screenBacksUptoRow, standIns := [], harness := (true, "95c26d023cd65c7ef362470548b19d30da8fcc01e6d425b47967ee01a37a4abc"), looks := true }, kinds := [], alts := [], laidByText := true, laidKinds := [.data, .data, .data, .data, .sentinel, .sentinel, .pinned], laidTests := true, laidLooks := .later }
def ScreenBacksUptoCardSaid : Prop := Claim7.holds Tryd.pinned (.plain (OpenSpec.upto screenBacksSpec)) screenBacksUptoCard
end Rows
end Go.Proofs.YtdaenaoagejgeaaDoor
