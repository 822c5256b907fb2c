/-
  DERIVED. GIVEN WITH THE SEED: THE CARDS: each row of YtblmpaplggnajaaDoorRows.lean that lists a variable, with what it lists TIED to the program's text (the seventh form; the later family's looks); each row that meets fmt, with fmt's text TOLD by the authors' own Lean function (tested against real Go, not proved from fmt's source: count such statements apart). THE CARD IS WHAT COUNTS. Prove the row's statement (the work); the ties are given (YtblmpaplggnajaaDoorTie.lean); close each card by the builder's one call (the guide's Derived/Test/ToyasCard.lean, 'card_holds'). Laid BY PROGRAM, IN A SANDBOX (cutbox-door.mjs). By AI agents, Wed Nov 11 2026. No macro, syntax, notation, axiom, sorry.
-/
import Derived.Test.YtblmpaplggnajaaDoorRows
import GoSem.ClaimSeven
namespace Go.Proofs.YtblmpaplggnajaaDoor
namespace Rows

/-- THE TIED CARD OF 'whispererlaw11.EditbufActs'. -/
def editbufActsCard : Claim7 := { stood := { row := editbufActsRow, standIns := [], harness := (true, "ac2e7ac744326ae80077380cfe767d8eefb36c99a5ca9507f908f9664f2f1ab6"), looks := false }, kinds := [], alts := [], laidByText := true, laidKinds := [.data, .pinned], laidTests := true, laidLooks := .later }
def EditbufActsCardSaid : Prop := Claim7.holds Tryd.pinned (.plain (OpenSpec.ofChange editbufActsSpec)) editbufActsCard

/-- THE TIED CARD OF 'whispererlaw11.EditbufNone'. -/
def editbufNoneCard : Claim7 := { stood := { row := editbufNoneRow, standIns := [], harness := (true, "ac2e7ac744326ae80077380cfe767d8eefb36c99a5ca9507f908f9664f2f1ab6"), looks := false }, kinds := [], alts := [], laidByText := true, laidKinds := [.data, .pinned], laidTests := true, laidLooks := .later }
def EditbufNoneCardSaid : Prop := Claim7.holds Tryd.pinned (.plain (OpenSpec.ofChange editbufNoneSpec)) editbufNoneCard

/-- THE TIED CARD OF 'whispererlaw11.EditbufVacates'. -/
def editbufVacatesCard : Claim7 := { stood := { row := editbufVacatesRow, standIns := [], harness := (true, "ac2e7ac744326ae80077380cfe767d8eefb36c99a5ca9507f908f9664f2f1ab6"), looks := false }, kinds := [], alts := [], laidByText := true, laidKinds := [.data, .pinned], laidTests := true, laidLooks := .later }
def EditbufVacatesCardSaid : Prop := Claim7.holds Tryd.pinned (.plain (OpenSpec.ofChange editbufVacatesSpec)) editbufVacatesCard

/-- THE TIED CARD OF 'whispererlaw11.EditbufKills'. -/
def editbufKillsCard : Claim7 := { stood := { row := editbufKillsRow, standIns := [], harness := (true, "ac2e7ac744326ae80077380cfe767d8eefb36c99a5ca9507f908f9664f2f1ab6"), looks := false }, kinds := [], alts := [], laidByText := true, laidKinds := [.data, .pinned], laidTests := true, laidLooks := .later }
def EditbufKillsCardSaid : Prop := Claim7.holds Tryd.pinned (.plain (OpenSpec.ofChange editbufKillsSpec)) editbufKillsCard

/-- THE TIED CARD OF 'whispererlaw11.EditbufFull'. -/
def editbufFullCard : Claim7 := { stood := { row := editbufFullRow, standIns := [], harness := (true, "ac2e7ac744326ae80077380cfe767d8eefb36c99a5ca9507f908f9664f2f1ab6"), looks := false }, kinds := [], alts := [], laidByText := true, laidKinds := [.data, .pinned], laidTests := true, laidLooks := .later }
def EditbufFullCardSaid : Prop := Claim7.holds Tryd.pinned (.plain (OpenSpec.ofChange editbufFullSpec)) editbufFullCard

/-- THE TIED CARD OF 'whispererlaw11.EditbufMoves'. -/
def editbufMovesCard : Claim7 := { stood := { row := editbufMovesRow, standIns := [], harness := (true, "ac2e7ac744326ae80077380cfe767d8eefb36c99a5ca9507f908f9664f2f1ab6"), looks := false }, kinds := [], alts := [], laidByText := true, laidKinds := [.data, .pinned], laidTests := true, laidLooks := .later }
def EditbufMovesCardSaid : Prop := Claim7.holds Tryd.pinned (.plain (OpenSpec.ofChange editbufMovesSpec)) editbufMovesCard

/-- THE SECOND FORM's CARD OF 'whispererlaw11.EditbufActs'. -/
def editbufActsUptoCard : Claim7 := { stood := { row := editbufActsUptoRow, standIns := [], harness := (true, "ac2e7ac744326ae80077380cfe767d8eefb36c99a5ca9507f908f9664f2f1ab6"), looks := false }, kinds := [], alts := [], laidByText := true, laidKinds := [.data, .pinned], laidTests := true, laidLooks := .later }
def EditbufActsUptoCardSaid : Prop := Claim7.holds Tryd.pinned (.plain (OpenSpec.upto editbufActsSpec)) editbufActsUptoCard

/-- THE SECOND FORM's CARD OF 'whispererlaw11.EditbufNone'. -/
def editbufNoneUptoCard : Claim7 := { stood := { row := editbufNoneUptoRow, standIns := [], harness := (true, "ac2e7ac744326ae80077380cfe767d8eefb36c99a5ca9507f908f9664f2f1ab6"), looks := false }, kinds := [], alts := [], laidByText := true, laidKinds := [.data, .pinned], laidTests := true, laidLooks := .later }
def EditbufNoneUptoCardSaid : Prop := Claim7.holds Tryd.pinned (.plain (OpenSpec.upto editbufNoneSpec)) editbufNoneUptoCard

/-- THE SECOND FORM's CARD OF 'whispererlaw11.EditbufVacates'. -/
def editbufVacatesUptoCard : Claim7 := { stood := { row := editbufVacatesUptoRow, standIns := [], harness := (true, "ac2e7ac744326ae80077380cfe767d8eefb36c99a5ca9507f908f9664f2f1ab6"), looks := false }, kinds := [], alts := [], laidByText := true, laidKinds := [.data, .pinned], laidTests := true, laidLooks := .later }
def EditbufVacatesUptoCardSaid : Prop := Claim7.holds Tryd.pinned (.plain (OpenSpec.upto editbufVacatesSpec)) editbufVacatesUptoCard

/-- THE SECOND FORM's CARD OF 'whispererlaw11.EditbufKills'. -/
def editbufKillsUptoCard : Claim7 := { stood := { row := editbufKillsUptoRow, standIns := [], harness := (true, "ac2e7ac744326ae80077380cfe767d8eefb36c99a5ca9507f908f9664f2f1ab6"), looks := false }, kinds := [], alts := [], laidByText := true, laidKinds := [.data, .pinned], laidTests := true, laidLooks := .later }
def EditbufKillsUptoCardSaid : Prop := Claim7.holds Tryd.pinned (.plain (OpenSpec.upto editbufKillsSpec)) editbufKillsUptoCard

/-- THE SECOND FORM's CARD OF 'whispererlaw11.EditbufFull'. -/
def editbufFullUptoCard : Claim7 := { stood := { row := editbufFullUptoRow, standIns := [], harness := (true, "ac2e7ac744326ae80077380cfe767d8eefb36c99a5ca9507f908f9664f2f1ab6"), looks := false }, kinds := [], alts := [], laidByText := true, laidKinds := [.data, .pinned], laidTests := true, laidLooks := .later }
def EditbufFullUptoCardSaid : Prop := Claim7.holds Tryd.pinned (.plain (OpenSpec.upto editbufFullSpec)) editbufFullUptoCard

/-- THE SECOND FORM's CARD OF 'whispererlaw11.EditbufMoves'. -/
def editbufMovesUptoCard : Claim7 := { stood := { row := editbufMovesUptoRow, standIns := [], harness := (true, "ac2e7ac744326ae80077380cfe767d8eefb36c99a5ca9507f908f9664f2f1ab6"), looks := false }, kinds := [], alts := [], laidByText := true, laidKinds := [.data, .pinned], laidTests := true, laidLooks := .later }
def EditbufMovesUptoCardSaid : Prop := Claim7.holds Tryd.pinned (.plain (OpenSpec.upto editbufMovesSpec)) editbufMovesUptoCard
end Rows
end Go.Proofs.YtblmpaplggnajaaDoor
