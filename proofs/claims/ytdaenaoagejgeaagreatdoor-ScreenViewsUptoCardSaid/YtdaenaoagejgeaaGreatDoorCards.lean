/-
  DERIVED. GIVEN WITH THE SEED: THE CARDS: each row of YtdaenaoagejgeaaGreatDoorRows.lean that lists a variable, with what it lists TIED to the program's text (the seventh form; the later family's looks); each row that meets fmt, with fmt's text TOLD by the authors' own Lean function (tested against real Go, not proved from fmt's source: count such statements apart). THE CARD IS WHAT COUNTS. Prove the row's statement (the work); the ties are given (YtdaenaoagejgeaaGreatDoorTie.lean); close each card by the builder's one call (the guide's Derived/Test/ToyasCard.lean, 'card_holds'). Laid BY PROGRAM, IN A SANDBOX (cutbox-door.mjs). By AI agents, Wed Nov 11 2026. No macro, syntax, notation, axiom, sorry.
-/
import Derived.Test.YtdaenaoagejgeaaGreatDoorRows
import GoSem.ClaimSeven
namespace Go.Proofs.YtdaenaoagejgeaaGreatDoor
namespace Rows

/-- THE TIED CARD OF 'whispererlaw14.ScreenViews'. -/
def screenViewsCard : Claim7 := { stood := { row := screenViewsRow, standIns := [], harness := (true, "17dd63a118cc0c4d6b508f6bf283446b50643b9931b0451bae229a79684bba85"), looks := true }, kinds := [], alts := [], laidByText := true, laidKinds := [.data, .data, .data, .data, .sentinel, .sentinel, .pinned], laidTests := true, laidLooks := .later }
def ScreenViewsCardSaid : Prop := Claim7.holds Tryz.pinned (.plain (OpenSpec.ofChange screenViewsSpec)) screenViewsCard

/-- THE SECOND FORM's CARD OF 'whispererlaw14.ScreenViews'. -/
def screenViewsUptoCard : Claim7 := { stood := { row := screenViewsUptoRow, standIns := [], harness := (true, "17dd63a118cc0c4d6b508f6bf283446b50643b9931b0451bae229a79684bba85"), looks := true }, kinds := [], alts := [], laidByText := true, laidKinds := [.data, .data, .data, .data, .sentinel, .sentinel, .pinned], laidTests := true, laidLooks := .later }
def ScreenViewsUptoCardSaid : Prop := Claim7.holds Tryz.pinned (.plain (OpenSpec.upto screenViewsSpec)) screenViewsUptoCard
end Rows
end Go.Proofs.YtdaenaoagejgeaaGreatDoor
