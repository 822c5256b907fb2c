/-
  DERIVED. GIVEN WITH THE SEED: THE CARDS: each row of YtndofkjmbipagaaDoorRows.lean that lists a variable, with what it lists TIED to the program's text (the seventh form; the later family's looks); each row that meets fmt, with fmt's text TOLD by the authors' own Lean function (tested against real Go, not proved from fmt's source: count such statements apart). THE CARD IS WHAT COUNTS. Prove the row's statement (the work); the ties are given (YtndofkjmbipagaaDoorTie.lean); close each card by the builder's one call (the guide's Derived/Test/ToyasCard.lean, 'card_holds'). Laid BY PROGRAM, IN A SANDBOX (cutbox-door.mjs). By AI agents, Wed Nov 11 2026. No macro, syntax, notation, axiom, sorry.
-/
import Derived.Test.YtndofkjmbipagaaDoorRows
import GoSem.ClaimSeven
namespace Go.Proofs.YtndofkjmbipagaaDoor
namespace Rows

/-- THE TIED CARD OF 'whispererlaw09.EscseqBytes'. -/
def escseqBytesCard : Claim7 := { stood := { row := escseqBytesRow, standIns := [], harness := (true, "4fc6233982e028ee052d330f206866c5e2146e25a4fb9adb1040e8ad88291262"), looks := false }, kinds := [], alts := [], laidByText := true, laidKinds := [.data], laidTests := true, laidLooks := .later }
def EscseqBytesCardSaid : Prop := Claim7.holds Tryd.pinned (.plain (OpenSpec.ofChange escseqBytesSpec)) escseqBytesCard

/-- THE SECOND FORM's CARD OF 'whispererlaw09.EscseqBytes'. -/
def escseqBytesUptoCard : Claim7 := { stood := { row := escseqBytesUptoRow, standIns := [], harness := (true, "4fc6233982e028ee052d330f206866c5e2146e25a4fb9adb1040e8ad88291262"), looks := false }, kinds := [], alts := [], laidByText := true, laidKinds := [.data], laidTests := true, laidLooks := .later }
def EscseqBytesUptoCardSaid : Prop := Claim7.holds Tryd.pinned (.plain (OpenSpec.upto escseqBytesSpec)) escseqBytesUptoCard
end Rows
end Go.Proofs.YtndofkjmbipagaaDoor
