/-
  DERIVED. GIVEN WITH THE SEED: THE CARDS: each row of YtombkdbojdhodaaDoorRows.lean that lists a variable, with what it lists TIED to the program's text (the seventh form; the later family's looks); each row that meets fmt, with fmt's text TOLD by the authors' own Lean function (tested against real Go, not proved from fmt's source: count such statements apart). THE CARD IS WHAT COUNTS. Prove the row's statement (the work); the ties are given (YtombkdbojdhodaaDoorTie.lean); close each card by the builder's one call (the guide's Derived/Test/ToyasCard.lean, 'card_holds'). Laid BY PROGRAM, IN A SANDBOX (cutbox-door.mjs). By AI agents, Wed Nov 11 2026. No macro, syntax, notation, axiom, sorry.
-/
import Derived.Test.YtombkdbojdhodaaDoorRows
import GoSem.ClaimSeven
namespace Go.Proofs.YtombkdbojdhodaaDoor
namespace Rows

/-- THE TIED CARD OF 'whispererlaw12.PasteActs'. -/
def pasteActsCard : Claim7 := { stood := { row := pasteActsRow, standIns := [], harness := (true, "56607a7cccb463a62d71901c38a0c93372e985b012da14715a5147bf20c42470"), looks := false }, kinds := [], alts := [], laidByText := true, laidKinds := [.data, .pinned], laidTests := true, laidLooks := .later }
def PasteActsCardSaid : Prop := Claim7.holds Tryd.pinned (.plain (OpenSpec.ofChange pasteActsSpec)) pasteActsCard

/-- THE TIED CARD OF 'whispererlaw12.PasteNone'. -/
def pasteNoneCard : Claim7 := { stood := { row := pasteNoneRow, standIns := [], harness := (true, "56607a7cccb463a62d71901c38a0c93372e985b012da14715a5147bf20c42470"), looks := false }, kinds := [], alts := [], laidByText := true, laidKinds := [.data, .pinned], laidTests := true, laidLooks := .later }
def PasteNoneCardSaid : Prop := Claim7.holds Tryd.pinned (.plain (OpenSpec.ofChange pasteNoneSpec)) pasteNoneCard

/-- THE TIED CARD OF 'whispererlaw12.PasteWhole'. -/
def pasteWholeCard : Claim7 := { stood := { row := pasteWholeRow, standIns := [], harness := (true, "56607a7cccb463a62d71901c38a0c93372e985b012da14715a5147bf20c42470"), looks := false }, kinds := [], alts := [], laidByText := true, laidKinds := [.data, .pinned], laidTests := true, laidLooks := .later }
def PasteWholeCardSaid : Prop := Claim7.holds Tryd.pinned (.plain (OpenSpec.ofChange pasteWholeSpec)) pasteWholeCard

/-- THE TIED CARD OF 'whispererlaw12.PasteDrops'. -/
def pasteDropsCard : Claim7 := { stood := { row := pasteDropsRow, standIns := [], harness := (true, "56607a7cccb463a62d71901c38a0c93372e985b012da14715a5147bf20c42470"), looks := false }, kinds := [], alts := [], laidByText := true, laidKinds := [.data, .pinned], laidTests := true, laidLooks := .later }
def PasteDropsCardSaid : Prop := Claim7.holds Tryd.pinned (.plain (OpenSpec.ofChange pasteDropsSpec)) pasteDropsCard

/-- THE TIED CARD OF 'whispererlaw12.PasteTyped'. -/
def pasteTypedCard : Claim7 := { stood := { row := pasteTypedRow, standIns := [], harness := (true, "56607a7cccb463a62d71901c38a0c93372e985b012da14715a5147bf20c42470"), looks := false }, kinds := [], alts := [], laidByText := true, laidKinds := [.data, .pinned], laidTests := true, laidLooks := .later }
def PasteTypedCardSaid : Prop := Claim7.holds Tryd.pinned (.plain (OpenSpec.ofChange pasteTypedSpec)) pasteTypedCard

/-- THE SECOND FORM's CARD OF 'whispererlaw12.PasteActs'. -/
def pasteActsUptoCard : Claim7 := { stood := { row := pasteActsUptoRow, standIns := [], harness := (true, "56607a7cccb463a62d71901c38a0c93372e985b012da14715a5147bf20c42470"), looks := false }, kinds := [], alts := [], laidByText := true, laidKinds := [.data, .pinned], laidTests := true, laidLooks := .later }
def PasteActsUptoCardSaid : Prop := Claim7.holds Tryd.pinned (.plain (OpenSpec.upto pasteActsSpec)) pasteActsUptoCard

/-- THE SECOND FORM's CARD OF 'whispererlaw12.PasteNone'. -/
def pasteNoneUptoCard : Claim7 := { stood := { row := pasteNoneUptoRow, standIns := [], harness := (true, "56607a7cccb463a62d71901c38a0c93372e985b012da14715a5147bf20c42470"), looks := false }, kinds := [], alts := [], laidByText := true, laidKinds := [.data, .pinned], laidTests := true, laidLooks := .later }
def PasteNoneUptoCardSaid : Prop := Claim7.holds Tryd.pinned (.plain (OpenSpec.upto pasteNoneSpec)) pasteNoneUptoCard

/-- THE SECOND FORM's CARD OF 'whispererlaw12.PasteWhole'. -/
def pasteWholeUptoCard : Claim7 := { stood := { row := pasteWholeUptoRow, standIns := [], harness := (true, "56607a7cccb463a62d71901c38a0c93372e985b012da14715a5147bf20c42470"), looks := false }, kinds := [], alts := [], laidByText := true, laidKinds := [.data, .pinned], laidTests := true, laidLooks := .later }
def PasteWholeUptoCardSaid : Prop := Claim7.holds Tryd.pinned (.plain (OpenSpec.upto pasteWholeSpec)) pasteWholeUptoCard

/-- THE SECOND FORM's CARD OF 'whispererlaw12.PasteDrops'. -/
def pasteDropsUptoCard : Claim7 := { stood := { row := pasteDropsUptoRow, standIns := [], harness := (true, "56607a7cccb463a62d71901c38a0c93372e985b012da14715a5147bf20c42470"), looks := false }, kinds := [], alts := [], laidByText := true, laidKinds := [.data, .pinned], laidTests := true, laidLooks := .later }
def PasteDropsUptoCardSaid : Prop := Claim7.holds Tryd.pinned (.plain (OpenSpec.upto pasteDropsSpec)) pasteDropsUptoCard

/-- THE SECOND FORM's CARD OF 'whispererlaw12.PasteTyped'. -/
def pasteTypedUptoCard : Claim7 := { stood := { row := pasteTypedUptoRow, standIns := [], harness := (true, "56607a7cccb463a62d71901c38a0c93372e985b012da14715a5147bf20c42470"), looks := false }, kinds := [], alts := [], laidByText := true, laidKinds := [.data, .pinned], laidTests := true, laidLooks := .later }
def PasteTypedUptoCardSaid : Prop := Claim7.holds Tryd.pinned (.plain (OpenSpec.upto pasteTypedSpec)) pasteTypedUptoCard
end Rows
end Go.Proofs.YtombkdbojdhodaaDoor
