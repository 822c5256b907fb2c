/-
  DERIVED. GIVEN WITH THE SEED: THE CARDS: each row of YtgnmjhhfefnmcaaDoorRows.lean that lists a variable, with what it lists TIED to the program's text (the seventh form; the later family's looks); each row that meets fmt, with fmt's text TOLD by the authors' own Lean function (tested against real Go, not proved from fmt's source: count such statements apart). THE CARD IS WHAT COUNTS. Prove the row's statement (the work); the ties are given (YtgnmjhhfefnmcaaDoorTie.lean); close each card by the builder's one call (the guide's Derived/Test/ToyasCard.lean, 'card_holds'). Laid BY PROGRAM, IN A SANDBOX (cutbox-door.mjs). By AI agents, Wed Nov 11 2026. No macro, syntax, notation, axiom, sorry.
-/
import Derived.Test.YtgnmjhhfefnmcaaDoorRows
import GoSem.ClaimSeven
namespace Go.Proofs.YtgnmjhhfefnmcaaDoor
namespace Rows

/-- THE TIED CARD OF 'whispererlaw01.UtfNexts'. -/
def utfNextsCard : Claim7 := { stood := { row := utfNextsRow, standIns := [], harness := (true, "242c6ebf211aa1bac9460d9164af6f1fe34589f308965635780fea873f376d98"), looks := false }, kinds := [], alts := [], laidByText := true, laidKinds := [.data, .pinned], laidTests := true, laidLooks := .later }
def UtfNextsCardSaid : Prop := Claim7.holds Tryd.pinned (.plain (OpenSpec.ofChange utfNextsSpec)) utfNextsCard

/-- THE TIED CARD OF 'whispererlaw01.UtfPuts'. -/
def utfPutsCard : Claim7 := { stood := { row := utfPutsRow, standIns := [], harness := (true, "242c6ebf211aa1bac9460d9164af6f1fe34589f308965635780fea873f376d98"), looks := false }, kinds := [], alts := [], laidByText := true, laidKinds := [.data, .pinned], laidTests := true, laidLooks := .later }
def UtfPutsCardSaid : Prop := Claim7.holds Tryd.pinned (.plain (OpenSpec.ofChange utfPutsSpec)) utfPutsCard

/-- THE TIED CARD OF 'whispererlaw01.UtfTexts'. -/
def utfTextsCard : Claim7 := { stood := { row := utfTextsRow, standIns := [], harness := (true, "242c6ebf211aa1bac9460d9164af6f1fe34589f308965635780fea873f376d98"), looks := false }, kinds := [], alts := [], laidByText := true, laidKinds := [.data, .pinned], laidTests := true, laidLooks := .later }
def UtfTextsCardSaid : Prop := Claim7.holds Tryd.pinned (.plain (OpenSpec.ofChange utfTextsSpec)) utfTextsCard

/-- THE TIED CARD OF 'whispererlaw01.UtfBack'. -/
def utfBackCard : Claim7 := { stood := { row := utfBackRow, standIns := [], harness := (true, "242c6ebf211aa1bac9460d9164af6f1fe34589f308965635780fea873f376d98"), looks := false }, kinds := [], alts := [], laidByText := true, laidKinds := [.data, .pinned], laidTests := true, laidLooks := .later }
def UtfBackCardSaid : Prop := Claim7.holds Tryd.pinned (.plain (OpenSpec.ofChange utfBackSpec)) utfBackCard

/-- THE TIED CARD OF 'whispererlaw01.UtfTwice'. -/
def utfTwiceCard : Claim7 := { stood := { row := utfTwiceRow, standIns := [], harness := (true, "242c6ebf211aa1bac9460d9164af6f1fe34589f308965635780fea873f376d98"), looks := false }, kinds := [], alts := [], laidByText := true, laidKinds := [.data, .pinned], laidTests := true, laidLooks := .later }
def UtfTwiceCardSaid : Prop := Claim7.holds Tryd.pinned (.plain (OpenSpec.ofChange utfTwiceSpec)) utfTwiceCard

/-- THE TIED CARD OF 'whispererlaw01.UtfInvalid'. -/
def utfInvalidCard : Claim7 := { stood := { row := utfInvalidRow, standIns := [], harness := (true, "242c6ebf211aa1bac9460d9164af6f1fe34589f308965635780fea873f376d98"), looks := false }, kinds := [], alts := [], laidByText := true, laidKinds := [.data, .pinned], laidTests := true, laidLooks := .later }
def UtfInvalidCardSaid : Prop := Claim7.holds Tryd.pinned (.plain (OpenSpec.ofChange utfInvalidSpec)) utfInvalidCard

/-- THE TIED CARD OF 'whispererlaw01.UtfBegins'. -/
def utfBeginsCard : Claim7 := { stood := { row := utfBeginsRow, standIns := [], harness := (true, "242c6ebf211aa1bac9460d9164af6f1fe34589f308965635780fea873f376d98"), looks := false }, kinds := [], alts := [], laidByText := true, laidKinds := [.data, .pinned], laidTests := true, laidLooks := .later }
def UtfBeginsCardSaid : Prop := Claim7.holds Tryd.pinned (.plain (OpenSpec.ofChange utfBeginsSpec)) utfBeginsCard

/-- THE SECOND FORM's CARD OF 'whispererlaw01.UtfNexts'. -/
def utfNextsUptoCard : Claim7 := { stood := { row := utfNextsUptoRow, standIns := [], harness := (true, "242c6ebf211aa1bac9460d9164af6f1fe34589f308965635780fea873f376d98"), looks := false }, kinds := [], alts := [], laidByText := true, laidKinds := [.data, .pinned], laidTests := true, laidLooks := .later }
def UtfNextsUptoCardSaid : Prop := Claim7.holds Tryd.pinned (.plain (OpenSpec.upto utfNextsSpec)) utfNextsUptoCard

/-- THE SECOND FORM's CARD OF 'whispererlaw01.UtfPuts'. -/
def utfPutsUptoCard : Claim7 := { stood := { row := utfPutsUptoRow, standIns := [], harness := (true, "242c6ebf211aa1bac9460d9164af6f1fe34589f308965635780fea873f376d98"), looks := false }, kinds := [], alts := [], laidByText := true, laidKinds := [.data, .pinned], laidTests := true, laidLooks := .later }
def UtfPutsUptoCardSaid : Prop := Claim7.holds Tryd.pinned (.plain (OpenSpec.upto utfPutsSpec)) utfPutsUptoCard

/-- THE SECOND FORM's CARD OF 'whispererlaw01.UtfTexts'. -/
def utfTextsUptoCard : Claim7 := { stood := { row := utfTextsUptoRow, standIns := [], harness := (true, "242c6ebf211aa1bac9460d9164af6f1fe34589f308965635780fea873f376d98"), looks := false }, kinds := [], alts := [], laidByText := true, laidKinds := [.data, .pinned], laidTests := true, laidLooks := .later }
def UtfTextsUptoCardSaid : Prop := Claim7.holds Tryd.pinned (.plain (OpenSpec.upto utfTextsSpec)) utfTextsUptoCard

/-- THE SECOND FORM's CARD OF 'whispererlaw01.UtfBack'. -/
def utfBackUptoCard : Claim7 := { stood := { row := utfBackUptoRow, standIns := [], harness := (true, "242c6ebf211aa1bac9460d9164af6f1fe34589f308965635780fea873f376d98"), looks := false }, kinds := [], alts := [], laidByText := true, laidKinds := [.data, .pinned], laidTests := true, laidLooks := .later }
def UtfBackUptoCardSaid : Prop := Claim7.holds Tryd.pinned (.plain (OpenSpec.upto utfBackSpec)) utfBackUptoCard

/-- THE SECOND FORM's CARD OF 'whispererlaw01.UtfTwice'. -/
def utfTwiceUptoCard : Claim7 := { stood := { row := utfTwiceUptoRow, standIns := [], harness := (true, "242c6ebf211aa1bac9460d9164af6f1fe34589f308965635780fea873f376d98"), looks := false }, kinds := [], alts := [], laidByText := true, laidKinds := [.data, .pinned], laidTests := true, laidLooks := .later }
def UtfTwiceUptoCardSaid : Prop := Claim7.holds Tryd.pinned (.plain (OpenSpec.upto utfTwiceSpec)) utfTwiceUptoCard

/-- THE SECOND FORM's CARD OF 'whispererlaw01.UtfInvalid'. -/
def utfInvalidUptoCard : Claim7 := { stood := { row := utfInvalidUptoRow, standIns := [], harness := (true, "242c6ebf211aa1bac9460d9164af6f1fe34589f308965635780fea873f376d98"), looks := false }, kinds := [], alts := [], laidByText := true, laidKinds := [.data, .pinned], laidTests := true, laidLooks := .later }
def UtfInvalidUptoCardSaid : Prop := Claim7.holds Tryd.pinned (.plain (OpenSpec.upto utfInvalidSpec)) utfInvalidUptoCard

/-- THE SECOND FORM's CARD OF 'whispererlaw01.UtfBegins'. -/
def utfBeginsUptoCard : Claim7 := { stood := { row := utfBeginsUptoRow, standIns := [], harness := (true, "242c6ebf211aa1bac9460d9164af6f1fe34589f308965635780fea873f376d98"), looks := false }, kinds := [], alts := [], laidByText := true, laidKinds := [.data, .pinned], laidTests := true, laidLooks := .later }
def UtfBeginsUptoCardSaid : Prop := Claim7.holds Tryd.pinned (.plain (OpenSpec.upto utfBeginsSpec)) utfBeginsUptoCard
end Rows
end Go.Proofs.YtgnmjhhfefnmcaaDoor
