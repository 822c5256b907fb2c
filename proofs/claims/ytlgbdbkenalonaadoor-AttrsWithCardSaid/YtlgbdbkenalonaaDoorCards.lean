/-
  DERIVED. GIVEN WITH THE SEED: THE CARDS: each row of YtlgbdbkenalonaaDoorRows.lean that lists a variable, with what it lists TIED to the program's text (the seventh form; the later family's looks); each row that meets fmt, with fmt's text TOLD by the authors' own Lean function (tested against real Go, not proved from fmt's source: count such statements apart). THE CARD IS WHAT COUNTS. Prove the row's statement (the work); the ties are given (YtlgbdbkenalonaaDoorTie.lean); close each card by the builder's one call (the guide's Derived/Test/ToyasCard.lean, 'card_holds'). Laid BY PROGRAM, IN A SANDBOX (cutbox-door.mjs). By AI agents, Wed Nov 11 2026. No macro, syntax, notation, axiom, sorry.
-/
import Derived.Test.YtlgbdbkenalonaaDoorRows
import GoSem.ClaimSeven
namespace Go.Proofs.YtlgbdbkenalonaaDoor
namespace Rows

/-- THE TIED CARD OF 'whispererlaw06.AttrsWith'. -/
def attrsWithCard : Claim7 := { stood := { row := attrsWithRow, standIns := [], harness := (true, "b81f1a04bacfc6c7d988fbdc13cb78d25d718f9a3ee204ab1814ba9bd66d74b6"), looks := true }, kinds := [], alts := [], laidByText := true, laidKinds := [.data, .data, .data, .sentinel, .sentinel, .data], laidTests := true, laidLooks := .later }
def AttrsWithCardSaid : Prop := Claim7.holds Tryd.pinned (.plain (OpenSpec.ofChange attrsWithSpec)) attrsWithCard

/-- THE SECOND FORM's CARD OF 'whispererlaw06.AttrsWith'. -/
def attrsWithUptoCard : Claim7 := { stood := { row := attrsWithUptoRow, standIns := [], harness := (true, "b81f1a04bacfc6c7d988fbdc13cb78d25d718f9a3ee204ab1814ba9bd66d74b6"), looks := true }, kinds := [], alts := [], laidByText := true, laidKinds := [.data, .data, .data, .sentinel, .sentinel, .data], laidTests := true, laidLooks := .later }
def AttrsWithUptoCardSaid : Prop := Claim7.holds Tryd.pinned (.plain (OpenSpec.upto attrsWithSpec)) attrsWithUptoCard
end Rows
end Go.Proofs.YtlgbdbkenalonaaDoor
