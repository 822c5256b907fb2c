/-
  DERIVED. GIVEN WITH THE SEED: THE CARDS: each row of YtcailmgincafcaaDoorRows.lean that lists a variable, with what it lists TIED to the program's text (the seventh form; the later family's looks); each row that meets fmt, with fmt's text TOLD by the authors' own Lean function (tested against real Go, not proved from fmt's source: count such statements apart). THE CARD IS WHAT COUNTS. Prove the row's statement (the work); the ties are given (YtcailmgincafcaaDoorTie.lean); close each card by the builder's one call (the guide's Derived/Test/ToyasCard.lean, 'card_holds'). Laid BY PROGRAM, IN A SANDBOX (cutbox-door.mjs). By AI agents, Wed Nov 11 2026. No macro, syntax, notation, axiom, sorry.
-/
import Derived.Test.YtcailmgincafcaaDoorRows
import GoSem.ClaimSeven
namespace Go.Proofs.YtcailmgincafcaaDoor
namespace Rows

/-- THE TIED CARD OF 'whispererlaw15.SinkDelivers'. -/
def sinkDeliversCard : Claim7 := { stood := { row := sinkDeliversRow, standIns := [], harness := (true, "4c4e9935367dca36d37d2dd5b97e89286ad511452d7a0eab84408ccf0ccc5c95"), looks := false }, kinds := [], alts := [], laidByText := true, laidKinds := [.data, .pinned], laidTests := true, laidLooks := .later }
def SinkDeliversCardSaid : Prop := Claim7.holds Tryd.pinned (.plain (OpenSpec.ofChange sinkDeliversSpec)) sinkDeliversCard

/-- THE TIED CARD OF 'whispererlaw15.SinkNone'. -/
def sinkNoneCard : Claim7 := { stood := { row := sinkNoneRow, standIns := [], harness := (true, "4c4e9935367dca36d37d2dd5b97e89286ad511452d7a0eab84408ccf0ccc5c95"), looks := false }, kinds := [], alts := [], laidByText := true, laidKinds := [.data, .pinned], laidTests := true, laidLooks := .later }
def SinkNoneCardSaid : Prop := Claim7.holds Tryd.pinned (.plain (OpenSpec.ofChange sinkNoneSpec)) sinkNoneCard

/-- THE TIED CARD OF 'whispererlaw15.SinkOnce'. -/
def sinkOnceCard : Claim7 := { stood := { row := sinkOnceRow, standIns := [], harness := (true, "4c4e9935367dca36d37d2dd5b97e89286ad511452d7a0eab84408ccf0ccc5c95"), looks := false }, kinds := [], alts := [], laidByText := true, laidKinds := [.data, .pinned], laidTests := true, laidLooks := .later }
def SinkOnceCardSaid : Prop := Claim7.holds Tryd.pinned (.plain (OpenSpec.ofChange sinkOnceSpec)) sinkOnceCard

/-- THE TIED CARD OF 'whispererlaw15.SinkRoom'. -/
def sinkRoomCard : Claim7 := { stood := { row := sinkRoomRow, standIns := [], harness := (true, "4c4e9935367dca36d37d2dd5b97e89286ad511452d7a0eab84408ccf0ccc5c95"), looks := false }, kinds := [], alts := [], laidByText := true, laidKinds := [.data, .pinned], laidTests := true, laidLooks := .later }
def SinkRoomCardSaid : Prop := Claim7.holds Tryd.pinned (.plain (OpenSpec.ofChange sinkRoomSpec)) sinkRoomCard

/-- THE TIED CARD OF 'whispererlaw15.SinkApart'. -/
def sinkApartCard : Claim7 := { stood := { row := sinkApartRow, standIns := [], harness := (true, "4c4e9935367dca36d37d2dd5b97e89286ad511452d7a0eab84408ccf0ccc5c95"), looks := false }, kinds := [], alts := [], laidByText := true, laidKinds := [.data, .pinned], laidTests := true, laidLooks := .later }
def SinkApartCardSaid : Prop := Claim7.holds Tryd.pinned (.plain (OpenSpec.ofChange sinkApartSpec)) sinkApartCard

/-- THE SECOND FORM's CARD OF 'whispererlaw15.SinkDelivers'. -/
def sinkDeliversUptoCard : Claim7 := { stood := { row := sinkDeliversUptoRow, standIns := [], harness := (true, "4c4e9935367dca36d37d2dd5b97e89286ad511452d7a0eab84408ccf0ccc5c95"), looks := false }, kinds := [], alts := [], laidByText := true, laidKinds := [.data, .pinned], laidTests := true, laidLooks := .later }
def SinkDeliversUptoCardSaid : Prop := Claim7.holds Tryd.pinned (.plain (OpenSpec.upto sinkDeliversSpec)) sinkDeliversUptoCard

/-- THE SECOND FORM's CARD OF 'whispererlaw15.SinkNone'. -/
def sinkNoneUptoCard : Claim7 := { stood := { row := sinkNoneUptoRow, standIns := [], harness := (true, "4c4e9935367dca36d37d2dd5b97e89286ad511452d7a0eab84408ccf0ccc5c95"), looks := false }, kinds := [], alts := [], laidByText := true, laidKinds := [.data, .pinned], laidTests := true, laidLooks := .later }
def SinkNoneUptoCardSaid : Prop := Claim7.holds Tryd.pinned (.plain (OpenSpec.upto sinkNoneSpec)) sinkNoneUptoCard

/-- THE SECOND FORM's CARD OF 'whispererlaw15.SinkOnce'. -/
def sinkOnceUptoCard : Claim7 := { stood := { row := sinkOnceUptoRow, standIns := [], harness := (true, "4c4e9935367dca36d37d2dd5b97e89286ad511452d7a0eab84408ccf0ccc5c95"), looks := false }, kinds := [], alts := [], laidByText := true, laidKinds := [.data, .pinned], laidTests := true, laidLooks := .later }
def SinkOnceUptoCardSaid : Prop := Claim7.holds Tryd.pinned (.plain (OpenSpec.upto sinkOnceSpec)) sinkOnceUptoCard

/-- THE SECOND FORM's CARD OF 'whispererlaw15.SinkRoom'. -/
def sinkRoomUptoCard : Claim7 := { stood := { row := sinkRoomUptoRow, standIns := [], harness := (true, "4c4e9935367dca36d37d2dd5b97e89286ad511452d7a0eab84408ccf0ccc5c95"), looks := false }, kinds := [], alts := [], laidByText := true, laidKinds := [.data, .pinned], laidTests := true, laidLooks := .later }
def SinkRoomUptoCardSaid : Prop := Claim7.holds Tryd.pinned (.plain (OpenSpec.upto sinkRoomSpec)) sinkRoomUptoCard

/-- THE SECOND FORM's CARD OF 'whispererlaw15.SinkApart'. -/
def sinkApartUptoCard : Claim7 := { stood := { row := sinkApartUptoRow, standIns := [], harness := (true, "4c4e9935367dca36d37d2dd5b97e89286ad511452d7a0eab84408ccf0ccc5c95"), looks := false }, kinds := [], alts := [], laidByText := true, laidKinds := [.data, .pinned], laidTests := true, laidLooks := .later }
def SinkApartUptoCardSaid : Prop := Claim7.holds Tryd.pinned (.plain (OpenSpec.upto sinkApartSpec)) sinkApartUptoCard
end Rows
end Go.Proofs.YtcailmgincafcaaDoor
