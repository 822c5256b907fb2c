/-
  NARROWER THAN 'FOR EVERY INPUT', by the rows' own cells (each row's printed sentence says how): SinkDelivers: laid · SinkNone: laid · SinkOnce: laid · SinkRoom: laid · SinkApart: laid.
  DERIVED. THE GIVEN ROWS OF THIS SEAT. 5 by the template 'for every input the law returns true; each argument reads behind the call as it read before'; 0 by the template 'total and deterministic' (their statements: YtcailmgincafcaaDoorTotals.lean).
  GIVEN WITH THE SEED: the statements are not yours to turn. If you find one false, say at which input.
  Laid BY PROGRAM, IN A SANDBOX (cutbox-rows.mjs): the forced cells as the released guide's own fill.sh prints them over the translation 6f6507124ff47c52… (all of the seat's roots in one cut). By AI agents, Wed Nov 11 2026. No macro, syntax, notation, axiom, sorry.
-/
import Derived.Test.YtcailmgincafcaaDoorChecked
import GoSem.PinnedTables
import GoSem.Claim
import GoSem.ClaimJoined
import GoSem.ClaimMapViews
import Derived.JoinedTies
import Derived.KernelRfl
namespace Go.Proofs.YtcailmgincafcaaDoor
/- THE CELL 'sum', in the pinned program and in every row, IS THE sha256 OF THE DUMP (.gsa) THAT YtcailmgincafcaaDoorProg.lean LOADS. Nothing in Lean hashes anything: it is a label: what it is worth is what the hold of that sum in a sandbox is worth. -/
noncomputable def Tryd.pinned : Pinned := { name := "ytcailmgincafcaadoor", sum := "6f6507124ff47c52a5622ea3df149b2d1b68ebf9417ea3a7f3bcd116bec5d197", checked := Tryd.checked }
namespace Rows
def none {H : Type} : Left H := { results := [], args := [] }

/- WHAT THE LISTED PACKAGE-LEVEL VARIABLES READ AS WHEN THE CALL BEGINS. Each datum BY PROGRAM (the guide's laid-datum.mjs) off the statement by which the dump's own 'gosem.cut.vars' lays the variable. In a bare row this is a premise. The card (YtcailmgincafcaaDoorCards.lean) ties it to the program's text. -/
def laid_unicode_utf8_acceptRanges {H : Type} : DataW H := .agg [.agg [.lit (.int .u8 128), .lit (.int .u8 191)], .agg [.lit (.int .u8 160), .lit (.int .u8 191)], .agg [.lit (.int .u8 128), .lit (.int .u8 159)], .agg [.lit (.int .u8 144), .lit (.int .u8 191)], .agg [.lit (.int .u8 128), .lit (.int .u8 143)], .agg [.lit (.int .u8 0), .lit (.int .u8 0)], .agg [.lit (.int .u8 0), .lit (.int .u8 0)], .agg [.lit (.int .u8 0), .lit (.int .u8 0)], .agg [.lit (.int .u8 0), .lit (.int .u8 0)], .agg [.lit (.int .u8 0), .lit (.int .u8 0)], .agg [.lit (.int .u8 0), .lit (.int .u8 0)], .agg [.lit (.int .u8 0), .lit (.int .u8 0)], .agg [.lit (.int .u8 0), .lit (.int .u8 0)], .agg [.lit (.int .u8 0), .lit (.int .u8 0)], .agg [.lit (.int .u8 0), .lit (.int .u8 0)], .agg [.lit (.int .u8 0), .lit (.int .u8 0)]]
/-- One of Go's own tables, pinned by name: the form's constant. -/
def laid_unicode_utf8_first : DataW Unit := Go.Pinned.utf8First

/-- 'whispererlaw15.SinkDelivers': WHATEVER THE INPUT: true; the input reads as it did. -/
def sinkDeliversSpec : ChangeSpec := { name := "sinkDelivers", fn := fun _ => fun
  | [d1, d2] => { results := [.lit (.bool true)], args := [d1, d2] }
  | _ => none }
def sinkDeliversRow : OpenClaim := { program := "ytcailmgincafcaadoor", sum := "6f6507124ff47c52a5622ea3df149b2d1b68ebf9417ea3a7f3bcd116bec5d197", func := "whisperer/whispererlaw15.SinkDelivers", spec := "sinkDelivers", named := ["unicode/utf8.first", "unicode/utf8.acceptRanges"], apart := false, laid := [("unicode/utf8.acceptRanges", laid_unicode_utf8_acceptRanges), ("unicode/utf8.first", laid_unicode_utf8_first)] }
def SinkDeliversSaid : Prop := sinkDeliversRow.holds Tryd.pinned (OpenSpec.ofChange sinkDeliversSpec)

/-- ITS FALSE NEIGHBOUR: 'it returns false'. Refute it at one input. -/
def sinkDeliversWrong : ChangeSpec := { name := "sinkDelivers", fn := fun _ => fun
  | [d1, d2] => { results := [.lit (.bool false)], args := [d1, d2] }
  | _ => none }
def SinkDeliversWrongFalsely : Prop := sinkDeliversRow.holds Tryd.pinned (OpenSpec.ofChange sinkDeliversWrong)

/-- 'whispererlaw15.SinkNone': WHATEVER THE INPUT: true; the input reads as it did. -/
def sinkNoneSpec : ChangeSpec := { name := "sinkNone", fn := fun _ => fun
  | [d] => { results := [.lit (.bool true)], args := [d] }
  | _ => none }
def sinkNoneRow : OpenClaim := { program := "ytcailmgincafcaadoor", sum := "6f6507124ff47c52a5622ea3df149b2d1b68ebf9417ea3a7f3bcd116bec5d197", func := "whisperer/whispererlaw15.SinkNone", spec := "sinkNone", named := ["unicode/utf8.first", "unicode/utf8.acceptRanges"], apart := false, laid := [("unicode/utf8.acceptRanges", laid_unicode_utf8_acceptRanges), ("unicode/utf8.first", laid_unicode_utf8_first)] }
def SinkNoneSaid : Prop := sinkNoneRow.holds Tryd.pinned (OpenSpec.ofChange sinkNoneSpec)

/-- ITS FALSE NEIGHBOUR: 'it returns false'. Refute it at one input. -/
def sinkNoneWrong : ChangeSpec := { name := "sinkNone", fn := fun _ => fun
  | [d] => { results := [.lit (.bool false)], args := [d] }
  | _ => none }
def SinkNoneWrongFalsely : Prop := sinkNoneRow.holds Tryd.pinned (OpenSpec.ofChange sinkNoneWrong)

/-- 'whispererlaw15.SinkOnce': WHATEVER THE INPUT: true; the input reads as it did. -/
def sinkOnceSpec : ChangeSpec := { name := "sinkOnce", fn := fun _ => fun
  | [d1, d2, d3] => { results := [.lit (.bool true)], args := [d1, d2, d3] }
  | _ => none }
def sinkOnceRow : OpenClaim := { program := "ytcailmgincafcaadoor", sum := "6f6507124ff47c52a5622ea3df149b2d1b68ebf9417ea3a7f3bcd116bec5d197", func := "whisperer/whispererlaw15.SinkOnce", spec := "sinkOnce", named := ["unicode/utf8.first", "unicode/utf8.acceptRanges"], apart := false, laid := [("unicode/utf8.acceptRanges", laid_unicode_utf8_acceptRanges), ("unicode/utf8.first", laid_unicode_utf8_first)] }
def SinkOnceSaid : Prop := sinkOnceRow.holds Tryd.pinned (OpenSpec.ofChange sinkOnceSpec)

/-- ITS FALSE NEIGHBOUR: 'it returns false'. Refute it at one input. -/
def sinkOnceWrong : ChangeSpec := { name := "sinkOnce", fn := fun _ => fun
  | [d1, d2, d3] => { results := [.lit (.bool false)], args := [d1, d2, d3] }
  | _ => none }
def SinkOnceWrongFalsely : Prop := sinkOnceRow.holds Tryd.pinned (OpenSpec.ofChange sinkOnceWrong)

/-- 'whispererlaw15.SinkRoom': WHATEVER THE INPUT: true; the input reads as it did. -/
def sinkRoomSpec : ChangeSpec := { name := "sinkRoom", fn := fun _ => fun
  | [d1, d2] => { results := [.lit (.bool true)], args := [d1, d2] }
  | _ => none }
def sinkRoomRow : OpenClaim := { program := "ytcailmgincafcaadoor", sum := "6f6507124ff47c52a5622ea3df149b2d1b68ebf9417ea3a7f3bcd116bec5d197", func := "whisperer/whispererlaw15.SinkRoom", spec := "sinkRoom", named := ["unicode/utf8.first", "unicode/utf8.acceptRanges"], apart := false, laid := [("unicode/utf8.acceptRanges", laid_unicode_utf8_acceptRanges), ("unicode/utf8.first", laid_unicode_utf8_first)] }
def SinkRoomSaid : Prop := sinkRoomRow.holds Tryd.pinned (OpenSpec.ofChange sinkRoomSpec)

/-- ITS FALSE NEIGHBOUR: 'it returns false'. Refute it at one input. -/
def sinkRoomWrong : ChangeSpec := { name := "sinkRoom", fn := fun _ => fun
  | [d1, d2] => { results := [.lit (.bool false)], args := [d1, d2] }
  | _ => none }
def SinkRoomWrongFalsely : Prop := sinkRoomRow.holds Tryd.pinned (OpenSpec.ofChange sinkRoomWrong)

/-- 'whispererlaw15.SinkApart': WHATEVER THE INPUT: true; the input reads as it did. -/
def sinkApartSpec : ChangeSpec := { name := "sinkApart", fn := fun _ => fun
  | [d1, d2] => { results := [.lit (.bool true)], args := [d1, d2] }
  | _ => none }
def sinkApartRow : OpenClaim := { program := "ytcailmgincafcaadoor", sum := "6f6507124ff47c52a5622ea3df149b2d1b68ebf9417ea3a7f3bcd116bec5d197", func := "whisperer/whispererlaw15.SinkApart", spec := "sinkApart", named := ["unicode/utf8.first", "unicode/utf8.acceptRanges"], apart := false, laid := [("unicode/utf8.acceptRanges", laid_unicode_utf8_acceptRanges), ("unicode/utf8.first", laid_unicode_utf8_first)] }
def SinkApartSaid : Prop := sinkApartRow.holds Tryd.pinned (OpenSpec.ofChange sinkApartSpec)

/-- ITS FALSE NEIGHBOUR: 'it returns false'. Refute it at one input. -/
def sinkApartWrong : ChangeSpec := { name := "sinkApart", fn := fun _ => fun
  | [d1, d2] => { results := [.lit (.bool false)], args := [d1, d2] }
  | _ => none }
def SinkApartWrongFalsely : Prop := sinkApartRow.holds Tryd.pinned (OpenSpec.ofChange sinkApartWrong)

/- THE SECOND FORM. 'bulk': how many values and letters a reading holds, each counted each time it is reached (what is shared counts as often as it is met; a slice's spare places count too). A statement '..UptoSaid' is the law's where the arguments, and the package variables that the reading takes, are together of bulk at most 1048576: NARROWER than '..Said'. Prove '..Said' where nothing that the law and all that it calls make is longer than what came in: it says more and counts as full. Else prove '..UptoSaid'. A law counts once. -/
mutual
def uptoBulk {H : Type} : DataW H → Nat
  | .lit (.string bytes) => bytes.length + 1
  | .lit _ => 1
  | .nil => 1
  | .ptr d => uptoBulk d + 1
  | .slice elems spare => uptoBulkAll elems + uptoBulkAll spare + 1
  | .agg parts => uptoBulkAll parts + 1
  | .iface _ d => uptoBulk d + 1
  | .map entries => uptoBulkEntries entries + 1
  | .held _ => 1
def uptoBulkAll {H : Type} : List (DataW H) → Nat
  | [] => 0
  | d :: r => uptoBulk d + uptoBulkAll r
def uptoBulkEntries {H : Type} : List (Lit × DataW H) → Nat
  | [] => 0
  | x :: r => uptoBulkEntry x + uptoBulkEntries r
def uptoBulkEntry {H : Type} : Lit × DataW H → Nat
  | (.string bytes, d) => bytes.length + uptoBulk d + 1
  | (_, d) => uptoBulk d + 1
 end
def uptoSmall : (H : Type) → List (DataW H) → Bool := fun _ ds => decide (uptoBulkAll ds ≤ 1048576)
def OpenSpec.upto (s : _root_.Go.ChangeSpec) : _root_.Go.OpenSpec := { _root_.Go.OpenSpec.ofChange s with cond := some uptoSmall }

/-- 'whispererlaw15.SinkDelivers', WHERE WHAT IT READS IS OF BULK AT MOST 1048576: true; the input reads as it did. -/
def sinkDeliversUptoRow : OpenClaim := { program := "ytcailmgincafcaadoor", sum := "6f6507124ff47c52a5622ea3df149b2d1b68ebf9417ea3a7f3bcd116bec5d197", func := "whisperer/whispererlaw15.SinkDelivers", spec := "sinkDelivers", named := ["unicode/utf8.first", "unicode/utf8.acceptRanges"], apart := false, laid := [("unicode/utf8.acceptRanges", laid_unicode_utf8_acceptRanges), ("unicode/utf8.first", laid_unicode_utf8_first)], narrowed := true }
def SinkDeliversUptoSaid : Prop := sinkDeliversUptoRow.holds Tryd.pinned (OpenSpec.upto sinkDeliversSpec)

/-- 'whispererlaw15.SinkNone', WHERE WHAT IT READS IS OF BULK AT MOST 1048576: true; the input reads as it did. -/
def sinkNoneUptoRow : OpenClaim := { program := "ytcailmgincafcaadoor", sum := "6f6507124ff47c52a5622ea3df149b2d1b68ebf9417ea3a7f3bcd116bec5d197", func := "whisperer/whispererlaw15.SinkNone", spec := "sinkNone", named := ["unicode/utf8.first", "unicode/utf8.acceptRanges"], apart := false, laid := [("unicode/utf8.acceptRanges", laid_unicode_utf8_acceptRanges), ("unicode/utf8.first", laid_unicode_utf8_first)], narrowed := true }
def SinkNoneUptoSaid : Prop := sinkNoneUptoRow.holds Tryd.pinned (OpenSpec.upto sinkNoneSpec)

/-- 'whispererlaw15.SinkOnce', WHERE WHAT IT READS IS OF BULK AT MOST 1048576: true; the input reads as it did. -/
def sinkOnceUptoRow : OpenClaim := { program := "ytcailmgincafcaadoor", sum := "6f6507124ff47c52a5622ea3df149b2d1b68ebf9417ea3a7f3bcd116bec5d197", func := "whisperer/whispererlaw15.SinkOnce", spec := "sinkOnce", named := ["unicode/utf8.first", "unicode/utf8.acceptRanges"], apart := false, laid := [("unicode/utf8.acceptRanges", laid_unicode_utf8_acceptRanges), ("unicode/utf8.first", laid_unicode_utf8_first)], narrowed := true }
def SinkOnceUptoSaid : Prop := sinkOnceUptoRow.holds Tryd.pinned (OpenSpec.upto sinkOnceSpec)

/-- 'whispererlaw15.SinkRoom', WHERE WHAT IT READS IS OF BULK AT MOST 1048576: true; the input reads as it did. -/
def sinkRoomUptoRow : OpenClaim := { program := "ytcailmgincafcaadoor", sum := "6f6507124ff47c52a5622ea3df149b2d1b68ebf9417ea3a7f3bcd116bec5d197", func := "whisperer/whispererlaw15.SinkRoom", spec := "sinkRoom", named := ["unicode/utf8.first", "unicode/utf8.acceptRanges"], apart := false, laid := [("unicode/utf8.acceptRanges", laid_unicode_utf8_acceptRanges), ("unicode/utf8.first", laid_unicode_utf8_first)], narrowed := true }
def SinkRoomUptoSaid : Prop := sinkRoomUptoRow.holds Tryd.pinned (OpenSpec.upto sinkRoomSpec)

/-- 'whispererlaw15.SinkApart', WHERE WHAT IT READS IS OF BULK AT MOST 1048576: true; the input reads as it did. -/
def sinkApartUptoRow : OpenClaim := { program := "ytcailmgincafcaadoor", sum := "6f6507124ff47c52a5622ea3df149b2d1b68ebf9417ea3a7f3bcd116bec5d197", func := "whisperer/whispererlaw15.SinkApart", spec := "sinkApart", named := ["unicode/utf8.first", "unicode/utf8.acceptRanges"], apart := false, laid := [("unicode/utf8.acceptRanges", laid_unicode_utf8_acceptRanges), ("unicode/utf8.first", laid_unicode_utf8_first)], narrowed := true }
def SinkApartUptoSaid : Prop := sinkApartUptoRow.holds Tryd.pinned (OpenSpec.upto sinkApartSpec)

end Rows
end Go.Proofs.YtcailmgincafcaaDoor
