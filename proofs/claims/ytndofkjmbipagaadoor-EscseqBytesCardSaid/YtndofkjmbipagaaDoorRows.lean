/-
  NARROWER THAN 'FOR EVERY INPUT', by the rows' own cells (each row's printed sentence says how): EscseqBytes: laid.
  DERIVED. THE GIVEN ROWS OF THIS SEAT. 1 by the template 'for every input the law returns true; each argument reads behind the call as it read before'; 0 by the template 'total and deterministic' (their statements: YtndofkjmbipagaaDoorTotals.lean).
  GIVEN WITH THE SEED: the statements are not yours to turn. If you find one false, say at which input.
  Laid BY PROGRAM, IN A SANDBOX (cutbox-rows.mjs): the forced cells as the released guide's own fill.sh prints them over the translation 9d57a3dc3b81bc79… (all of the seat's roots in one cut). By AI agents, Wed Nov 11 2026. No macro, syntax, notation, axiom, sorry.
-/
import Derived.Test.YtndofkjmbipagaaDoorChecked
import GoSem.Claim
import GoSem.ClaimJoined
import GoSem.ClaimMapViews
import Derived.JoinedTies
import Derived.KernelRfl
namespace Go.Proofs.YtndofkjmbipagaaDoor
/- THE CELL 'sum', in the pinned program and in every row, IS THE sha256 OF THE DUMP (.gsa) THAT YtndofkjmbipagaaDoorProg.lean LOADS. Nothing in Lean hashes anything: it is a label: what it is worth is what the hold of that sum in a sandbox is worth. -/
noncomputable def Tryd.pinned : Pinned := { name := "ytndofkjmbipagaadoor", sum := "9d57a3dc3b81bc790cf4d7cddf15aca9a9a9a92bee1e15c988a8a8e55ece0700", checked := Tryd.checked }
namespace Rows
def none {H : Type} : Left H := { results := [], args := [] }

/- WHAT THE LISTED PACKAGE-LEVEL VARIABLES READ AS WHEN THE CALL BEGINS. Each datum BY PROGRAM (the guide's laid-datum.mjs) off the statement by which the dump's own 'gosem.cut.vars' lays the variable. In a bare row this is a premise. The card (YtndofkjmbipagaaDoorCards.lean) ties it to the program's text. -/
def laid_whisperer_keys_kinds {H : Type} : DataW H := .agg [.agg [.lit (.string [114, 117, 110, 101]), .lit (.string [])], .agg [.lit (.string [101, 110, 116, 101, 114]), .lit (.string [13])], .agg [.lit (.string [98, 97, 99, 107]), .lit (.string [127])], .agg [.lit (.string [100, 101, 108, 101, 116, 101]), .lit (.string [27, 91, 51, 126])], .agg [.lit (.string [108, 101, 102, 116]), .lit (.string [2])], .agg [.lit (.string [114, 105, 103, 104, 116]), .lit (.string [6])], .agg [.lit (.string [104, 111, 109, 101]), .lit (.string [1])], .agg [.lit (.string [108, 97, 115, 116]), .lit (.string [5])], .agg [.lit (.string [107, 105, 108, 108, 115, 116, 97, 114, 116]), .lit (.string [21])], .agg [.lit (.string [107, 105, 108, 108, 101, 110, 100]), .lit (.string [11])], .agg [.lit (.string [114, 101, 100, 114, 97, 119]), .lit (.string [12])], .agg [.lit (.string [99, 97, 110, 99, 101, 108]), .lit (.string [3])], .agg [.lit (.string [101, 111, 102]), .lit (.string [4])], .agg [.lit (.string [112, 97, 115, 116, 101, 115, 116, 97, 114, 116]), .lit (.string [27, 91, 50, 48, 48, 126])], .agg [.lit (.string [112, 97, 115, 116, 101, 101, 110, 100]), .lit (.string [27, 91, 50, 48, 49, 126])], .agg [.lit (.string [105, 103, 110, 111, 114, 101, 100]), .lit (.string [0])]]

/-- 'whispererlaw09.EscseqBytes': WHATEVER THE INPUT: true; the input reads as it did. -/
def escseqBytesSpec : ChangeSpec := { name := "escseqBytes", fn := fun _ => fun
  | [d1, d2] => { results := [.lit (.bool true)], args := [d1, d2] }
  | _ => none }
def escseqBytesRow : OpenClaim := { program := "ytndofkjmbipagaadoor", sum := "9d57a3dc3b81bc790cf4d7cddf15aca9a9a9a92bee1e15c988a8a8e55ece0700", func := "whisperer/whispererlaw09.EscseqBytes", spec := "escseqBytes", named := ["whisperer/keys.kinds"], apart := false, laid := [("whisperer/keys.kinds", laid_whisperer_keys_kinds)] }
def EscseqBytesSaid : Prop := escseqBytesRow.holds Tryd.pinned (OpenSpec.ofChange escseqBytesSpec)

/-- ITS FALSE NEIGHBOUR: 'it returns false'. Refute it at one input. -/
def escseqBytesWrong : ChangeSpec := { name := "escseqBytes", fn := fun _ => fun
  | [d1, d2] => { results := [.lit (.bool false)], args := [d1, d2] }
  | _ => none }
def EscseqBytesWrongFalsely : Prop := escseqBytesRow.holds Tryd.pinned (OpenSpec.ofChange escseqBytesWrong)

/- THE SECOND FORM. 'bulk': how many values and letters a reading holds, each counted each time it is reached (what is shared counts as often as it is met; a slice's spare places count too). A statement '..UptoSaid' is the law's where the arguments, and the package variables that the reading takes, are together of bulk at most 1048576: NARROWER than '..Said'. Prove '..Said' where nothing that the law and all that it calls make is longer than what came in: it says more and counts as full. Else prove '..UptoSaid'. A law counts once. -/
mutual
def uptoBulk {H : Type} : DataW H → Nat
  | .lit (.string bytes) => bytes.length + 1
  | .lit _ => 1
  | .nil => 1
  | .ptr d => uptoBulk d + 1
  | .slice elems spare => uptoBulkAll elems + uptoBulkAll spare + 1
  | .agg parts => uptoBulkAll parts + 1
  | .iface _ d => uptoBulk d + 1
  | .map entries => uptoBulkEntries entries + 1
  | .held _ => 1
def uptoBulkAll {H : Type} : List (DataW H) → Nat
  | [] => 0
  | d :: r => uptoBulk d + uptoBulkAll r
def uptoBulkEntries {H : Type} : List (Lit × DataW H) → Nat
  | [] => 0
  | x :: r => uptoBulkEntry x + uptoBulkEntries r
def uptoBulkEntry {H : Type} : Lit × DataW H → Nat
  | (.string bytes, d) => bytes.length + uptoBulk d + 1
  | (_, d) => uptoBulk d + 1
 end
def uptoSmall : (H : Type) → List (DataW H) → Bool := fun _ ds => decide (uptoBulkAll ds ≤ 1048576)
def OpenSpec.upto (s : _root_.Go.ChangeSpec) : _root_.Go.OpenSpec := { _root_.Go.OpenSpec.ofChange s with cond := some uptoSmall }

/-- 'whispererlaw09.EscseqBytes', WHERE WHAT IT READS IS OF BULK AT MOST 1048576: true; the input reads as it did. -/
def escseqBytesUptoRow : OpenClaim := { program := "ytndofkjmbipagaadoor", sum := "9d57a3dc3b81bc790cf4d7cddf15aca9a9a9a92bee1e15c988a8a8e55ece0700", func := "whisperer/whispererlaw09.EscseqBytes", spec := "escseqBytes", named := ["whisperer/keys.kinds"], apart := false, laid := [("whisperer/keys.kinds", laid_whisperer_keys_kinds)], narrowed := true }
def EscseqBytesUptoSaid : Prop := escseqBytesUptoRow.holds Tryd.pinned (OpenSpec.upto escseqBytesSpec)

end Rows
end Go.Proofs.YtndofkjmbipagaaDoor
