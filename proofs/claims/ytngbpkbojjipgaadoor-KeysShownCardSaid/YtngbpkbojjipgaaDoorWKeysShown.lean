/-
  A number's key is a Rune just if it may be shown, and then it is that one; each key is one that may be: the walk.
-/
import Derived.Test.YtngbpkbojjipgaaDoorWKeysShownY
import Derived.Test.YtngbpkbojjipgaaDoorWKeysShownN
namespace Go.Proofs.YtngbpkbojjipgaaDoor
open Go.RowKit Go.Lib
set_option linter.unusedVariables false

theorem shown_walk (c : Int) (w : World) (hc : (Lit.int .i64 c).wf = true) (hT : Tabs w) : Calls Tryd.prog 6 #[.int .i64 c] w (Truth w) := by
  cases hs : shown c with
  | true => exact shown_yes c w hc hs hT
  | false => exact shown_no c w hc hs hT
end Go.Proofs.YtngbpkbojjipgaaDoor
