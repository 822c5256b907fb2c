/-
  A number's key is a Rune just if it may be shown, and then it is that one; each key is one that may be: plain.
-/
import Derived.Test.YtngbpkbojjipgaaDoorAlive
namespace Go.Proofs.YtngbpkbojjipgaaDoor
open Go.RowKit Go.Lib
set_option linter.unusedVariables false

theorem ofk_ok (c : Int) : chk (ofk c).1 (ofk c).2 = 0 := by
  unfold ofk
  cases h : shown c with
  | true => exact chk_rune h
  | false =>
    have := kof_pos c
    exact chk_other (by omega) this.2
end Go.Proofs.YtngbpkbojjipgaaDoor
