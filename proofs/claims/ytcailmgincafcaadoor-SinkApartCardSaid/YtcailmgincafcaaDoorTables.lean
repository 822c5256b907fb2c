/-
  What a row's list of the library's two tables gives the walks; and a world in which they are laid.
-/
import Derived.Test.YtcailmgincafcaaDoorUNext
import Derived.Test.YtcailmgincafcaaDoorRows
import Derived.ProofKit
import Derived.OpenShut
import Derived.Lib.LaidTab
import Derived.LaidMore
import Derived.Deep.DeepHandedRow
namespace Go.Proofs.YtcailmgincafcaaDoor
open Go.ChangeShapes Go.WideShapes Go.ChangeAt Go.RowKit Go.Lib
set_option linter.unusedVariables false

theorem gFirst : Tryd.prog.globalNamed "unicode/utf8.first" = some 0 := by kernel_rfl
theorem gAccept : Tryd.prog.globalNamed "unicode/utf8.acceptRanges" = some 1 := by kernel_rfl
theorem tFirst : (Tryd.prog.globals[0]?).map (·.type) = some 70 := by kernel_rfl
theorem tAccept : (Tryd.prog.globals[1]?).map (·.type) = some 74 := by kernel_rfl
theorem cByte : Tryd.prog.cellsOf 5 = 1 := by kernel_rfl
theorem cFirst : Tryd.prog.cellsOf 70 = 256 := by kernel_rfl
theorem cPair : Tryd.prog.cellsOf 73 = 2 := by kernel_rfl

def firstNums : List Int := (List.range 256).map fun c => (firstT c : Int)
def acceptDatum : DataW Unit := .agg ((List.range 16).map fun i => .agg [.lit (.int .u8 (accLo i)), .lit (.int .u8 (accHi i))])
theorem first_eq : Rows.laid_unicode_utf8_first = Lib.tabData .u8 firstNums := by kernel_rfl
theorem accept_eq : (Rows.laid_unicode_utf8_acceptRanges : DataW Unit) = acceptDatum := by kernel_rfl

theorem tabs_of_laid {W : World} (h : laidMetH Tryd.prog [("unicode/utf8.acceptRanges", Rows.laid_unicode_utf8_acceptRanges), ("unicode/utf8.first", Rows.laid_unicode_utf8_first)] W) : U.Tabs W := by
  rw [MakeChecks.laidMetH_plain _ _ _ (by kernel_rfl), first_eq, accept_eq] at h
  obtain ⟨ps, ⟨g0, t0, cs0, f0, p0, q0, hg0, ht0, hv0, hd0, ⟨g1, t1, cs1, f1, p1, q1, hg1, ht1, hv1, hd1, _, _⟩, _⟩, _, _⟩ := h
  obtain rfl := Option.some.inj (gAccept.symm.trans hg0)
  obtain rfl := Option.some.inj (gFirst.symm.trans hg1)
  obtain rfl := Option.some.inj (tAccept.symm.trans ht0)
  obtain rfl := Option.some.inj (tFirst.symm.trans ht1)
  refine ⟨fun c hc => ?_, fun i hi => ?_⟩
  · have hcs := cells_of_tab Tryd.underlying70 Tryd.underlying5 cByte cFirst hd1
    rw [World.var?_cell hg1 hv1 c, ← Array.getElem?_toList, hcs]
    simp [firstNums, hc]
  · obtain ⟨xs, m, _, hx, _, hxl, hel⟩ := DataW.trod_array Tryd.underlying74 hd0
    have hxs : xs.map (·.1) = (List.range 16).map fun i => (.agg [.lit (.int .u8 (accLo i)), .lit (.int .u8 (accHi i))] : DataW Unit) := by
      have := congrArg Prod.fst hx
      simpa [acceptDatum] using this.symm
    have h1 := hel i hi
    obtain ⟨y, hy⟩ : ∃ y, xs[i]? = some y := ⟨xs[i]'(by omega), List.getElem?_eq_getElem (by omega)⟩
    have hy1 : y.1 = .agg [.lit (.int .u8 (accLo i)), .lit (.int .u8 (accHi i))] := by
      have := congrArg (·[i]?) hxs
      simpa [hy, hi] using this
    rw [hy, cPair] at h1
    obtain ⟨y0, y1, n, e, _, e0, e1⟩ := trod_struct2 Tryd.underlying73 h1
    obtain ⟨z0, k0, r0, _⟩ := DataW.trod_int Tryd.underlying5 e0
    obtain ⟨z1, k1, r1, _⟩ := DataW.trod_int Tryd.underlying5 e1
    subst r0
    subst r1
    rw [e] at hy1
    simp only [DataW.agg.injEq, List.cons.injEq, DataW.lit.injEq, Lit.int.injEq, true_and, and_true] at hy1
    obtain ⟨rfl, rfl⟩ := hy1
    rw [cByte] at k0 k1
    rw [World.var?_cell hg0 hv0, World.var?_cell hg0 hv0]
    have g0 := congrArg (·[0]?) k0
    have g1 := congrArg (·[0]?) k1
    simp [List.getElem?_drop] at g0 g1
    constructor
    · rw [Nat.mul_comm]
      exact g0
    · rw [Nat.mul_comm]
      exact g1

/-- A block with other cells. -/
def withCells (cs : Array Value) : Obj → Obj
  | .cells _ t frozen => .cells cs t frozen
  | o => o
/-- A world for the witness: the settled one, the two tables holding what their texts lay. -/
noncomputable def laidWorld (os : Os) : World :=
  { World.holding Tryd.prog os ⟨#[], #[], []⟩ with heap := (((World.holding Tryd.prog os ⟨#[], #[], []⟩).heap.modify 0 (withCells ((List.range 256).map fun c => Value.int .u8 (firstT c : Int)).toArray)).modify 1
      (withCells ((List.range 16).flatMap fun i => [Value.int .u8 (accLo i : Int), Value.int .u8 (accHi i : Int)]).toArray)) }

theorem laid_met (os : Os) (args : Array Value) : laidMet Tryd.prog [("unicode/utf8.acceptRanges", Rows.laid_unicode_utf8_acceptRanges), ("unicode/utf8.first", Rows.laid_unicode_utf8_first)] ((laidWorld os).forCall (fun _ _ => 0) ⟨#[], args, []⟩).memory :=
  laidMet_of_run' 8 (by kernel_rfl) (by kernel_rfl)

theorem own : ownKnob Tryd.prog.godebug = none := by kernel_rfl
theorem laidOut : laidOutB Tryd.prog = true := by kernel_rfl

end Go.Proofs.YtcailmgincafcaaDoor
