/-
  What the list of variables of a row that reads characters gives the walks; and a world in which they are laid.
-/
import Derived.Test.YtngbpkbojjipgaaDoorLaid
import Derived.Test.YtngbpkbojjipgaaDoorUNext
namespace Go.Proofs.YtngbpkbojjipgaaDoor
open Go.ChangeShapes Go.WideShapes Go.ChangeAt Go.RowKit Go.Lib
set_option linter.unusedVariables false

theorem gFirst : Tryd.prog.globalNamed "unicode/utf8.first" = some 1 := by kernel_rfl
theorem gAccept : Tryd.prog.globalNamed "unicode/utf8.acceptRanges" = some 2 := by kernel_rfl
theorem tFirst : (Tryd.prog.globals[1]?).map (·.type) = some 75 := by kernel_rfl
theorem tAccept : (Tryd.prog.globals[2]?).map (·.type) = some 79 := by kernel_rfl
theorem cByte : Tryd.prog.cellsOf 5 = 1 := by kernel_rfl
theorem cFirst : Tryd.prog.cellsOf 75 = 256 := by kernel_rfl
theorem cPair : Tryd.prog.cellsOf 78 = 2 := by kernel_rfl

def firstNums : List Int := (List.range 256).map fun c => (firstT c : Int)
def acceptDatum : DataW Unit := .agg ((List.range 16).map fun i => .agg [.lit (.int .u8 (accLo i)), .lit (.int .u8 (accHi i))])
theorem first_eq : Rows.laid_unicode_utf8_first = Lib.tabData .u8 firstNums := by kernel_rfl
theorem accept_eq : (Rows.laid_unicode_utf8_acceptRanges : DataW Unit) = acceptDatum := by kernel_rfl


def TabsB (w : World) : Prop := Tabs w ∧ U.Tabs w
theorem TabsB.stays {w w' : World} (h : TabsB w) (hs : Stp [] w [] w') : TabsB w' := ⟨h.1.stays hs, h.2.below hs.under⟩
theorem tabs_of_laidB {W : World} (h : laidMetH Tryd.prog [("math/bits.deBruijn32tab", Rows.laid_math_bits_deBruijn32tab), ("math/bits.deBruijn64tab", Rows.laid_math_bits_deBruijn64tab), ("internal/strconv.uint64pow10", Rows.laid_internal_strconv_uint64pow10), ("unicode/utf8.acceptRanges", Rows.laid_unicode_utf8_acceptRanges), ("strconv.ErrRange", Rows.laid_strconv_ErrRange), ("strconv.ErrSyntax", Rows.laid_strconv_ErrSyntax), ("whisperer/keys.kinds", Rows.laid_whisperer_keys_kinds), ("unicode/utf8.first", Rows.laid_unicode_utf8_first)] W) : TabsB W := by
  rw [MakeChecks.laidMetH_plain _ _ _ (by kernel_rfl)] at h
  have h1 := h.tail
  have h2 := h1.tail
  have hA := h2.tail
  have h3 := hA.tail
  have h4 := h3.tail
  have h5 := h4.tail
  have h6 := h5.tail
  rw [pow_eq] at h2
  have i2 := Lib.tabIs_of_head gPow tPow Tryd.underlying95 Tryd.underlying81 cU64 cPow h2
  obtain ⟨a3, s3, v3, _⟩ := laid_sentinel h3 gRng tRng Tryd.underlying67 rowErr Tryd.underlying110 Tryd.underlying112 rfl rfl Tryd.underlying9 cErr cStr
  obtain ⟨a4, s4, v4, _⟩ := laid_sentinel h4 gSyn tSyn Tryd.underlying67 rowErr Tryd.underlying110 Tryd.underlying112 rfl rfl Tryd.underlying9 cErr cStr
  obtain ⟨ps, ⟨g5, t5, cs5, f5, p5, q5, hg5, ht5, hv5, hd5, _, _⟩, _, _⟩ := h5
  obtain rfl := Option.some.inj (gNam.symm.trans hg5)
  obtain rfl := Option.some.inj (tNam.symm.trans ht5)
  rw [nam_eq] at hd5
  have e4 : W.cell? ⟨5, 0, none⟩ = some (.iface 110 (.pointer (some a4))) := by simpa using World.var?_cell gSyn v4 0
  have e3 : W.cell? ⟨6, 0, none⟩ = some (.iface 110 (.pointer (some a3))) := by simpa using World.var?_cell gRng v3 0
  obtain ⟨_, ⟨g0, t0, cs0, f0, p0, q0, hg0, ht0, hv0, hd0, _, _⟩, _, _⟩ := hA
  obtain ⟨_, ⟨g1, t1, cs1, f1, p1, q1, hg1, ht1, hv1, hd1, _, _⟩, _, _⟩ := h6
  obtain rfl := Option.some.inj (gAccept.symm.trans hg0)
  obtain rfl := Option.some.inj (gFirst.symm.trans hg1)
  obtain rfl := Option.some.inj (tAccept.symm.trans ht0)
  obtain rfl := Option.some.inj (tFirst.symm.trans ht1)
  rw [accept_eq] at hd0
  rw [first_eq] at hd1
  refine ⟨⟨i2, ⟨_, _, e4⟩, ⟨_, _, e3⟩, nam_of hv5 hd5⟩, fun c hc => ?_, fun i hi => ?_⟩
  · have hcs := cells_of_tab Tryd.underlying75 Tryd.underlying5 cByte cFirst hd1
    rw [World.var?_cell hg1 hv1 c, ← Array.getElem?_toList, hcs]
    simp [firstNums, hc]
  · obtain ⟨xs, m, _, hx, _, hxl, hel⟩ := DataW.trod_array Tryd.underlying79 hd0
    have hxs : xs.map (·.1) = (List.range 16).map fun i => (.agg [.lit (.int .u8 (accLo i)), .lit (.int .u8 (accHi i))] : DataW Unit) := by
      have := congrArg Prod.fst hx
      simpa [acceptDatum] using this.symm
    have h1 := hel i hi
    obtain ⟨y, hy⟩ : ∃ y, xs[i]? = some y := ⟨xs[i]'(by omega), List.getElem?_eq_getElem (by omega)⟩
    have hy1 : y.1 = .agg [.lit (.int .u8 (accLo i)), .lit (.int .u8 (accHi i))] := by
      have := congrArg (·[i]?) hxs
      simpa [hy, hi] using this
    rw [hy, cPair] at h1
    obtain ⟨y0, y1, n, e, _, e0, e1⟩ := trod_struct2 Tryd.underlying78 h1
    obtain ⟨z0, k0, r0, _⟩ := DataW.trod_int Tryd.underlying5 e0
    obtain ⟨z1, k1, r1, _⟩ := DataW.trod_int Tryd.underlying5 e1
    subst r0
    subst r1
    rw [e] at hy1
    simp only [DataW.agg.injEq, List.cons.injEq, DataW.lit.injEq, Lit.int.injEq, true_and, and_true] at hy1
    obtain ⟨rfl, rfl⟩ := hy1
    rw [cByte] at k0 k1
    rw [World.var?_cell hg0 hv0, World.var?_cell hg0 hv0]
    have g0 := congrArg (·[0]?) k0
    have g1 := congrArg (·[0]?) k1
    simp [List.getElem?_drop] at g0 g1
    constructor
    · rw [Nat.mul_comm]
      exact g0
    · rw [Nat.mul_comm]
      exact g1

/-- A world for the witness: the settled one, the variables holding what their texts lay. -/
noncomputable def laidWorldB (os : Os) : World :=
  let w0 := laidWorld os
  let h7 := w0.heap.modify 2 (withCells (([128, 191, 160, 191, 128, 159, 144, 191, 128, 143, 0, 0, 0, 0, 0, 0, 0, 0, 0, 0, 0, 0, 0, 0, 0, 0, 0, 0, 0, 0, 0, 0] : List Int).map (Value.int .u8)).toArray)
  let h8 := h7.modify 1 (withCells (Go.Pinned.utf8FirstZ.map fun n => Value.int .u8 ((n : Nat) : Int)).toArray)
  { w0 with heap := h8 }
set_option maxRecDepth 100000 in
theorem laid_metB (os : Os) (args : Array Value) : laidMet Tryd.prog [("math/bits.deBruijn32tab", Rows.laid_math_bits_deBruijn32tab), ("math/bits.deBruijn64tab", Rows.laid_math_bits_deBruijn64tab), ("internal/strconv.uint64pow10", Rows.laid_internal_strconv_uint64pow10), ("unicode/utf8.acceptRanges", Rows.laid_unicode_utf8_acceptRanges), ("strconv.ErrRange", Rows.laid_strconv_ErrRange), ("strconv.ErrSyntax", Rows.laid_strconv_ErrSyntax), ("whisperer/keys.kinds", Rows.laid_whisperer_keys_kinds), ("unicode/utf8.first", Rows.laid_unicode_utf8_first)] ((laidWorldB os).forCall (fun _ _ => 0) ⟨#[], args, []⟩).memory :=
  laidMet_of_run' 8 (by kernel_rfl) (by kernel_rfl)
end Go.Proofs.YtngbpkbojjipgaaDoor
