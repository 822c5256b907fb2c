/-
  What a row's list of variables gives the walks; and a world in which they are laid.
-/
import Derived.Test.YtdaenaoagejgeaaGreatDoorVTab
import Derived.Test.YtdaenaoagejgeaaGreatDoorRows
import Derived.ProofKit
import Derived.OpenShut
import Derived.Lib.LaidTab
import Derived.LaidMore
import Derived.Stop.LaidErr
import Derived.Deep.DeepHandedRow
namespace Go.Proofs.YtdaenaoagejgeaaGreatDoor
open Go.ChangeShapes Go.WideShapes Go.ChangeAt Go.RowKit Go.Lib
set_option linter.unusedVariables false

theorem gFirst : Tryz.prog.globalNamed "unicode/utf8.first" = some 2 := by kernel_rfl
theorem gAccept : Tryz.prog.globalNamed "unicode/utf8.acceptRanges" = some 3 := by kernel_rfl
theorem tFirst : (Tryz.prog.globals[2]?).map (·.type) = some 130 := by kernel_rfl
theorem tAccept : (Tryz.prog.globals[3]?).map (·.type) = some 133 := by kernel_rfl
theorem cByte : Tryz.prog.cellsOf 5 = 1 := by kernel_rfl
theorem cFirst : Tryz.prog.cellsOf 130 = 256 := by kernel_rfl
theorem cPair : Tryz.prog.cellsOf 132 = 2 := by kernel_rfl

def firstNums : List Int := (List.range 256).map fun c => (firstT c : Int)
def acceptDatum : DataW Unit := .agg ((List.range 16).map fun i => .agg [.lit (.int .u8 (accLo i)), .lit (.int .u8 (accHi i))])
theorem first_eq : Rows.laid_unicode_utf8_first = Lib.tabData .u8 firstNums := by kernel_rfl
theorem accept_eq : (Rows.laid_unicode_utf8_acceptRanges : DataW Unit) = acceptDatum := by kernel_rfl
theorem tPow : (Tryz.prog.globals[1]?).map (·.type) = some 124 := by kernel_rfl
theorem cU64 : Tryz.prog.cellsOf 91 = 1 := by kernel_rfl
theorem cPow : Tryz.prog.cellsOf 124 = 20 := by kernel_rfl
theorem pow_eq : (Rows.laid_internal_strconv_uint64pow10 : DataW Unit) = Lib.tabData .u64 Lib.pow10Tab := by kernel_rfl

theorem gSyn : Tryz.prog.globalNamed "strconv.ErrSyntax" = some 6 := by kernel_rfl
theorem gRng : Tryz.prog.globalNamed "strconv.ErrRange" = some 7 := by kernel_rfl
theorem tSyn : (Tryz.prog.globals[6]?).map (·.type) = some 74 := by kernel_rfl
theorem tRng : (Tryz.prog.globals[7]?).map (·.type) = some 74 := by kernel_rfl
theorem cStr : Tryz.prog.cellsOf 9 = 1 := by kernel_rfl
theorem cErr : Tryz.prog.cellsOf 153 = 1 := by kernel_rfl
theorem starS : "*" ++ "errors.errorString" = "*errors.errorString" := by decide
theorem rowErr (u : TypeId) (h : Tryz.prog.typeName? 3 u = some "*errors.errorString") : u = 151 :=
  typeName_ptr_named (nm := "errors.errorString") (by rw [starS]; kernel_rfl) (by kernel_rfl) (by decide) u (by rw [starS]; exact h)
theorem tabs_of_laid {W : World} (h : laidMetH Tryz.prog [("math/bits.deBruijn32tab", Rows.laid_math_bits_deBruijn32tab), ("math/bits.deBruijn64tab", Rows.laid_math_bits_deBruijn64tab), ("internal/strconv.uint64pow10", Rows.laid_internal_strconv_uint64pow10), ("unicode/utf8.acceptRanges", Rows.laid_unicode_utf8_acceptRanges), ("strconv.ErrRange", Rows.laid_strconv_ErrRange), ("strconv.ErrSyntax", Rows.laid_strconv_ErrSyntax), ("unicode/utf8.first", Rows.laid_unicode_utf8_first)] W) : Tabs W := by
  rw [MakeChecks.laidMetH_plain _ _ _ (by kernel_rfl)] at h
  have h1 := h.tail
  have h2 := h1.tail
  have hA := h2.tail
  have h3 := hA.tail
  have h4 := h3.tail
  have h6 := h4.tail
  obtain ⟨a3, s3, v3, _⟩ := laid_sentinel h3 gRng tRng Tryz.underlying74 rowErr Tryz.underlying151 Tryz.underlying153 rfl rfl Tryz.underlying9 cErr cStr
  obtain ⟨a4, s4, v4, _⟩ := laid_sentinel h4 gSyn tSyn Tryz.underlying74 rowErr Tryz.underlying151 Tryz.underlying153 rfl rfl Tryz.underlying9 cErr cStr
  have e4 : W.cell? ⟨6, 0, none⟩ = some (.iface 151 (.pointer (some a4))) := by simpa using World.var?_cell gSyn v4 0
  have e3 : W.cell? ⟨7, 0, none⟩ = some (.iface 151 (.pointer (some a3))) := by simpa using World.var?_cell gRng v3 0
  rw [pow_eq] at h2
  have i2 := Lib.tabIs_of_head gPow tPow Tryz.underlying124 Tryz.underlying91 cU64 cPow h2
  obtain ⟨_, ⟨g0, t0, cs0, f0, p0, q0, hg0, ht0, hv0, hd0, _, _⟩, _, _⟩ := hA
  obtain ⟨_, ⟨g1, t1, cs1, f1, p1, q1, hg1, ht1, hv1, hd1, _, _⟩, _, _⟩ := h6
  obtain rfl := Option.some.inj (gAccept.symm.trans hg0)
  obtain rfl := Option.some.inj (gFirst.symm.trans hg1)
  obtain rfl := Option.some.inj (tAccept.symm.trans ht0)
  obtain rfl := Option.some.inj (tFirst.symm.trans ht1)
  rw [accept_eq] at hd0
  rw [first_eq] at hd1
  refine ⟨⟨fun c hc => ?_, fun i hi => ?_⟩, i2, ⟨_, _, e4⟩, ⟨_, _, e3⟩⟩
  · have hcs := cells_of_tab Tryz.underlying130 Tryz.underlying5 cByte cFirst hd1
    rw [World.var?_cell hg1 hv1 c, ← Array.getElem?_toList, hcs]
    simp [firstNums, hc]
  · obtain ⟨xs, m, _, hx, _, hxl, hel⟩ := DataW.trod_array Tryz.underlying133 hd0
    have hxs : xs.map (·.1) = (List.range 16).map fun i => (.agg [.lit (.int .u8 (accLo i)), .lit (.int .u8 (accHi i))] : DataW Unit) := by
      have := congrArg Prod.fst hx
      simpa [acceptDatum] using this.symm
    have h1 := hel i hi
    obtain ⟨y, hy⟩ : ∃ y, xs[i]? = some y := ⟨xs[i]'(by omega), List.getElem?_eq_getElem (by omega)⟩
    have hy1 : y.1 = .agg [.lit (.int .u8 (accLo i)), .lit (.int .u8 (accHi i))] := by
      have := congrArg (·[i]?) hxs
      simpa [hy, hi] using this
    rw [hy, cPair] at h1
    obtain ⟨y0, y1, n, e, _, e0, e1⟩ := trod_struct2 Tryz.underlying132 h1
    obtain ⟨z0, k0, r0, _⟩ := DataW.trod_int Tryz.underlying5 e0
    obtain ⟨z1, k1, r1, _⟩ := DataW.trod_int Tryz.underlying5 e1
    subst r0
    subst r1
    rw [e] at hy1
    simp only [DataW.agg.injEq, List.cons.injEq, DataW.lit.injEq, Lit.int.injEq, true_and, and_true] at hy1
    obtain ⟨rfl, rfl⟩ := hy1
    rw [cByte] at k0 k1
    rw [World.var?_cell hg0 hv0, World.var?_cell hg0 hv0]
    have g0 := congrArg (·[0]?) k0
    have g1 := congrArg (·[0]?) k1
    simp [List.getElem?_drop] at g0 g1
    constructor
    · rw [Nat.mul_comm]
      exact g0
    · rw [Nat.mul_comm]
      exact g1

/-- A block with other cells. -/
def withCells (cs : Array Value) : Obj → Obj
  | .cells _ t frozen => .cells cs t frozen
  | o => o
def t32Nums : List Int := [0, 1, 28, 2, 29, 14, 24, 3, 30, 22, 20, 15, 25, 17, 4, 8, 31, 27, 13, 23, 21, 19, 16, 7, 26, 12, 18, 6, 11, 5, 10, 9]
def t64Nums : List Int := [0, 1, 56, 2, 57, 49, 28, 3, 61, 58, 42, 50, 38, 29, 17, 4, 62, 47, 59, 36, 45, 43, 51, 22, 53, 39, 33, 30, 24, 18, 12, 5, 63, 55, 48, 27, 60, 41, 37, 16, 46, 35, 44, 21, 52, 32, 23, 11, 54, 26, 40, 15, 34, 20, 31, 10, 25, 14, 19, 9, 13, 8, 7, 6]
noncomputable def low : Nat := (World.holding Tryz.prog default ⟨#[], #[], []⟩).heap.size
abbrev synS : ByteArray := { data := #[105, 110, 118, 97, 108, 105, 100, 32, 115, 121, 110, 116, 97, 120] }
abbrev rngS : ByteArray := { data := #[118, 97, 108, 117, 101, 32, 111, 117, 116, 32, 111, 102, 32, 114, 97, 110, 103, 101] }
/-- A world for the witness: the settled one, the variables holding what their texts lay. -/
noncomputable def laidWorld (os : Os) : World :=
  let w0 := World.holding Tryz.prog os ⟨#[.cells #[.string rngS] 153, .cells #[.string synS] 153], #[], []⟩
  let h1 := w0.heap.modify 4 (withCells (t32Nums.map (Value.int .u8)).toArray)
  let h2 := h1.modify 5 (withCells (t64Nums.map (Value.int .u8)).toArray)
  let h3 := h2.modify 1 (withCells (Lib.pow10Tab.map (Value.int .u64)).toArray)
  let h4 := h3.modify 3 (withCells (([128, 191, 160, 191, 128, 159, 144, 191, 128, 143, 0, 0, 0, 0, 0, 0, 0, 0, 0, 0, 0, 0, 0, 0, 0, 0, 0, 0, 0, 0, 0, 0] : List Int).map (Value.int .u8)).toArray)
  let h5 := h4.modify 7 (withCells #[.iface 151 (.pointer (some ⟨low, 0, none⟩))])
  let h6 := h5.modify 6 (withCells #[.iface 151 (.pointer (some ⟨low + 1, 0, none⟩))])
  let h7 := h6.modify 2 (withCells (Go.Pinned.utf8FirstZ.map fun n => Value.int .u8 ((n : Nat) : Int)).toArray)
  { w0 with heap := h7 }
set_option maxRecDepth 100000 in
theorem laid_met (os : Os) (args : Array Value) : laidMet Tryz.prog [("math/bits.deBruijn32tab", Rows.laid_math_bits_deBruijn32tab), ("math/bits.deBruijn64tab", Rows.laid_math_bits_deBruijn64tab), ("internal/strconv.uint64pow10", Rows.laid_internal_strconv_uint64pow10), ("unicode/utf8.acceptRanges", Rows.laid_unicode_utf8_acceptRanges), ("strconv.ErrRange", Rows.laid_strconv_ErrRange), ("strconv.ErrSyntax", Rows.laid_strconv_ErrSyntax), ("unicode/utf8.first", Rows.laid_unicode_utf8_first)] ((laidWorld os).forCall (fun _ _ => 0) ⟨#[], args, []⟩).memory :=
  laidMet_of_run' 8 (by kernel_rfl) (by kernel_rfl)

theorem own : ownKnob Tryz.prog.godebug = none := by kernel_rfl
theorem laidOut : laidOutB Tryz.prog = true := by kernel_rfl

end Go.Proofs.YtdaenaoagejgeaaGreatDoor
