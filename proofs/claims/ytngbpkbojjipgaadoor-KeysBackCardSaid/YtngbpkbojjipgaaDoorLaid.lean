/-
  What a row's list of variables gives the walks; and a world in which they are laid.
-/
import Derived.Test.YtngbpkbojjipgaaDoorTabs
import Derived.Test.YtngbpkbojjipgaaDoorRows
import Derived.ProofKit
import Derived.OpenShut
import Derived.Lib.LaidTab
import Derived.LaidMore
import Derived.Stop.LaidErr
import Derived.Deep.DeepHandedRow
namespace Go.Proofs.YtngbpkbojjipgaaDoor
open Go.ChangeShapes Go.WideShapes Go.ChangeAt Go.RowKit Go.Lib
set_option linter.unusedVariables false

theorem gSyn : Tryd.prog.globalNamed "strconv.ErrSyntax" = some 5 := by kernel_rfl
theorem gRng : Tryd.prog.globalNamed "strconv.ErrRange" = some 6 := by kernel_rfl
theorem gNam : Tryd.prog.globalNamed "whisperer/keys.kinds" = some 0 := by kernel_rfl
theorem tPow : (Tryd.prog.globals[4]?).map (·.type) = some 95 := by kernel_rfl
theorem tSyn : (Tryd.prog.globals[5]?).map (·.type) = some 67 := by kernel_rfl
theorem tRng : (Tryd.prog.globals[6]?).map (·.type) = some 67 := by kernel_rfl
theorem tNam : (Tryd.prog.globals[0]?).map (·.type) = some 50 := by kernel_rfl
theorem cU64 : Tryd.prog.cellsOf 81 = 1 := by kernel_rfl
theorem cStr : Tryd.prog.cellsOf 9 = 1 := by kernel_rfl
theorem cPow : Tryd.prog.cellsOf 95 = 20 := by kernel_rfl
theorem cErr : Tryd.prog.cellsOf 112 = 1 := by kernel_rfl
theorem cRow : Tryd.prog.cellsOf 49 = 2 := by kernel_rfl
theorem starS : "*" ++ "errors.errorString" = "*errors.errorString" := by decide
theorem rowErr (u : TypeId) (h : Tryd.prog.typeName? 3 u = some "*errors.errorString") : u = 110 :=
  typeName_ptr_named (nm := "errors.errorString") (by rw [starS]; kernel_rfl) (by kernel_rfl) (by decide) u (by rw [starS]; exact h)

def t64Nums : List Int := [0, 1, 56, 2, 57, 49, 28, 3, 61, 58, 42, 50, 38, 29, 17, 4, 62, 47, 59, 36, 45, 43, 51, 22, 53, 39, 33, 30, 24, 18, 12, 5, 63, 55, 48, 27, 60, 41, 37, 16, 46, 35, 44, 21, 52, 32, 23, 11, 54, 26, 40, 15, 34, 20, 31, 10, 25, 14, 19, 9, 13, 8, 7, 6]
theorem pow_eq : (Rows.laid_internal_strconv_uint64pow10 : DataW Unit) = Lib.tabData .u64 Lib.pow10Tab := by kernel_rfl
def namDatum : DataW Unit := .agg ((List.range 16).map fun i => .agg [.lit (.string (kn i)), .lit (.string (kt i))])
theorem nam_eq : (Rows.laid_whisperer_keys_kinds : DataW Unit) = namDatum := by kernel_rfl

theorem nam_of {W : World} {cs : Array Value} {f : Nat} {p : List MemPlace} (hv : W.var? Tryd.prog "whisperer/keys.kinds" = some cs)
    (hd : DataW.trod (fun _ => ()) Tryd.prog W 0 (fun _ => true) false f 50 cs.toList = some (namDatum, p)) :
    ∀ i, i < 16 → W.cell? ⟨0, 2 * i, none⟩ = some (.string (st (kn i))) ∧ W.cell? ⟨0, 2 * i + 1, none⟩ = some (.string (st (kt i))) := by
  intro i hi
  obtain ⟨xs, m, _, hx, _, hxl, hel⟩ := DataW.trod_array Tryd.underlying50 hd
  have hxs : xs.map (·.1) = (List.range 16).map fun i => (.agg [.lit (.string (kn i)), .lit (.string (kt i))] : DataW Unit) := by
    have := congrArg Prod.fst hx
    simpa [namDatum] using this.symm
  have h1 := hel i hi
  obtain ⟨y, hy⟩ : ∃ y, xs[i]? = some y := ⟨xs[i]'(by omega), List.getElem?_eq_getElem (by omega)⟩
  have hy1 : y.1 = .agg [.lit (.string (kn i)), .lit (.string (kt i))] := by
    have := congrArg (·[i]?) hxs
    simpa [hy, hi] using this
  rw [hy, cRow] at h1
  obtain ⟨y0, y1, n, e, _, e0, e1⟩ := trod_struct2 Tryd.underlying49 h1
  obtain ⟨s0, k0, r0, _⟩ := DataW.trod_string Tryd.underlying9 e0
  obtain ⟨s1, k1, r1, _⟩ := DataW.trod_string Tryd.underlying9 e1
  subst r0
  subst r1
  rw [e] at hy1
  simp only [DataW.agg.injEq, List.cons.injEq, DataW.lit.injEq, Lit.string.injEq, and_true] at hy1
  obtain ⟨hs0, hs1⟩ := hy1
  rw [cStr] at k0 k1
  have g0 := congrArg (·[0]?) k0
  have g1 := congrArg (·[0]?) k1
  simp [List.getElem?_drop] at g0 g1
  rw [World.var?_cell gNam hv, World.var?_cell gNam hv, Nat.mul_comm 2 i]
  refine ⟨?_, ?_⟩
  · rw [g0, ← hs0, st_of]
  · rw [g1, ← hs1, st_of]
abbrev laidL : List (String × DataW Unit) := [("math/bits.deBruijn32tab", Rows.laid_math_bits_deBruijn32tab), ("math/bits.deBruijn64tab", Rows.laid_math_bits_deBruijn64tab), ("internal/strconv.uint64pow10", Rows.laid_internal_strconv_uint64pow10), ("strconv.ErrRange", Rows.laid_strconv_ErrRange), ("strconv.ErrSyntax", Rows.laid_strconv_ErrSyntax), ("whisperer/keys.kinds", Rows.laid_whisperer_keys_kinds)]
theorem tabs_of_laid {W : World} (h : laidMetH Tryd.prog [("math/bits.deBruijn32tab", Rows.laid_math_bits_deBruijn32tab), ("math/bits.deBruijn64tab", Rows.laid_math_bits_deBruijn64tab), ("internal/strconv.uint64pow10", Rows.laid_internal_strconv_uint64pow10), ("strconv.ErrRange", Rows.laid_strconv_ErrRange), ("strconv.ErrSyntax", Rows.laid_strconv_ErrSyntax), ("whisperer/keys.kinds", Rows.laid_whisperer_keys_kinds)] W) : Tabs W := by
  rw [MakeChecks.laidMetH_plain _ _ _ (by kernel_rfl)] at h
  have h1 := h.tail
  have h2 := h1.tail
  have h3 := h2.tail
  have h4 := h3.tail
  have h5 := h4.tail
  rw [pow_eq] at h2
  have i2 := Lib.tabIs_of_head gPow tPow Tryd.underlying95 Tryd.underlying81 cU64 cPow h2
  obtain ⟨a3, s3, v3, _⟩ := laid_sentinel h3 gRng tRng Tryd.underlying67 rowErr Tryd.underlying110 Tryd.underlying112 rfl rfl Tryd.underlying9 cErr cStr
  obtain ⟨a4, s4, v4, _⟩ := laid_sentinel h4 gSyn tSyn Tryd.underlying67 rowErr Tryd.underlying110 Tryd.underlying112 rfl rfl Tryd.underlying9 cErr cStr
  obtain ⟨ps, ⟨g5, t5, cs5, f5, p5, q5, hg5, ht5, hv5, hd5, _, _⟩, _, _⟩ := h5
  obtain rfl := Option.some.inj (gNam.symm.trans hg5)
  obtain rfl := Option.some.inj (tNam.symm.trans ht5)
  rw [nam_eq] at hd5
  have e4 : W.cell? ⟨5, 0, none⟩ = some (.iface 110 (.pointer (some a4))) := by simpa using World.var?_cell gSyn v4 0
  have e3 : W.cell? ⟨6, 0, none⟩ = some (.iface 110 (.pointer (some a3))) := by simpa using World.var?_cell gRng v3 0
  exact ⟨i2, ⟨_, _, e4⟩, ⟨_, _, e3⟩, nam_of hv5 hd5⟩

/-- A block with other cells. -/
def withCells (cs : Array Value) : Obj → Obj
  | .cells _ t frozen => .cells cs t frozen
  | o => o
noncomputable def low : Nat := (World.holding Tryd.prog default ⟨#[], #[], []⟩).heap.size
abbrev synS : ByteArray := { data := #[105, 110, 118, 97, 108, 105, 100, 32, 115, 121, 110, 116, 97, 120] }
abbrev rngS : ByteArray := { data := #[118, 97, 108, 117, 101, 32, 111, 117, 116, 32, 111, 102, 32, 114, 97, 110, 103, 101] }
def t32Nums : List Int := [0, 1, 28, 2, 29, 14, 24, 3, 30, 22, 20, 15, 25, 17, 4, 8, 31, 27, 13, 23, 21, 19, 16, 7, 26, 12, 18, 6, 11, 5, 10, 9]
/-- A world for the witness: the settled one, the variables holding what their texts lay. -/
noncomputable def laidWorld (os : Os) : World :=
  let w0 := World.holding Tryd.prog os ⟨#[.cells #[.string rngS] 112, .cells #[.string synS] 112], #[], []⟩
  let h1 := w0.heap.modify 7 (withCells (t32Nums.map (Value.int .u8)).toArray)
  let h2 := h1.modify 8 (withCells (t64Nums.map (Value.int .u8)).toArray)
  let h3 := h2.modify 4 (withCells (Lib.pow10Tab.map (Value.int .u64)).toArray)
  let h4 := h3.modify 6 (withCells #[.iface 110 (.pointer (some ⟨low, 0, none⟩))])
  let h5 := h4.modify 5 (withCells #[.iface 110 (.pointer (some ⟨low + 1, 0, none⟩))])
  let h6 := h5.modify 0 (withCells ((List.range 16).flatMap fun i => [Value.string (st (kn i)), .string (st (kt i))]).toArray)
  { w0 with heap := h6 }

set_option maxRecDepth 100000 in
theorem laid_met (os : Os) (args : Array Value) : laidMet Tryd.prog [("math/bits.deBruijn32tab", Rows.laid_math_bits_deBruijn32tab), ("math/bits.deBruijn64tab", Rows.laid_math_bits_deBruijn64tab), ("internal/strconv.uint64pow10", Rows.laid_internal_strconv_uint64pow10), ("strconv.ErrRange", Rows.laid_strconv_ErrRange), ("strconv.ErrSyntax", Rows.laid_strconv_ErrSyntax), ("whisperer/keys.kinds", Rows.laid_whisperer_keys_kinds)] ((laidWorld os).forCall (fun _ _ => 0) ⟨#[], args, []⟩).memory :=
  laidMet_of_run' 8 (by kernel_rfl) (by kernel_rfl)

theorem own : ownKnob Tryd.prog.godebug = none := by kernel_rfl
theorem laidOut : laidOutB Tryd.prog = true := by kernel_rfl

end Go.Proofs.YtngbpkbojjipgaaDoor
