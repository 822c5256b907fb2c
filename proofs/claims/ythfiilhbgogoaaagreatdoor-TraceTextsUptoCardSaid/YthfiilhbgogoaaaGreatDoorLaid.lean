/-
  What a row's list of variables gives the walks; and a world in which they are laid.
-/
import Derived.Test.YthfiilhbgogoaaaGreatDoorTabs
import Derived.Test.YthfiilhbgogoaaaGreatDoorRows
import Derived.ProofKit
import Derived.OpenShut
import Derived.Lib.LaidTab
import Derived.LaidMore
import Derived.Stop.LaidErr
import Derived.Deep.DeepHandedRow
namespace Go.Proofs.YthfiilhbgogoaaaGreatDoor
open Go.ChangeShapes Go.WideShapes Go.ChangeAt Go.RowKit Go.Lib
set_option linter.unusedVariables false

theorem gT64 : Tryz.prog.globalNamed "math/bits.deBruijn64tab" = some 8 := by kernel_rfl
theorem gSyn : Tryz.prog.globalNamed "strconv.ErrSyntax" = some 3 := by kernel_rfl
theorem gRng : Tryz.prog.globalNamed "strconv.ErrRange" = some 4 := by kernel_rfl
theorem gNam : Tryz.prog.globalNamed "whisperer/attrs.named" = some 1 := by kernel_rfl
theorem tT64 : (Tryz.prog.globals[8]?).map (·.type) = some 165 := by kernel_rfl
theorem tPow : (Tryz.prog.globals[2]?).map (·.type) = some 144 := by kernel_rfl
theorem tSyn : (Tryz.prog.globals[3]?).map (·.type) = some 59 := by kernel_rfl
theorem tRng : (Tryz.prog.globals[4]?).map (·.type) = some 59 := by kernel_rfl
theorem tNam : (Tryz.prog.globals[1]?).map (·.type) = some 117 := by kernel_rfl
theorem cByte : Tryz.prog.cellsOf 5 = 1 := by kernel_rfl
theorem cU32 : Tryz.prog.cellsOf 39 = 1 := by kernel_rfl
theorem cU64 : Tryz.prog.cellsOf 119 = 1 := by kernel_rfl
theorem cStr : Tryz.prog.cellsOf 9 = 1 := by kernel_rfl
theorem cT64 : Tryz.prog.cellsOf 165 = 64 := by kernel_rfl
theorem cPow : Tryz.prog.cellsOf 144 = 20 := by kernel_rfl
theorem cErr : Tryz.prog.cellsOf 163 = 1 := by kernel_rfl
theorem cRow : Tryz.prog.cellsOf 116 = 2 := by kernel_rfl
theorem starS : "*" ++ "errors.errorString" = "*errors.errorString" := by decide
theorem rowErr (u : TypeId) (h : Tryz.prog.typeName? 3 u = some "*errors.errorString") : u = 161 :=
  typeName_ptr_named (nm := "errors.errorString") (by rw [starS]; kernel_rfl) (by kernel_rfl) (by decide) u (by rw [starS]; exact h)

def t64Nums : List Int := [0, 1, 56, 2, 57, 49, 28, 3, 61, 58, 42, 50, 38, 29, 17, 4, 62, 47, 59, 36, 45, 43, 51, 22, 53, 39, 33, 30, 24, 18, 12, 5, 63, 55, 48, 27, 60, 41, 37, 16, 46, 35, 44, 21, 52, 32, 23, 11, 54, 26, 40, 15, 34, 20, 31, 10, 25, 14, 19, 9, 13, 8, 7, 6]
theorem t64_eq : (Rows.laid_math_bits_deBruijn64tab : DataW Unit) = Lib.tabData .u8 t64Nums := by kernel_rfl
theorem pow_eq : (Rows.laid_internal_strconv_uint64pow10 : DataW Unit) = Lib.tabData .u64 Lib.pow10Tab := by kernel_rfl
def namDatum : DataW Unit := .agg ((List.range 7).map fun i => .agg [.lit (.int .u32 ((2 ^ i : Nat) : Int)), .lit (.string (nm i))])
theorem nam_eq : (Rows.laid_whisperer_attrs_named : DataW Unit) = namDatum := by kernel_rfl

theorem nam_of {W : World} {cs : Array Value} {f : Nat} {p : List MemPlace} (hv : W.var? Tryz.prog "whisperer/attrs.named" = some cs)
    (hd : DataW.trod (fun _ => ()) Tryz.prog W 0 (fun _ => true) false f 117 cs.toList = some (namDatum, p)) :
    ∀ i, i < 7 → W.cell? ⟨1, 2 * i, none⟩ = some (.int .u32 (2 ^ i)) ∧ W.cell? ⟨1, 2 * i + 1, none⟩ = some (.string (st (nm i))) := by
  intro i hi
  obtain ⟨xs, m, _, hx, _, hxl, hel⟩ := DataW.trod_array Tryz.underlying117 hd
  have hxs : xs.map (·.1) = (List.range 7).map fun i => (.agg [.lit (.int .u32 ((2 ^ i : Nat) : Int)), .lit (.string (nm i))] : DataW Unit) := by
    have := congrArg Prod.fst hx
    simpa [namDatum] using this.symm
  have h1 := hel i hi
  obtain ⟨y, hy⟩ : ∃ y, xs[i]? = some y := ⟨xs[i]'(by omega), List.getElem?_eq_getElem (by omega)⟩
  have hy1 : y.1 = .agg [.lit (.int .u32 ((2 ^ i : Nat) : Int)), .lit (.string (nm i))] := by
    have := congrArg (·[i]?) hxs
    simpa [hy, hi] using this
  rw [hy, cRow] at h1
  obtain ⟨y0, y1, n, e, _, e0, e1⟩ := trod_struct2 Tryz.underlying116 h1
  obtain ⟨z0, k0, r0, _⟩ := DataW.trod_int Tryz.underlying39 e0
  obtain ⟨s1, k1, r1, _⟩ := DataW.trod_string Tryz.underlying9 e1
  subst r0
  subst r1
  rw [e] at hy1
  simp only [DataW.agg.injEq, List.cons.injEq, DataW.lit.injEq, Lit.int.injEq, Lit.string.injEq, true_and, and_true] at hy1
  obtain ⟨rfl, hs⟩ := hy1
  rw [cU32] at k0
  rw [cStr] at k1
  have g0 := congrArg (·[0]?) k0
  have g1 := congrArg (·[0]?) k1
  simp [List.getElem?_drop] at g0 g1
  rw [World.var?_cell gNam hv, World.var?_cell gNam hv, Nat.mul_comm 2 i]
  refine ⟨?_, ?_⟩
  · rw [g0]
  · rw [g1, ← hs, st_of]
abbrev laidL : List (String × DataW Unit) := [("math/bits.deBruijn32tab", Rows.laid_math_bits_deBruijn32tab), ("math/bits.deBruijn64tab", Rows.laid_math_bits_deBruijn64tab), ("internal/strconv.uint64pow10", Rows.laid_internal_strconv_uint64pow10), ("unicode/utf8.acceptRanges", Rows.laid_unicode_utf8_acceptRanges), ("strconv.ErrRange", Rows.laid_strconv_ErrRange), ("strconv.ErrSyntax", Rows.laid_strconv_ErrSyntax), ("whisperer/attrs.named", Rows.laid_whisperer_attrs_named), ("unicode/utf8.first", Rows.laid_unicode_utf8_first)]
theorem tabs_of_laid {W : World} (h : laidMetH Tryz.prog [("math/bits.deBruijn32tab", Rows.laid_math_bits_deBruijn32tab), ("math/bits.deBruijn64tab", Rows.laid_math_bits_deBruijn64tab), ("internal/strconv.uint64pow10", Rows.laid_internal_strconv_uint64pow10), ("unicode/utf8.acceptRanges", Rows.laid_unicode_utf8_acceptRanges), ("strconv.ErrRange", Rows.laid_strconv_ErrRange), ("strconv.ErrSyntax", Rows.laid_strconv_ErrSyntax), ("whisperer/attrs.named", Rows.laid_whisperer_attrs_named), ("unicode/utf8.first", Rows.laid_unicode_utf8_first)] W) : Tabs W := by
  rw [MakeChecks.laidMetH_plain _ _ _ (by kernel_rfl)] at h
  have h1 := h.tail
  have h2 := h1.tail
  have h3 := h2.tail.tail
  have h4 := h3.tail
  have h5 := h4.tail
  rw [t64_eq] at h1
  rw [pow_eq] at h2
  have i1 := Lib.tabIs_of_head gT64 tT64 Tryz.underlying165 Tryz.underlying5 cByte cT64 h1
  have i2 := Lib.tabIs_of_head gPow tPow Tryz.underlying144 Tryz.underlying119 cU64 cPow h2
  obtain ⟨a3, s3, v3, _⟩ := laid_sentinel h3 gRng tRng Tryz.underlying59 rowErr Tryz.underlying161 Tryz.underlying163 rfl rfl Tryz.underlying9 cErr cStr
  obtain ⟨a4, s4, v4, _⟩ := laid_sentinel h4 gSyn tSyn Tryz.underlying59 rowErr Tryz.underlying161 Tryz.underlying163 rfl rfl Tryz.underlying9 cErr cStr
  obtain ⟨ps, ⟨g5, t5, cs5, f5, p5, q5, hg5, ht5, hv5, hd5, _, _⟩, _, _⟩ := h5
  obtain rfl := Option.some.inj (gNam.symm.trans hg5)
  obtain rfl := Option.some.inj (tNam.symm.trans ht5)
  rw [nam_eq] at hd5
  have e4 : W.cell? ⟨3, 0, none⟩ = some (.iface 161 (.pointer (some a4))) := by simpa using World.var?_cell gSyn v4 0
  have e3 : W.cell? ⟨4, 0, none⟩ = some (.iface 161 (.pointer (some a3))) := by simpa using World.var?_cell gRng v3 0
  exact ⟨i2, i1.cell gT64 15 (by decide), ⟨_, _, e4⟩, ⟨_, _, e3⟩, nam_of hv5 hd5⟩

/-- A block with other cells. -/
def withCells (cs : Array Value) : Obj → Obj
  | .cells _ t frozen => .cells cs t frozen
  | o => o
noncomputable def low : Nat := (World.holding Tryz.prog default ⟨#[], #[], []⟩).heap.size
abbrev synS : ByteArray := { data := #[105, 110, 118, 97, 108, 105, 100, 32, 115, 121, 110, 116, 97, 120] }
abbrev rngS : ByteArray := { data := #[118, 97, 108, 117, 101, 32, 111, 117, 116, 32, 111, 102, 32, 114, 97, 110, 103, 101] }
def t32Nums : List Int := [0, 1, 28, 2, 29, 14, 24, 3, 30, 22, 20, 15, 25, 17, 4, 8, 31, 27, 13, 23, 21, 19, 16, 7, 26, 12, 18, 6, 11, 5, 10, 9]
/-- A world for the witness: the settled one, the variables holding what their texts lay. -/
noncomputable def laidWorld (os : Os) : World :=
  let w0 := World.holding Tryz.prog os ⟨#[.cells #[.string rngS] 163, .cells #[.string synS] 163], #[], []⟩
  let h1 := w0.heap.modify 7 (withCells (t32Nums.map (Value.int .u8)).toArray)
  let h2 := h1.modify 8 (withCells (t64Nums.map (Value.int .u8)).toArray)
  let h3 := h2.modify 2 (withCells (Lib.pow10Tab.map (Value.int .u64)).toArray)
  let h4 := h3.modify 4 (withCells #[.iface 161 (.pointer (some ⟨low, 0, none⟩))])
  let h5 := h4.modify 3 (withCells #[.iface 161 (.pointer (some ⟨low + 1, 0, none⟩))])
  let h6 := h5.modify 1 (withCells ((List.range 7).flatMap fun i => [Value.int .u32 ((2 ^ i : Nat) : Int), .string (st (nm i))]).toArray)
  let h7 := h6.modify 6 (withCells (([128, 191, 160, 191, 128, 159, 144, 191, 128, 143, 0, 0, 0, 0, 0, 0, 0, 0, 0, 0, 0, 0, 0, 0, 0, 0, 0, 0, 0, 0, 0, 0] : List Int).map (Value.int .u8)).toArray)
  let h8 := h7.modify 5 (withCells (Go.Pinned.utf8FirstZ.map fun n => Value.int .u8 ((n : Nat) : Int)).toArray)
  { w0 with heap := h8 }

set_option maxRecDepth 100000 in
theorem laid_met (os : Os) (args : Array Value) : laidMet Tryz.prog [("math/bits.deBruijn32tab", Rows.laid_math_bits_deBruijn32tab), ("math/bits.deBruijn64tab", Rows.laid_math_bits_deBruijn64tab), ("internal/strconv.uint64pow10", Rows.laid_internal_strconv_uint64pow10), ("unicode/utf8.acceptRanges", Rows.laid_unicode_utf8_acceptRanges), ("strconv.ErrRange", Rows.laid_strconv_ErrRange), ("strconv.ErrSyntax", Rows.laid_strconv_ErrSyntax), ("whisperer/attrs.named", Rows.laid_whisperer_attrs_named), ("unicode/utf8.first", Rows.laid_unicode_utf8_first)] ((laidWorld os).forCall (fun _ _ => 0) ⟨#[], args, []⟩).memory :=
  laidMet_of_run' 8 (by kernel_rfl) (by kernel_rfl)

theorem own : ownKnob Tryz.prog.godebug = none := by kernel_rfl
theorem laidOut : laidOutB Tryz.prog = true := by kernel_rfl

end Go.Proofs.YthfiilhbgogoaaaGreatDoor
