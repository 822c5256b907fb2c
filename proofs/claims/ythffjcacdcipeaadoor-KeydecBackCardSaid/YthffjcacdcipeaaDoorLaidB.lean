/-
  What a row's list of the library's two tables and the program's kinds gives the walks; and a world in which they are laid.
-/
import Derived.Test.YthffjcacdcipeaaDoorArgs
import Derived.Test.YthffjcacdcipeaaDoorKBytK
namespace Go.Proofs.YthffjcacdcipeaaDoor
open Go.ChangeShapes Go.WideShapes Go.ChangeAt Go.RowKit Go.Lib
set_option linter.unusedVariables false

theorem gNam : Tryd.prog.globalNamed "whisperer/keys.kinds" = some 0 := by kernel_rfl
theorem tNam : (Tryd.prog.globals[0]?).map (·.type) = some 78 := by kernel_rfl
theorem cStr : Tryd.prog.cellsOf 9 = 1 := by kernel_rfl
theorem cRow : Tryd.prog.cellsOf 77 = 2 := by kernel_rfl
def namDatum : DataW Unit := .agg ((List.range 16).map fun i => .agg [.lit (.string (K.kn i)), .lit (.string (K.kt i))])
theorem nam_eq : (Rows.laid_whisperer_keys_kinds : DataW Unit) = namDatum := by kernel_rfl
theorem nam_of {W : World} {cs : Array Value} {f : Nat} {p : List MemPlace} (hv : W.var? Tryd.prog "whisperer/keys.kinds" = some cs)
    (hd : DataW.trod (fun _ => ()) Tryd.prog W 0 (fun _ => true) false f 78 cs.toList = some (namDatum, p)) :
    ∀ i, i < 16 → W.cell? ⟨0, 2 * i, none⟩ = some (.string (st (K.kn i))) ∧ W.cell? ⟨0, 2 * i + 1, none⟩ = some (.string (st (K.kt i))) := by
  intro i hi
  obtain ⟨xs, m, _, hx, _, hxl, hel⟩ := DataW.trod_array Tryd.underlying78 hd
  have hxs : xs.map (·.1) = (List.range 16).map fun i => (.agg [.lit (.string (K.kn i)), .lit (.string (K.kt i))] : DataW Unit) := by
    have := congrArg Prod.fst hx
    simpa [namDatum] using this.symm
  have h1 := hel i hi
  obtain ⟨y, hy⟩ : ∃ y, xs[i]? = some y := ⟨xs[i]'(by omega), List.getElem?_eq_getElem (by omega)⟩
  have hy1 : y.1 = .agg [.lit (.string (K.kn i)), .lit (.string (K.kt i))] := by
    have := congrArg (·[i]?) hxs
    simpa [hy, hi] using this
  rw [hy, cRow] at h1
  obtain ⟨y0, y1, n, e, _, e0, e1⟩ := trod_struct2 Tryd.underlying77 h1
  obtain ⟨s0, k0, r0, _⟩ := DataW.trod_string Tryd.underlying9 e0
  obtain ⟨s1, k1, r1, _⟩ := DataW.trod_string Tryd.underlying9 e1
  subst r0
  subst r1
  rw [e] at hy1
  simp only [DataW.agg.injEq, List.cons.injEq, DataW.lit.injEq, Lit.string.injEq, and_true] at hy1
  obtain ⟨hs0, hs1⟩ := hy1
  rw [cStr] at k0 k1
  have g0 := congrArg (·[0]?) k0
  have g1 := congrArg (·[0]?) k1
  simp [List.getElem?_drop] at g0 g1
  rw [World.var?_cell gNam hv, World.var?_cell gNam hv, Nat.mul_comm 2 i]
  refine ⟨?_, ?_⟩
  · rw [g0, ← hs0, st_of]
  · rw [g1, ← hs1, st_of]
theorem tabs_of_laidB {W : World} (h : laidMetH Tryd.prog [("unicode/utf8.acceptRanges", Rows.laid_unicode_utf8_acceptRanges), ("whisperer/keys.kinds", Rows.laid_whisperer_keys_kinds), ("unicode/utf8.first", Rows.laid_unicode_utf8_first)] W) : U.Tabs W ∧ K.Kinds W := by
  rw [MakeChecks.laidMetH_plain _ _ _ (by kernel_rfl)] at h
  obtain ⟨ps, ⟨g0, t0, cs0, f0, p0, q0, hg0, ht0, hv0, hd0, ⟨g5, t5, cs5, f5, p5, q5, hg5, ht5, hv5, hd5, ⟨g1, t1, cs1, f1, p1, q1, hg1, ht1, hv1, hd1, _, _⟩, _⟩, _⟩, _, _⟩ := h
  obtain rfl := Option.some.inj (gNam.symm.trans hg5)
  obtain rfl := Option.some.inj (tNam.symm.trans ht5)
  rw [nam_eq] at hd5
  obtain rfl := Option.some.inj (gAccept.symm.trans hg0)
  obtain rfl := Option.some.inj (gFirst.symm.trans hg1)
  obtain rfl := Option.some.inj (tAccept.symm.trans ht0)
  obtain rfl := Option.some.inj (tFirst.symm.trans ht1)
  rw [accept_eq] at hd0
  rw [first_eq] at hd1
  refine ⟨?_, ⟨nam_of hv5 hd5⟩⟩
  refine ⟨fun c hc => ?_, fun i hi => ?_⟩
  · have hcs := cells_of_tab Tryd.underlying102 Tryd.underlying5 cByte cFirst hd1
    rw [World.var?_cell hg1 hv1 c, ← Array.getElem?_toList, hcs]
    simp [firstNums, hc]
  · obtain ⟨xs, m, _, hx, _, hxl, hel⟩ := DataW.trod_array Tryd.underlying105 hd0
    have hxs : xs.map (·.1) = (List.range 16).map fun i => (.agg [.lit (.int .u8 (accLo i)), .lit (.int .u8 (accHi i))] : DataW Unit) := by
      have := congrArg Prod.fst hx
      simpa [acceptDatum] using this.symm
    have h1 := hel i hi
    obtain ⟨y, hy⟩ : ∃ y, xs[i]? = some y := ⟨xs[i]'(by omega), List.getElem?_eq_getElem (by omega)⟩
    have hy1 : y.1 = .agg [.lit (.int .u8 (accLo i)), .lit (.int .u8 (accHi i))] := by
      have := congrArg (·[i]?) hxs
      simpa [hy, hi] using this
    rw [hy, cPair] at h1
    obtain ⟨y0, y1, n, e, _, e0, e1⟩ := trod_struct2 Tryd.underlying104 h1
    obtain ⟨z0, k0, r0, _⟩ := DataW.trod_int Tryd.underlying5 e0
    obtain ⟨z1, k1, r1, _⟩ := DataW.trod_int Tryd.underlying5 e1
    subst r0
    subst r1
    rw [e] at hy1
    simp only [DataW.agg.injEq, List.cons.injEq, DataW.lit.injEq, Lit.int.injEq, true_and, and_true] at hy1
    obtain ⟨rfl, rfl⟩ := hy1
    rw [cByte] at k0 k1
    rw [World.var?_cell hg0 hv0, World.var?_cell hg0 hv0]
    have g0 := congrArg (·[0]?) k0
    have g1 := congrArg (·[0]?) k1
    simp [List.getElem?_drop] at g0 g1
    constructor
    · rw [Nat.mul_comm]
      exact g0
    · rw [Nat.mul_comm]
      exact g1

/-- A world for the witness: the tables and the kinds holding what their texts lay. -/
noncomputable def laidWorldB (os : Os) : World :=
  { laidWorld os with heap := (laidWorld os).heap.modify 0 (withCells ((List.range 16).flatMap fun i => [Value.string (st (K.kn i)), .string (st (K.kt i))]).toArray) }
set_option maxRecDepth 100000 in
theorem laid_metB (os : Os) (args : Array Value) : laidMet Tryd.prog [("unicode/utf8.acceptRanges", Rows.laid_unicode_utf8_acceptRanges), ("whisperer/keys.kinds", Rows.laid_whisperer_keys_kinds), ("unicode/utf8.first", Rows.laid_unicode_utf8_first)] ((laidWorldB os).forCall (fun _ _ => 0) ⟨#[], args, []⟩).memory :=
  laidMet_of_run' 8 (by kernel_rfl) (by kernel_rfl)
end Go.Proofs.YthffjcacdcipeaaDoor
