/-
  From a row's reading of keys and of a text to numbers and bytes.
-/
import Derived.Test.YtngbpkbojjipgaaDoorAlive
import Derived.Test.YtngbpkbojjipgaaDoorCards
import Derived.Test.YtngbpkbojjipgaaDoorTie
import Derived.ChangeOld
import Derived.ChangeSlices
import Derived.ChangeMaps5
import Derived.Carry
import Derived.Deep.Strs
import Derived.SizedLaws
namespace Go.Proofs.YtngbpkbojjipgaaDoor
open Go.ChangeShapes Go.WideShapes Go.ChangeAt Go.RowKit Go.Lib Go.Deep
set_option linter.unusedVariables false

theorem cKey : Tryd.prog.cellsOf 23 = 2 := by kernel_rfl
theorem cInt : Tryd.prog.cellsOf 3 = 1 := by kernel_rfl
section
variable {H : Type} {enc : TypeId × Value → H}
set_option maxRecDepth 100000 in
theorem open_key {W : World} {base : Nat} {v : Value} {d : DataW H} {p : List MemPlace} (hval : Value.okWide Tryd.prog W .any base 23 v)
    (h0 : DataW.Trod enc Tryd.prog W 0 (fun _ => true) true 23 v d p) : ∃ k c : Int, v = kv k c ∧ (Lit.int .i64 k).wf = true ∧ (Lit.int .i64 c).wf = true := by
  obtain ⟨cs, rfl, hsz⟩ := okWide_struct Tryd.underlying23 hval
  obtain ⟨fuel, hf⟩ := h0
  obtain ⟨y0, y1, n, _, hl, e0, e1⟩ := trod_struct2 Tryd.underlying23 hf
  obtain ⟨z0, k0, _, w0⟩ := DataW.trod_int Tryd.underlying3 e0
  obtain ⟨z1, k1, _, w1⟩ := DataW.trod_int Tryd.underlying3 e1
  refine ⟨z0, z1, ?_, w0, w1⟩
  rw [cKey] at hsz
  obtain ⟨l⟩ := cs
  match l, hsz with
  | [a, b], _ =>
    rw [cInt] at k0 k1
    simp [Value.cells] at k0 k1
    subst k0 k1
    rfl
end
end Go.Proofs.YtngbpkbojjipgaaDoor
