/-
  From a row's reading of attributes and of a text to numbers and bytes.
-/
import Derived.Test.YtlgbdbkenalonaaDoorAlive
import Derived.Test.YtlgbdbkenalonaaDoorLaid
import Derived.Test.YtlgbdbkenalonaaDoorCards
import Derived.Test.YtlgbdbkenalonaaDoorTie
import Derived.ChangeOld
import Derived.ChangeSlices
import Derived.ChangeMaps5
import Derived.Carry
import Derived.Deep.Strs
import Derived.SizedLaws
namespace Go.Proofs.YtlgbdbkenalonaaDoor
open Go.ChangeShapes Go.WideShapes Go.ChangeAt Go.RowKit Go.Lib Go.Deep
set_option linter.unusedVariables false

theorem u8_nat {z : Int} (h : (Lit.int .u8 z).wf = true) : ∃ n : Nat, z = (n : Int) ∧ n < 256 := by
  simp [Lit.wf, IntKind.min, IntKind.max, IntKind.signed, IntKind.bits] at h
  exact ⟨z.toNat, by omega, by omega⟩
theorem u32_nat {z : Int} (h : (Lit.int .u32 z).wf = true) : ∃ n : Nat, z = (n : Int) ∧ n < 4294967296 := by
  simp [Lit.wf, IntKind.min, IntKind.max, IntKind.signed, IntKind.bits] at h
  exact ⟨z.toNat, by omega, by omega⟩
theorem cAttrs : Tryd.prog.cellsOf 24 = 3 := by kernel_rfl
section
variable {H : Type} {enc : TypeId × Value → H}
set_option maxRecDepth 100000 in
theorem open_attrs {W : World} {base : Nat} {v : Value} {d : DataW H} {p : List MemPlace} (hval : Value.okWide Tryd.prog W .any base 24 v)
    (h0 : DataW.Trod enc Tryd.prog W 0 (fun _ => true) true 24 v d p) : ∃ f m t : Nat, v = av f m t ∧ Ok f m t := by
  obtain ⟨cs, rfl, hsz⟩ := okWide_struct Tryd.underlying24 hval
  obtain ⟨fuel, hf⟩ := h0
  obtain ⟨y0, y1, y2, n, _, hl, e0, e1, e2⟩ := trod_struct3 Tryd.underlying24 hf
  obtain ⟨z0, k0, _, w0⟩ := DataW.trod_int Tryd.underlying22 e0
  obtain ⟨z1, k1, _, w1⟩ := DataW.trod_int Tryd.underlying5 e1
  obtain ⟨z2, k2, _, w2⟩ := DataW.trod_int Tryd.underlying5 e2
  obtain ⟨f, rfl, hf0⟩ := u32_nat w0
  obtain ⟨m, rfl, hm0⟩ := u8_nat w1
  obtain ⟨t, rfl, ht0⟩ := u8_nat w2
  refine ⟨f, m, t, ?_, ⟨hf0, hm0, ht0⟩⟩
  rw [cAttrs] at hsz
  obtain ⟨l⟩ := cs
  match l, hsz with
  | [a, b, c], _ =>
    rw [cU32] at k0
    rw [cByte] at k1 k2
    simp [Value.cells] at k0 k1 k2
    subst k0 k1 k2
    rfl
end
end Go.Proofs.YtlgbdbkenalonaaDoor
