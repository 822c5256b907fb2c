/-
  From a row's reading of what is asked, of two numbers, of a number, to them.
-/
import Derived.Test.YtjenbhaaahpliaaDoorVLaid
import Derived.Test.YtjenbhaaahpliaaDoorChk
import Derived.Test.YtjenbhaaahpliaaDoorCards
import Derived.Test.YtjenbhaaahpliaaDoorTie
import Derived.ChangeOld
import Derived.ChangeSlices
import Derived.ChangeMaps5
import Derived.Carry
import Derived.Deep.Strs
import Derived.SizedLaws
namespace Go.Proofs.YtjenbhaaahpliaaDoor
open Go.ChangeShapes Go.WideShapes Go.ChangeAt Go.RowKit Go.Lib Go.Deep
set_option linter.unusedVariables false

theorem u8_nat {z : Int} (h : (Lit.int .u8 z).wf = true) : ∃ n : Nat, z = (n : Int) ∧ n < 256 := by
  simp [Lit.wf, IntKind.min, IntKind.max, IntKind.signed, IntKind.bits] at h
  exact ⟨z.toNat, by omega, by omega⟩
theorem u16_nat {z : Int} (h : (Lit.int .u16 z).wf = true) : ∃ n : Nat, z = (n : Int) ∧ n < 65536 := by
  simp [Lit.wf, IntKind.min, IntKind.max, IntKind.signed, IntKind.bits] at h
  exact ⟨z.toNat, by omega, by omega⟩
theorem i64_bd {z : Int} (h : (Lit.int .i64 z).wf = true) : -9223372036854775808 ≤ z ∧ z ≤ 9223372036854775807 := by
  simp [Lit.wf, IntKind.min, IntKind.max, IntKind.signed, IntKind.bits] at h
  omega
theorem cAsk : Tryd.prog.cellsOf 23 = 3 := by kernel_rfl
theorem cTwo : Tryd.prog.cellsOf 40 = 2 := by kernel_rfl
theorem cTwo16 : Tryd.prog.cellsOf 46 = 2 := by kernel_rfl
theorem cInt : Tryd.prog.cellsOf 3 = 1 := by kernel_rfl
theorem cU16 : Tryd.prog.cellsOf 44 = 1 := by kernel_rfl
theorem cStr : Tryd.prog.cellsOf 9 = 1 := by kernel_rfl
section
variable {H : Type} {enc : TypeId × Value → H}
set_option maxRecDepth 100000 in
theorem open_ask {W : World} {base : Nat} {v : Value} {d : DataW H} {p : List MemPlace} (hval : Value.okWide Tryd.prog W .any base 23 v)
    (h0 : DataW.Trod enc Tryd.prog W 0 (fun _ => true) true 23 v d p) : ∃ (l : List UInt8) (m r : Int), v = askv l m r ∧ l.length ≤ maxLen := by
  obtain ⟨cs, rfl, hsz⟩ := okWide_struct Tryd.underlying23 hval
  obtain ⟨fuel, hf⟩ := h0
  obtain ⟨y0, y1, y2, n, _, hl, e0, e1, e2⟩ := trod_struct3 Tryd.underlying23 hf
  obtain ⟨s, k0, _, w0⟩ := DataW.trod_string Tryd.underlying9 e0
  obtain ⟨z1, k1, _, w1⟩ := DataW.trod_int Tryd.underlying3 e1
  obtain ⟨z2, k2, _, w2⟩ := DataW.trod_int Tryd.underlying3 e2
  refine ⟨s.data.toList, z1, z2, ?_, by rw [Array.length_toList]; exact w0⟩
  rw [cAsk] at hsz
  obtain ⟨l⟩ := cs
  match l, hsz with
  | [a, b, c], _ =>
    rw [cStr] at k0
    rw [cInt] at k1 k2
    simp [Value.cells] at k0 k1 k2
    subst k0 k1 k2
    unfold askv
    rw [st_of]
set_option maxRecDepth 100000 in
theorem open_two {W : World} {base : Nat} {v : Value} {d : DataW H} {p : List MemPlace} (hval : Value.okWide Tryd.prog W .any base 40 v)
    (h0 : DataW.Trod enc Tryd.prog W 0 (fun _ => true) true 40 v d p) : ∃ x y : Int, v = .agg #[.int .i64 x, .int .i64 y] := by
  simp only [Value.okWide, Tryd.underlying40] at hval
  obtain ⟨cs, rfl, hsz, _⟩ := hval
  obtain ⟨l⟩ := cs
  match l, hsz.trans cTwo with
  | [u0, u1], _ =>
    obtain ⟨fuel, hf⟩ := h0
    obtain ⟨xs, m, _, _, _, hxl, hel⟩ := DataW.trod_array Tryd.underlying40 hf
    have t0 := hel 0 (by omega)
    have t1 := hel 1 (by omega)
    rw [List.getElem?_eq_getElem (by omega)] at t0 t1
    simp only [Value.cells, cInt, Nat.zero_mul, Nat.one_mul, List.drop_zero, List.drop_succ_cons, List.take_succ_cons, List.take_zero] at t0 t1
    obtain ⟨n0, e0, _, w0⟩ := DataW.trod_int Tryd.underlying3 t0
    obtain ⟨n1, e1, _, w1⟩ := DataW.trod_int Tryd.underlying3 t1
    simp only [List.cons.injEq, and_true] at e0 e1
    exact ⟨n0, n1, by rw [e0, e1]⟩
set_option maxRecDepth 100000 in
theorem open_two16 {W : World} {base : Nat} {v : Value} {d : DataW H} {p : List MemPlace} (hval : Value.okWide Tryd.prog W .any base 46 v)
    (h0 : DataW.Trod enc Tryd.prog W 0 (fun _ => true) true 46 v d p) : ∃ x y : Nat, v = .agg #[.int .u16 (x : Int), .int .u16 (y : Int)] ∧ x < 65536 ∧ y < 65536 := by
  simp only [Value.okWide, Tryd.underlying46] at hval
  obtain ⟨cs, rfl, hsz, _⟩ := hval
  obtain ⟨l⟩ := cs
  match l, hsz.trans cTwo16 with
  | [u0, u1], _ =>
    obtain ⟨fuel, hf⟩ := h0
    obtain ⟨xs, m, _, _, _, hxl, hel⟩ := DataW.trod_array Tryd.underlying46 hf
    have t0 := hel 0 (by omega)
    have t1 := hel 1 (by omega)
    rw [List.getElem?_eq_getElem (by omega)] at t0 t1
    simp only [Value.cells, cU16, Nat.zero_mul, Nat.one_mul, List.drop_zero, List.drop_succ_cons, List.take_succ_cons, List.take_zero] at t0 t1
    obtain ⟨n0, e0, _, w0⟩ := DataW.trod_int Tryd.underlying44 t0
    obtain ⟨n1, e1, _, w1⟩ := DataW.trod_int Tryd.underlying44 t1
    simp only [List.cons.injEq, and_true] at e0 e1
    obtain ⟨x, rfl, hx⟩ := u16_nat w0
    obtain ⟨y, rfl, hy⟩ := u16_nat w1
    exact ⟨x, y, by rw [e0, e1], hx, hy⟩
end
end Go.Proofs.YtjenbhaaahpliaaDoor
