/-
  From a row's reading of what is asked, of two numbers, of numbers, to them.
-/
import Derived.Test.YtdaenaoagejgeaaGreatDoorSIs
import Derived.Test.YtdaenaoagejgeaaGreatDoorSLaid
import Derived.Test.YtdaenaoagejgeaaGreatDoorVChk
import Derived.Test.YtdaenaoagejgeaaGreatDoorCards
import Derived.Test.YtdaenaoagejgeaaGreatDoorTie
import Derived.ChangeOld
import Derived.ChangeSlices
import Derived.ChangeMaps5
import Derived.Carry
import Derived.Deep.Slices
import Derived.Deep.Strs
import Derived.SizedLaws
namespace Go.Proofs.YtdaenaoagejgeaaGreatDoor
open Go.ChangeShapes Go.WideShapes Go.ChangeAt Go.RowKit Go.Lib Go.Deep
set_option linter.unusedVariables false

theorem u16_nat {z : Int} (h : (Lit.int .u16 z).wf = true) : ∃ n : Nat, z = (n : Int) ∧ n < 65536 := by
  simp [Lit.wf, IntKind.min, IntKind.max, IntKind.signed, IntKind.bits] at h
  exact ⟨z.toNat, by omega, by omega⟩
theorem cAsk : Tryz.prog.cellsOf 23 = 3 := by kernel_rfl
theorem cTwo16 : Tryz.prog.cellsOf 25 = 2 := by kernel_rfl
theorem cInt : Tryz.prog.cellsOf 3 = 1 := by kernel_rfl
theorem cU16 : Tryz.prog.cellsOf 24 = 1 := by kernel_rfl
section
variable {H : Type} {enc : TypeId × Value → H}
set_option maxRecDepth 100000 in
theorem open_ask {W : World} {base : Nat} {v : Value} {d : DataW H} {p : List MemPlace} (hval : Value.okWide Tryz.prog W .any base 23 v)
    (h0 : DataW.Trod enc Tryz.prog W 0 (fun _ => true) true 23 v d p) : ∃ (l : List UInt8) (m r : Int), v = askv l m r ∧ l.length + 1 ≤ Rows.uptoBulk d := by
  obtain ⟨cs, rfl, hsz⟩ := okWide_struct Tryz.underlying23 hval
  obtain ⟨fuel, hf⟩ := h0
  obtain ⟨y0, y1, y2, n, hd, hl, e0, e1, e2⟩ := trod_struct3 Tryz.underlying23 hf
  obtain ⟨s, k0, hy0, w0⟩ := DataW.trod_string Tryz.underlying9 e0
  obtain ⟨z1, k1, _, w1⟩ := DataW.trod_int Tryz.underlying3 e1
  obtain ⟨z2, k2, _, w2⟩ := DataW.trod_int Tryz.underlying3 e2
  refine ⟨s.data.toList, z1, z2, ?_, by
    have hd1 := congrArg Prod.fst hd
    simp only [hy0] at hd1
    rw [hd1]
    simp only [Rows.uptoBulk, Rows.uptoBulkAll]
    omega⟩
  rw [cAsk] at hsz
  obtain ⟨l⟩ := cs
  match l, hsz with
  | [a, b, c], _ =>
    rw [cStr] at k0
    rw [cInt] at k1 k2
    simp [Value.cells] at k0 k1 k2
    subst k0 k1 k2
    unfold askv
    rw [st_of]
set_option maxRecDepth 100000 in
theorem open_two16 {W : World} {base : Nat} {v : Value} {d : DataW H} {p : List MemPlace} (hval : Value.okWide Tryz.prog W .any base 25 v)
    (h0 : DataW.Trod enc Tryz.prog W 0 (fun _ => true) true 25 v d p) : ∃ x y : Nat, v = .agg #[.int .u16 (x : Int), .int .u16 (y : Int)] ∧ x < 65536 ∧ y < 65536 := by
  simp only [Value.okWide, Tryz.underlying25] at hval
  obtain ⟨cs, rfl, hsz, _⟩ := hval
  obtain ⟨l⟩ := cs
  match l, hsz.trans cTwo16 with
  | [u0, u1], _ =>
    obtain ⟨fuel, hf⟩ := h0
    obtain ⟨xs, m, _, _, _, hxl, hel⟩ := DataW.trod_array Tryz.underlying25 hf
    have t0 := hel 0 (by omega)
    have t1 := hel 1 (by omega)
    rw [List.getElem?_eq_getElem (by omega)] at t0 t1
    simp only [Value.cells, cU16, Nat.zero_mul, Nat.one_mul, List.drop_zero, List.drop_succ_cons, List.take_succ_cons, List.take_zero] at t0 t1
    obtain ⟨n0, e0, _, w0⟩ := DataW.trod_int Tryz.underlying24 t0
    obtain ⟨n1, e1, _, w1⟩ := DataW.trod_int Tryz.underlying24 t1
    simp only [List.cons.injEq, and_true] at e0 e1
    obtain ⟨x, rfl, hx⟩ := u16_nat w0
    obtain ⟨y, rfl, hy⟩ := u16_nat w1
    exact ⟨x, y, by rw [e0, e1], hx, hy⟩
set_option maxRecDepth 100000 in
theorem open_nums {W : World} {base : Nat} {v : Value} {d : DataW H} {p : List MemPlace} (hval : Value.okWide Tryz.prog W .any base 26 v)
    (h0 : DataW.Trod enc Tryz.prog W 0 (fun _ => true) true 26 v d p) : ∃ (a : Option Addr) (cap : Nat) (l : List Int), v = .slice a l.length cap ∧ Is W a l ∧ l.length ≤ 9223372036854775807 := by
  obtain ⟨a, len, cap, rfl⟩ := okWide_slice Tryz.underlying26 hval
  obtain ⟨fuel, hf⟩ := h0
  rcases open_ints Tryz.underlying26 Tryz.underlying3 cInt hf with ⟨hcs, _⟩ | ⟨x, l, c, zs, hcs, _, hl, hm, hz, hy, hcell, hwz⟩
  · simp [Value.cells] at hcs
    obtain ⟨rfl, rfl, rfl⟩ := hcs
    exact ⟨none, 0, [], rfl, fun h => absurd rfl h, by simp⟩
  · simp [Value.cells] at hcs
    obtain ⟨rfl, rfl, rfl⟩ := hcs
    have hz' : zs.length = cap := by simpa using hz
    have hlen : (zs.take len).length = len := by simp; omega
    refine ⟨some x, cap, zs.take len, by rw [hlen], fun hne => ?_, by rw [hlen]; unfold maxLen at hm; omega⟩
    have hlen0 : 0 < len := by
      rcases Nat.eq_zero_or_pos len with e | e
      · subst e
        simp at hne
      · exact e
    obtain ⟨b, off, spot⟩ := x
    have hc0 := hcell 0 (by omega)
    have hspot : spot = none := by simpa [Addr.add] using World.cell?_spot hc0
    subst hspot
    rw [addr_add] at hc0
    refine ⟨b, off, rfl, block_lt_of_cell hc0, fun i hi => ?_⟩
    rw [hlen] at hi
    have hc := hcell i (by omega)
    rw [addr_add] at hc
    rw [hc, getElem!_pos _ i (by rw [hlen]; exact hi)]
    have hzi : i < zs.length := by omega
    simp [hzi]
end
end Go.Proofs.YtdaenaoagejgeaaGreatDoor
