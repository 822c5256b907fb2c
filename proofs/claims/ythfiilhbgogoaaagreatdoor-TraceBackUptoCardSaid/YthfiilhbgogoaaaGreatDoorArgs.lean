/-
  From a row's reading of effects, of bytes and of a text to the lists of them.
-/
import Derived.Test.YthfiilhbgogoaaaGreatDoorEr
import Derived.Test.YthfiilhbgogoaaaGreatDoorLaid
import Derived.Test.YthfiilhbgogoaaaGreatDoorCards
import Derived.Test.YthfiilhbgogoaaaGreatDoorTie
import Derived.ChangeOld
import Derived.ChangeSlices
import Derived.ChangeMaps5
import Derived.Carry
import Derived.Deep.Slices
import Derived.Deep.Strs
import Derived.SizedLaws
namespace Go.Proofs.YthfiilhbgogoaaaGreatDoor
open Go.ChangeShapes Go.WideShapes Go.ChangeAt Go.RowKit Go.Lib Go.Deep
set_option linter.unusedVariables false

theorem u8_nat {z : Int} (h : (Lit.int .u8 z).wf = true) : ∃ n : Nat, z = (n : Int) ∧ n < 256 := by
  simp [Lit.wf, IntKind.min, IntKind.max, IntKind.signed, IntKind.bits] at h
  exact ⟨z.toNat, by omega, by omega⟩
theorem u32_nat {z : Int} (h : (Lit.int .u32 z).wf = true) : ∃ n : Nat, z = (n : Int) ∧ n < 4294967296 := by
  simp [Lit.wf, IntKind.min, IntKind.max, IntKind.signed, IntKind.bits] at h
  exact ⟨z.toNat, by omega, by omega⟩
theorem cAttrs : Tryz.prog.cellsOf 41 = 3 := by kernel_rfl
theorem cEff : Tryz.prog.cellsOf 43 = 7 := by kernel_rfl
theorem cInt : Tryz.prog.cellsOf 3 = 1 := by kernel_rfl
theorem cBool : Tryz.prog.cellsOf 4 = 1 := by kernel_rfl
theorem cSl : Tryz.prog.cellsOf 35 = 1 := by kernel_rfl
section
variable {H : Type} {enc : TypeId × Value → H}
set_option maxRecDepth 100000 in
theorem open_bytes_at {W : World} {fuel : Nat} {a : Option Addr} {len cap : Nat} {y : DataW H × List MemPlace} (hf : DataW.trod enc Tryz.prog W 0 (fun _ => true) true fuel 35 [.slice a len cap] = some y) :
    ∃ l : List UInt8, len = l.length ∧ Bts W a l ∧ l.length ≤ cap ∧ cap ≤ maxLen ∧ (a = none → cap = 0) ∧ (l ≠ [] → cap ∈ y.1.weights Tryz.prog 35) := by
  rcases open_ints Tryz.underlying35 Tryz.underlying5 cByte hf with ⟨hcs, _⟩ | ⟨x, l, c, zs, hcs, _, hl, hm, hz, hy, hcell, hwz⟩
  · simp at hcs
    obtain ⟨rfl, rfl, rfl⟩ := hcs
    exact ⟨[], rfl, Bts.nil _ _, by simp, by simp, fun _ => rfl, fun h => absurd rfl h⟩
  · simp at hcs
    obtain ⟨rfl, rfl, rfl⟩ := hcs
    have hz' : zs.length = cap := by simpa using hz
    have hlen : ((zs.take len).map fun z => UInt8.ofNat z.toNat).length = len := by simp; omega
    refine ⟨(zs.take len).map fun z => UInt8.ofNat z.toNat, hlen.symm, ?_, by omega, hm, (fun h => by cases h), fun _ => ?_⟩
    rotate_left
    · subst hy
      simp only [DataW.weights, Tryz.underlying35]
      refine List.mem_cons.2 (.inl ?_)
      have e : Tryz.prog.bytesOf 5 = 1 := by kernel_rfl
      rw [e]
      simp [lits]
      omega
    intro hne
    have hlen0 : 0 < len := by
      rcases Nat.eq_zero_or_pos len with e | e
      · subst e
        simp at hne
      · exact e
    obtain ⟨b, off, spot⟩ := x
    have hc0 := hcell 0 (by omega)
    have hspot : spot = none := by simpa [Addr.add] using World.cell?_spot hc0
    subst hspot
    refine ⟨b, off, rfl, fun i hi => ?_⟩
    rw [hlen] at hi
    have hc := hcell i (by omega)
    rw [addr_add] at hc
    rw [hc]
    have hzi : i < zs.length := by omega
    obtain ⟨m, hm1, hm2⟩ := u8_nat (hwz zs[i] (List.getElem_mem hzi))
    have e2 : zs.getD i 0 = zs[i] := by simp [hzi]
    rw [e2, getElem!_pos _ i (by rw [hlen]; exact hi)]
    simp only [List.getElem_map, List.getElem_take, bval, hm1, Int.toNat_natCast, UInt8.toNat_ofNat']
    rw [Nat.mod_eq_of_lt hm2]
set_option maxRecDepth 100000 in
theorem open_bytes {W : World} {base : Nat} {v : Value} {d : DataW H} {p : List MemPlace} (hval : Value.okWide Tryz.prog W .any base 35 v)
    (h0 : DataW.Trod enc Tryz.prog W 0 (fun _ => true) true 35 v d p) : ∃ (a : Option Addr) (cap : Nat) (l : List UInt8), v = .slice a l.length cap ∧ Bts W a l ∧ l.length ≤ cap ∧ cap ≤ maxLen ∧ (a = none → cap = 0) := by
  obtain ⟨a, len, cap, rfl⟩ := okWide_slice Tryz.underlying35 hval
  obtain ⟨fuel, hf⟩ := h0
  obtain ⟨l, rfl, h1, h2, h3, h4, _⟩ := open_bytes_at hf
  exact ⟨a, cap, l, rfl, h1, h2, h3, h4⟩
theorem trod_struct3' {P : Program} {w : World} {base : Nat} {spare : Nat → Bool} {held : Bool} {t : TypeId} {f0 f1 f2 : Field} {fuel : Nat} {cs : List Value} {x : DataW H × List MemPlace} (ht : P.underlying t = some (.struct #[f0, f1, f2])) (h : DataW.trod enc P w base spare held fuel t cs = some x) :
    ∃ y0 y1 y2 n, DataW.trod enc P w base spare held n f0.type ((cs.drop f0.offset).take (P.cellsOf f0.type)) = some y0 ∧ DataW.trod enc P w base spare held n f1.type ((cs.drop f1.offset).take (P.cellsOf f1.type)) = some y1 ∧
      DataW.trod enc P w base spare held n f2.type ((cs.drop f2.offset).take (P.cellsOf f2.type)) = some y2 := by
  obtain ⟨xs, n, _, rfl, hl, hlen, hf⟩ := DataW.trod_struct ht h
  match xs, hlen with
  | [y0, y1, y2], _ => exact ⟨y0, y1, y2, n, by simpa using hf 0 f0 rfl, by simpa using hf 1 f1 rfl, by simpa using hf 2 f2 rfl⟩
theorem trod_struct5' {P : Program} {w : World} {base : Nat} {spare : Nat → Bool} {held : Bool} {t : TypeId} {f0 f1 f2 f3 f4 : Field} {fuel : Nat} {cs : List Value} {x : DataW H × List MemPlace} (ht : P.underlying t = some (.struct #[f0, f1, f2, f3, f4])) (h : DataW.trod enc P w base spare held fuel t cs = some x) :
    ∃ y0 y1 y2 y3 y4 n, DataW.trod enc P w base spare held n f0.type ((cs.drop f0.offset).take (P.cellsOf f0.type)) = some y0 ∧ DataW.trod enc P w base spare held n f1.type ((cs.drop f1.offset).take (P.cellsOf f1.type)) = some y1 ∧
      DataW.trod enc P w base spare held n f2.type ((cs.drop f2.offset).take (P.cellsOf f2.type)) = some y2 ∧ DataW.trod enc P w base spare held n f3.type ((cs.drop f3.offset).take (P.cellsOf f3.type)) = some y3 ∧
      DataW.trod enc P w base spare held n f4.type ((cs.drop f4.offset).take (P.cellsOf f4.type)) = some y4 := by
  obtain ⟨xs, n, _, rfl, hl, hlen, hf⟩ := DataW.trod_struct ht h
  match xs, hlen with
  | [y0, y1, y2, y3, y4], _ => exact ⟨y0, y1, y2, y3, y4, n, by simpa using hf 0 f0 rfl, by simpa using hf 1 f1 rfl, by simpa using hf 2 f2 rfl, by simpa using hf 3 f3 rfl, by simpa using hf 4 f4 rfl⟩
/-- What is known of an effect that is handed in. -/
structure Ek (w : World) (x : Ev) : Prop where
  ed : Ed w x
  att : Ok x.f x.m x.t
  top : x.c ≤ maxLen
  k0 : -9223372036854775808 ≤ x.k ∧ x.k ≤ 9223372036854775807
  n0 : -9223372036854775808 ≤ x.n ∧ x.n ≤ 9223372036854775807
theorem i64_wf {z : Int} (h : (Lit.int .i64 z).wf = true) : -9223372036854775808 ≤ z ∧ z ≤ 9223372036854775807 := by
  simp [Lit.wf, IntKind.min, IntKind.max, IntKind.signed, IntKind.bits] at h
  omega
set_option maxRecDepth 100000 in
theorem open_cells {W : World} {fuel : Nat} {cs : List Value} {y : DataW H × List MemPlace} (hl : cs.length = 7) (hf : DataW.trod enc Tryz.prog W 0 (fun _ => true) true fuel 43 cs = some y) : ∃ x : Ev, cs = ev7 x ∧ Ek W x := by
  obtain ⟨y0, y1, y2, y3, y4, n, t0, t1, t2, t3, t4⟩ := trod_struct5' Tryz.underlying43 hf
  match cs, hl with
  | [u0, u1, u2, u3, u4, u5, u6], _ =>
    simp only [cInt, cAttrs, cSl, cBool, List.drop_zero, List.drop_succ_cons, List.take_succ_cons, List.take_zero] at t0 t1 t2 t3 t4
    obtain ⟨k, e0, _, w0⟩ := DataW.trod_int Tryz.underlying3 t0
    obtain ⟨q0, q1, q2, m, r0, r1, r2⟩ := trod_struct3' Tryz.underlying41 t1
    simp only [cU32, cByte, List.drop_zero, List.drop_succ_cons, List.take_succ_cons, List.take_zero] at r0 r1 r2
    obtain ⟨z0, a0, _, v0⟩ := DataW.trod_int Tryz.underlying39 r0
    obtain ⟨z1, a1, _, v1⟩ := DataW.trod_int Tryz.underlying5 r1
    obtain ⟨z2, a2, _, v2⟩ := DataW.trod_int Tryz.underlying5 r2
    obtain ⟨f, rfl, hf0⟩ := u32_nat v0
    obtain ⟨mm, rfl, hm0⟩ := u8_nat v1
    obtain ⟨t, rfl, ht0⟩ := u8_nat v2
    obtain ⟨nn, e3, _, w3⟩ := DataW.trod_int Tryz.underlying3 t3
    obtain ⟨b, e4, _⟩ := DataW.trod_bool Tryz.underlying4 t4
    obtain ⟨pa, len, cap, e2⟩ : ∃ (pa : Option Addr) (len cap : Nat), u4 = .slice pa len cap := by
      rcases open_slice Tryz.underlying35 t2 with ⟨hcs, _⟩ | ⟨x, l, c, _, _, _, _, hcs, _⟩
      · simp at hcs
        exact ⟨none, 0, 0, hcs⟩
      · simp at hcs
        exact ⟨some x, l, c, hcs⟩
    subst e2
    obtain ⟨l, rfl, h1, h2, h3, h4, _⟩ := open_bytes_at t2
    simp only [List.cons.injEq, and_true] at e0 e3 e4 a0 a1 a2
    subst e0 e3 e4 a0 a1 a2
    exact ⟨⟨k, f, mm, t, pa, cap, l, nn, b⟩, rfl, ⟨h1, h2, h4⟩, ⟨hf0, hm0, ht0⟩, h3, i64_wf w0, i64_wf w3⟩
set_option maxRecDepth 100000 in
theorem open_effect {W : World} {base : Nat} {v : Value} {d : DataW H} {p : List MemPlace} (hval : Value.okWide Tryz.prog W .any base 43 v)
    (h0 : DataW.Trod enc Tryz.prog W 0 (fun _ => true) true 43 v d p) : ∃ x : Ev, v = .agg (ev7 x).toArray ∧ Ek W x := by
  obtain ⟨cs, rfl, hsz⟩ := okWide_struct Tryz.underlying43 hval
  obtain ⟨fuel, hf⟩ := h0
  rw [cEff] at hsz
  obtain ⟨x, hx, hk⟩ := open_cells (cs := cs.toList) (by simpa using hsz) (by simpa [Value.cells] using hf)
  exact ⟨x, by rw [← hx], hk⟩
end
end Go.Proofs.YthfiilhbgogoaaaGreatDoor
