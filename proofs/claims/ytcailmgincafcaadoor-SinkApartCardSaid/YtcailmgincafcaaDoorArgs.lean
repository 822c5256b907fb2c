/-
  From a row's reading of a slice of bytes, or of slices of bytes, to the lists of them.
-/
import Derived.Test.YtcailmgincafcaaDoorSs
import Derived.Test.YtcailmgincafcaaDoorTables
import Derived.Test.YtcailmgincafcaaDoorCards
import Derived.Test.YtcailmgincafcaaDoorTie
import Derived.Test.YtcailmgincafcaaDoorRows
import Derived.ProofKit
import Derived.OpenShut
import Derived.ChangeOld
import Derived.ChangeSlices
import Derived.ChangeMaps5
import Derived.Carry
import Derived.Deep.Slices
import Derived.Deep.Strs
import Derived.SizedLaws
namespace Go.Proofs.YtcailmgincafcaaDoor
open Go.ChangeShapes Go.WideShapes Go.ChangeAt Go.RowKit Go.Lib Go.Deep
set_option linter.unusedVariables false

theorem u8_nat {z : Int} (h : (Lit.int .u8 z).wf = true) : ∃ n : Nat, z = (n : Int) ∧ n < 256 := by
  simp [Lit.wf, IntKind.min, IntKind.max, IntKind.signed, IntKind.bits] at h
  exact ⟨z.toNat, by omega, by omega⟩
theorem cSl : Tryd.prog.cellsOf 22 = 1 := by kernel_rfl
section
variable {H : Type} {enc : TypeId × Value → H}

set_option maxRecDepth 100000 in
theorem open_bytes_at {W : World} {fuel : Nat} {a : Option Addr} {len cap : Nat} {y : DataW H × List MemPlace} (hf : DataW.trod enc Tryd.prog W 0 (fun _ => true) true fuel 22 [.slice a len cap] = some y) :
    ∃ l : List UInt8, len = l.length ∧ Bts W a l ∧ l.length ≤ cap ∧ cap ≤ maxLen ∧ (a = none → cap = 0) ∧ (l ≠ [] → cap ∈ y.1.weights Tryd.prog 22) := by
  rcases open_ints Tryd.underlying22 Tryd.underlying5 cByte hf with ⟨hcs, _⟩ | ⟨x, l, c, zs, hcs, _, hl, hm, hz, hy, hcell, hwz⟩
  · simp at hcs
    obtain ⟨rfl, rfl, rfl⟩ := hcs
    exact ⟨[], rfl, Bts.nil _ _, by simp, by simp, fun _ => rfl, fun h => absurd rfl h⟩
  · simp at hcs
    obtain ⟨rfl, rfl, rfl⟩ := hcs
    have hz' : zs.length = cap := by simpa using hz
    have hlen : ((zs.take len).map fun z => UInt8.ofNat z.toNat).length = len := by simp; omega
    refine ⟨(zs.take len).map fun z => UInt8.ofNat z.toNat, hlen.symm, ?_, by omega, hm, (fun h => by cases h), fun _ => ?_⟩
    rotate_left
    · subst hy
      simp only [DataW.weights, Tryd.underlying22]
      refine List.mem_cons.2 (.inl ?_)
      have e : Tryd.prog.bytesOf 5 = 1 := by kernel_rfl
      rw [e]
      simp [lits]
      omega
    intro hne
    have hlen0 : 0 < len := by
      rcases Nat.eq_zero_or_pos len with e | e
      · subst e
        simp at hne
      · exact e
    obtain ⟨b, off, spot⟩ := x
    have hc0 := hcell 0 (by omega)
    have hspot : spot = none := by simpa [Addr.add] using World.cell?_spot hc0
    subst hspot
    refine ⟨b, off, rfl, fun i hi => ?_⟩
    rw [hlen] at hi
    have hc := hcell i (by omega)
    rw [addr_add] at hc
    rw [hc]
    have hzi : i < zs.length := by omega
    obtain ⟨m, hm1, hm2⟩ := u8_nat (hwz zs[i] (List.getElem_mem hzi))
    have e2 : zs.getD i 0 = zs[i] := by simp [hzi]
    rw [e2, getElem!_pos _ i (by rw [hlen]; exact hi)]
    simp only [List.getElem_map, List.getElem_take, bval, hm1, Int.toNat_natCast, UInt8.toNat_ofNat']
    rw [Nat.mod_eq_of_lt hm2]
set_option maxRecDepth 100000 in
theorem open_bytes {W : World} {base : Nat} {v : Value} {d : DataW H} {p : List MemPlace} (hval : Value.okWide Tryd.prog W .any base 22 v)
    (h0 : DataW.Trod enc Tryd.prog W 0 (fun _ => true) true 22 v d p) : ∃ (a : Option Addr) (cap : Nat) (l : List UInt8), v = .slice a l.length cap ∧ Bts W a l ∧ l.length ≤ cap ∧ cap ≤ maxLen ∧ (a = none → cap = 0) := by
  obtain ⟨a, len, cap, rfl⟩ := okWide_slice Tryd.underlying22 hval
  obtain ⟨fuel, hf⟩ := h0
  obtain ⟨l, rfl, h1, h2, h3, h4, _⟩ := open_bytes_at hf
  exact ⟨a, cap, l, rfl, h1, h2, h3, h4⟩
set_option maxRecDepth 100000 in
theorem open_rows {W : World} {base : Nat} {v : Value} {d : DataW H} {p : List MemPlace} (hval : Value.okWide Tryd.prog W .any base 23 v)
    (h0 : DataW.Trod enc Tryd.prog W 0 (fun _ => true) true 23 v d p) : ∃ (a : Option Addr) (cap : Nat) (l : List Sb), v = .slice a l.length cap ∧ Ss W a l ∧ l.length ≤ 9223372036854775807 := by
  obtain ⟨a, len, cap, rfl⟩ := okWide_slice Tryd.underlying23 hval
  obtain ⟨fuel, hf⟩ := h0
  rcases open_slice Tryd.underlying23 hf with ⟨hcs, _⟩ | ⟨x, l, c, m, n, D, Pl, hcs, _, hl, hm, hmm, hx, hi⟩
  · simp [Value.cells] at hcs
    obtain ⟨rfl, rfl, rfl⟩ := hcs
    exact ⟨none, 0, [], rfl, fun g => absurd rfl g, by simp⟩
  · simp [Value.cells] at hcs
    obtain ⟨rfl, rfl, rfl⟩ := hcs
    simp only [if_true] at hmm
    subst hmm
    have one : ∀ i, i < len → ∃ y : Sb, W.cell? (x.add i) = some (.slice y.p y.x.length y.cap) ∧ Bts W y.p y.x ∧ y.x.length ≤ y.cap ∧ y.cap ≤ maxLen ∧ (y.p = none → y.cap = 0) := by
      intro i hil
      obtain ⟨cs', hc, ht⟩ := hi i (by omega)
      rw [cSl] at hc
      obtain ⟨_, hcl, hat⟩ := World.cells?_some hc
      match cs', hcl with
      | [u0], _ =>
          have hs : ∃ aa ll cc, u0 = .slice aa ll cc := by
            rcases open_ints Tryd.underlying22 Tryd.underlying5 cByte ht with ⟨hcs, _⟩ | ⟨x, l, c, zs, hcs, _⟩
            · simp only [List.cons.injEq, and_true] at hcs
              exact ⟨_, _, _, hcs⟩
            · simp only [List.cons.injEq, and_true] at hcs
              exact ⟨_, _, _, hcs⟩
          obtain ⟨aa, ll, cc, rfl⟩ := hs
          obtain ⟨bl, rfl, hb, hbc, hbm, hbn, hbw⟩ := open_bytes_at ht
          have h0 := hat 0 (by omega)
          refine ⟨⟨aa, cc, bl⟩, ?_, hb, hbc, hbm, hbn⟩
          have ez : (x.add (i * 1)).add 0 = x.add i := by
            obtain ⟨b, off, spot⟩ := x
            unfold Addr.add
            split <;> simp_all
          rw [ez] at h0
          exact h0
    obtain ⟨f, hf'⟩ : ∃ f : Nat → Sb, ∀ i, i < len → W.cell? (x.add i) = some (.slice (f i).p (f i).x.length (f i).cap) ∧ Bts W (f i).p (f i).x ∧ (f i).x.length ≤ (f i).cap ∧ (f i).cap ≤ maxLen ∧ ((f i).p = none → (f i).cap = 0) := by
      refine ⟨fun i => if h : i < len then Classical.choose (one i h) else default, fun i hi => ?_⟩
      simp only [dif_pos hi]
      exact Classical.choose_spec (one i hi)
    have hlen : ((List.range len).map f).length = len := by simp
    refine ⟨some x, _, (List.range len).map f, by rw [hlen], ?_, by rw [hlen]; unfold maxLen at hm; omega⟩
    intro hne
    have hlen0 : 0 < len := by
      rcases Nat.eq_zero_or_pos len with e | e
      · subst e
        simp at hne
      · exact e
    obtain ⟨b, off, spot⟩ := x
    have hc0 := (hf' 0 hlen0).1
    have hspot : spot = none := by simpa [Addr.add] using World.cell?_spot hc0
    subst hspot
    rw [addr_add] at hc0
    refine ⟨b, off, rfl, block_lt_of_cell hc0, fun i hi => ?_⟩
    rw [hlen] at hi
    have := hf' i hi
    simp only [addr_add] at this
    have e : ((List.range len).map f)[i]! = f i := by
      rw [getElem!_pos _ i (by rw [hlen]; exact hi)]
      simp
    rw [e]
    exact this
end
end Go.Proofs.YtcailmgincafcaaDoor
