/-
  From a row's reading of a slice of bytes to the list of its bytes.
-/
import Derived.Test.YtgnmjhhfefnmcaaDoorTables
import Derived.Test.YtgnmjhhfefnmcaaDoorAlive
import Derived.Test.YtgnmjhhfefnmcaaDoorCards
import Derived.Test.YtgnmjhhfefnmcaaDoorTie
import Derived.ChangeOld
namespace Go.Proofs.YtgnmjhhfefnmcaaDoor
open Go.ChangeShapes Go.WideShapes Go.ChangeAt Go.RowKit Go.Lib
set_option linter.unusedVariables false

theorem byte_of_wf {z : Int} (h : (Lit.int .u8 z).wf = true) : 0 ≤ z ∧ z < 256 := by
  simp [Lit.wf, IntKind.min, IntKind.max, IntKind.signed, IntKind.bits] at h
  omega

section
variable {H : Type} {enc : TypeId × Value → H}

theorem open_bytes {W : World} {base : Nat} {v : Value} {d : DataW H} {p : List MemPlace} (hval : Value.okWide Tryd.prog W .any base 22 v)
    (h0 : DataW.Trod enc Tryd.prog W 0 (fun _ => true) true 22 v d p) : ∃ (a : Option Addr) (cap : Nat) (l : List Nat), v = .slice a l.length cap ∧ Bts W a l ∧ l.length ≤ cap ∧ cap ≤ maxLen ∧ (a = none → cap = 0) := by
  obtain ⟨a, len, cap, rfl⟩ := okWide_slice Tryd.underlying22 hval
  obtain ⟨fuel, hf⟩ := h0
  rcases open_ints Tryd.underlying22 Tryd.underlying5 cByte hf with ⟨hcs, _⟩ | ⟨x, l, c, zs, hcs, _, hl, hm, hz, _, hcell, hwz⟩
  · simp [Value.cells] at hcs
    obtain ⟨rfl, rfl, rfl⟩ := hcs
    exact ⟨none, 0, [], rfl, ⟨by simp, by simp⟩, by simp, by simp, fun _ => rfl⟩
  · simp [Value.cells] at hcs
    obtain ⟨rfl, rfl, rfl⟩ := hcs
    have hz' : zs.length = cap := by simpa using hz
    refine ⟨some x, cap, (zs.take len).map Int.toNat, ?_, ⟨?_, ?_⟩, ?_, hm, fun h => by cases h⟩
    · simp
      omega
    · intro y hy
      simp only [List.mem_map] at hy
      obtain ⟨z, hz1, rfl⟩ := hy
      have := byte_of_wf (hwz z (List.mem_of_mem_take hz1))
      omega
    · intro hne
      have hlen : 0 < len := by
        rcases Nat.eq_zero_or_pos len with e | e
        · subst e
          simp at hne
        · exact e
      obtain ⟨b, off, spot⟩ := x
      have hc0 := hcell 0 (by omega)
      have hspot : spot = none := by simpa [Addr.add] using World.cell?_spot hc0
      subst hspot
      refine ⟨b, off, rfl, fun i hi => ?_⟩
      have hi' : i < len := by simp at hi; omega
      have hc := hcell i (by omega)
      have e1 : (⟨b, off, none⟩ : Addr).add i = ⟨b, off + i, none⟩ := by
        unfold Addr.add
        split <;> simp_all
      rw [e1] at hc
      rw [hc]
      have hzi : i < zs.length := by omega
      have hb := byte_of_wf (hwz zs[i] (List.getElem_mem hzi))
      have e2 : zs.getD i 0 = zs[i] := by simp [hzi]
      have e3 : ((zs.take len).map Int.toNat).getD i 0 = zs[i].toNat := by
        simp [List.getD, hzi, hi']
      rw [e2, e3, Int.toNat_of_nonneg hb.1]
    · simp
      omega
end

end Go.Proofs.YtgnmjhhfefnmcaaDoor
