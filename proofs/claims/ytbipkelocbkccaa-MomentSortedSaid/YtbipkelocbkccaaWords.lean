/-
  From a row's reading of a slice of words to the list of its moments; and the frame of a law over one such slice.
-/
import Derived.Test.YtbipkelocbkccaaRefSort
import Derived.Test.YtbipkelocbkccaaSmall
import Derived.ChangeOld
import Derived.ChangeSlices
import Derived.Carry
namespace Go.Proofs.Ytbipkelocbkccaa
open Go.ChangeShapes Go.WideShapes Go.ChangeAt Go.RowKit Go.Lib
set_option linter.unusedVariables false

/-- A slice's words, as a list of moments. -/
def Us (w : World) (a : Option Addr) (l : List Mo) : Prop := l ≠ [] → ∃ b off, a = some ⟨b, off, none⟩ ∧ b < w.heap.size ∧ ∀ i, i < l.length → w.cell? ⟨b, off + i, none⟩ = some (.int .u64 ((l[i]!).v : Int))
def toMo (z : Int) : Mo := if h : z.toNat < 2 ^ 64 then ⟨z.toNat, h⟩ else default

theorem cWord : Try.prog.cellsOf 22 = 1 := by kernel_rfl
theorem laidOut : laidOutB Try.prog = true := by kernel_rfl

section
variable {H : Type} {enc : TypeId × Value → H}

theorem open_words {W : World} {base : Nat} {v : Value} {d : DataW H} {p : List MemPlace} (hval : Value.okWide Try.prog W .any base 33 v)
    (h0 : DataW.Trod enc Try.prog W 0 (fun _ => true) true 33 v d p) : ∃ (a : Option Addr) (cap : Nat) (l : List Mo), v = .slice a l.length cap ∧ Us W a l ∧ l.length ≤ 9223372036854775807 := by
  obtain ⟨a, len, cap, rfl⟩ := okWide_slice Try.underlying33 hval
  obtain ⟨fuel, hf⟩ := h0
  rcases open_ints Try.underlying33 Try.underlying22 cWord hf with ⟨hcs, _⟩ | ⟨x, l, c, zs, hcs, _, hl, hm, hz, _, hcell, hwz⟩
  · simp [Value.cells] at hcs
    obtain ⟨rfl, rfl, rfl⟩ := hcs
    exact ⟨none, 0, [], rfl, fun g => absurd rfl g, by simp⟩
  · simp [Value.cells] at hcs
    obtain ⟨rfl, rfl, rfl⟩ := hcs
    have hz' : zs.length = cap := by simpa using hz
    have hlen : ((zs.take len).map toMo).length = len := by
      simp
      omega
    refine ⟨some x, cap, (zs.take len).map toMo, by rw [hlen], ?_, by rw [hlen]; unfold maxLen at hm; omega⟩
    intro hne
    have hlen0 : 0 < len := by
      rcases Nat.eq_zero_or_pos len with e | e
      · subst e
        simp at hne
      · exact e
    obtain ⟨b, off, spot⟩ := x
    have hc0 := hcell 0 (by omega)
    have hspot : spot = none := by simpa [Addr.add] using World.cell?_spot hc0
    subst hspot
    have e1 : ∀ i, (⟨b, off, none⟩ : Addr).add i = ⟨b, off + i, none⟩ := by
      intro i
      unfold Addr.add
      split <;> simp_all
    rw [e1] at hc0
    refine ⟨b, off, rfl, block_lt_of_cell hc0, fun i hi => ?_⟩
    rw [hlen] at hi
    have hc := hcell i (by omega)
    rw [e1] at hc
    rw [hc]
    have hzi : i < zs.length := by omega
    obtain ⟨m, hm1, hm2⟩ := u64_nat (hwz zs[i] (List.getElem_mem hzi))
    have e2 : zs.getD i 0 = zs[i] := by simp [hzi]
    have e3 : (((zs.take len).map toMo)[i]!).v = m := by
      rw [getElem!_pos _ i (by rw [hlen]; exact hi)]
      simp only [List.getElem_map, List.getElem_take, toMo]
      rw [dif_pos (by rw [hm1]; simpa using hm2)]
      simp [hm1]
    rw [e2, e3, hm1]
end

theorem Us.below {w w' : World} {a : Option Addr} {l : List Mo} (h : Us w a l) (hb : Below w.heap.size w w') : Us w' a l := fun g => by
  obtain ⟨b, off, h1, h3, h2⟩ := h g
  exact ⟨b, off, h1, Nat.lt_of_lt_of_le h3 hb.size, fun i hi => (hb.cell (p := ⟨b, off + i, none⟩) h3).trans (h2 i hi)⟩
theorem Us.at {w : World} {a : Option Addr} {l : List Mo} (h : Us w a l) {i : Nat} (hi : i < l.length) : ∃ b off, a = some ⟨b, off, none⟩ ∧ b < w.heap.size ∧ w.cell? ⟨b, off + i, none⟩ = some (.int .u64 ((l[i]!).v : Int)) := by
  obtain ⟨b, off, h1, h2, h3⟩ := h (by intro e; rw [e] at hi; simp at hi)
  exact ⟨b, off, h1, h2, h3 i hi⟩

/-- One moment laid in a block of its own. -/
theorem one_ms (w : World) (x : Mo) : Ms (w.alloc (.cells #[.float .f64 x.v] 23)) (some ⟨w.heap.size, 0, none⟩) [x] := by
  intro _
  refine ⟨w.heap.size, 0, rfl, fun i hi => ?_⟩
  have : i = 0 := by simpa using hi
  subst this
  simp
theorem snoc_take (l : List Mo) (i : Nat) (hi : i < l.length) : l.take i ++ [l[i]!] = l.take (i + 1) := by
  rw [List.take_add_one, getElem!_pos l i hi]
  simp [hi]

theorem below_drewN' (w : World) (q B : Nat) : Below B w (w.drewN q) := ⟨rfl, rfl, rfl, Nat.le_refl _, fun _ _ => rfl⟩
/-- The frame of a law over one slice of words. -/
def Truth (w : World) (e : Ending) (w' : World) : Prop := e = .returned (.bool true) ∧ Below w.heap.size w w'
end Go.Proofs.Ytbipkelocbkccaa
