/-
  A slice's slices of bytes.
-/
import Derived.Test.YtcailmgincafcaaDoorSnw
namespace Go.Proofs.YtcailmgincafcaaDoor
open Go.RowKit Go.Lib
set_option linter.unusedVariables false

/-- Bytes in a slice. -/
structure Sb where
  p : Option Addr
  cap : Nat
  x : List UInt8
instance : Inhabited Sb := ⟨⟨none, 0, []⟩⟩
/-- A slice's slices of bytes. -/
def Ss (w : World) (a : Option Addr) (l : List Sb) : Prop := l ≠ [] → ∃ b off, a = some ⟨b, off, none⟩ ∧ b < w.heap.size ∧ ∀ i, i < l.length →
  w.cell? ⟨b, off + i, none⟩ = some (.slice (l[i]!).p (l[i]!).x.length (l[i]!).cap) ∧ Bts w (l[i]!).p (l[i]!).x ∧ (l[i]!).x.length ≤ (l[i]!).cap ∧ (l[i]!).cap ≤ maxLen ∧ ((l[i]!).p = none → (l[i]!).cap = 0)
theorem Ss.at {w W : World} {a : Option Addr} {l : List Sb} (h : Ss w a l) (hs : Stp [] w [] W) {i : Nat} (hi : i < l.length) :
    ∃ b off, a = some ⟨b, off, none⟩ ∧ W.cell? ⟨b, off + i, none⟩ = some (.slice (l[i]!).p (l[i]!).x.length (l[i]!).cap) ∧ Bts w (l[i]!).p (l[i]!).x ∧ (l[i]!).x.length ≤ (l[i]!).cap ∧ (l[i]!).cap ≤ maxLen ∧ ((l[i]!).p = none → (l[i]!).cap = 0) := by
  obtain ⟨b, off, h1, hb, h2⟩ := h (by intro e; subst e; simp at hi)
  obtain ⟨c0, c1, c2, c3, c4⟩ := h2 i hi
  exact ⟨b, off, h1, (hs.cell (a := ⟨b, off + i, none⟩) hb (fun h => by cases h)).trans c0, c1, c2, c3, c4⟩
end Go.Proofs.YtcailmgincafcaaDoor
