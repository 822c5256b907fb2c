/-
  Numbers, and slices of bytes, in a slice.
-/
import Derived.Test.YtdaenaoagejgeaaGreatDoorTell
namespace Go.Proofs.YtdaenaoagejgeaaGreatDoor
open Go.RowKit Go.Lib
set_option linter.unusedVariables false

/-- A slice's numbers. -/
def Is (w : World) (a : Option Addr) (l : List Int) : Prop := l ≠ [] → ∃ b off, a = some ⟨b, off, none⟩ ∧ b < w.heap.size ∧ ∀ i, i < l.length → w.cell? ⟨b, off + i, none⟩ = some (.int .i64 (l[i]!))
/-- Bytes in a slice. -/
structure Sb where
  p : Option Addr
  cap : Nat
  x : List UInt8
instance : Inhabited Sb := ⟨⟨none, 0, []⟩⟩
/-- A slice's slices of bytes. -/
def Ss (w : World) (a : Option Addr) (l : List Sb) : Prop := l ≠ [] → ∃ b off, a = some ⟨b, off, none⟩ ∧ b < w.heap.size ∧ ∀ i, i < l.length →
  w.cell? ⟨b, off + i, none⟩ = some (.slice (l[i]!).p (l[i]!).x.length (l[i]!).cap) ∧ Bts w (l[i]!).p (l[i]!).x ∧ (l[i]!).x.length ≤ (l[i]!).cap ∧ (l[i]!).cap ≤ maxLen
end Go.Proofs.YtdaenaoagejgeaaGreatDoor
