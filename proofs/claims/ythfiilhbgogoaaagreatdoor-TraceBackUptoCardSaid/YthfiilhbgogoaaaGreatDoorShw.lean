/-
  The library's contracts of a builder: WriteString (laid by what strings.Join's laying holds) and String, over bytes.
-/
import Derived.Shelf.Strings.BuilderK
import Derived.Test.YthfiilhbgogoaaaGreatDoorLine
namespace Go.Proofs
open Go.Shelf
theorem Tryz.lays166w : Go.Proofs.Lays.n166 Tryz.prog Tryz.lays156_ren := { Tryz.lays156 with }
namespace YthfiilhbgogoaaaGreatDoor
open Go.RowKit Go.Lib
/-- A builder that is new since block number 'B', with bytes. -/
def Bu (B b : Nat) (l : List UInt8) (w : World) : Prop := Lib.IsBuilderF 56 5 B b (Lib.byteCells l) w
theorem write_run (B b : Nat) (l m : List UInt8) (w : World) (h : Bu B b l w) (hl : l.length + m.length ≤ 100000000) (hB : B ≤ w.heap.size) :
    Calls Tryz.prog 18 #[.pointer (some ⟨b, 0, none⟩), .string (st m)] w fun e w' => e = .returned (.tuple #[.int .i64 (m.length : Int), .nilIface]) ∧ Bu B b (l ++ m) w' ∧ Below B w w' := by
  refine (Any.Builder_WriteString_k Tryz.lays166w Tryz.Builder_Extra_156 B b (Lib.byteCells l) (st m) w h (by rw [st_size]; simp [Lib.byteCells]; omega) hB).mono ?_
  rintro e w' ⟨rfl, h1, h2, _⟩
  refine ⟨by rw [st_size], .inr ?_, h2⟩
  have e1 : Lib.byteCells l ++ Lib.strCells (st m) = Lib.byteCells (l ++ m) := by
    simp [Lib.byteCells, Lib.strCells, st_data]
  rw [e1] at h1
  exact h1
theorem string_run (B b : Nat) (l : List UInt8) (w : World) (h : Bu B b l w) (hB : B ≤ w.heap.size) : Calls Tryz.prog 19 #[.pointer (some ⟨b, 0, none⟩)] w fun e w' => e = .returned (.string (st l)) ∧ Below B w w' := by
  refine (Tryz.Builder_String_any_k B b l w h hB).mono ?_
  rintro e w' ⟨rfl, _, h2, _⟩
  exact ⟨rfl, h2⟩
end YthfiilhbgogoaaaGreatDoor
end Go.Proofs
