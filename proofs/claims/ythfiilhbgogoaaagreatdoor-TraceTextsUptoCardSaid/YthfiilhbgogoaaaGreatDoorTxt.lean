/-
  Texts of bytes: a byte of one, and that it is not empty.
-/
import Derived.Test.YthfiilhbgogoaaaGreatDoorRead
namespace Go.Proofs.YthfiilhbgogoaaaGreatDoor
open Go.RowKit Go.Lib
set_option linter.unusedVariables false

theorem index_st (l : List UInt8) (i : Nat) (hi : i < l.length) (w : World) : (Instr.index 9 (.string (st l)) (.int .i64 (i : Int))).run Tryz.prog w = .ok (bval (l[i]!)) w := by
  rw [run_index_string w 9 (st l) .i64 i Tryz.underlying9, dif_pos ⟨by omega, by rw [st_size]; omega⟩]
  have h2 : (st l)[((i : Nat) : Int).toNat]'(by rw [st_size]; omega) = l[i]! := by
    rw [getElem!_pos l i hi]
    simp only [Int.toNat_natCast]
    have h3 : (st l).data.toList[i]'(by rw [st_data]; exact hi) = l[i] := by
      have : ∀ (m : List UInt8) (e : m = l) (q : i < m.length), m[i] = l[i] := fun m e q => by subst e; rfl
      exact this _ (st_data l) _
    rw [← h3]
    rfl
  rw [h2]
  rfl
theorem emp_st {l : List UInt8} (h : l ≠ []) : (st l).toList.isEmpty = false := by
  rw [st_toList]
  cases l
  · exact absurd rfl h
  · rfl
end Go.Proofs.YthfiilhbgogoaaaGreatDoor
