/-
  What Deliver leaves, by cases; a row of noughts; a number of one byte.
-/
import Derived.Test.YtcailmgincafcaaDoorSs
namespace Go.Proofs.YtcailmgincafcaaDoor
open Go.RowKit Go.Lib
set_option linter.unusedVariables false

theorem dvs_given (n x : Nat) (T l : List UInt8) : dvS n x true T l = ⟨0, 11, x, true, T⟩ := rfl
theorem dvs_small {n x : Nat} {T l : List UInt8} (h : n < l.length) : dvS n x false T l = ⟨0, 12, x, false, T⟩ := by unfold dvS; rw [if_neg (by simp), if_pos h]
theorem dvs_ok {n x : Nat} {T l : List UInt8} (h : ¬ n < l.length) : dvS n x false T l = ⟨l.length, 0, l.length, true, lay T 0 l⟩ := by unfold dvS; rw [if_neg (by simp), if_neg h]
theorem num8 {z : Int} (h : (Lit.int .u8 z).wf = true) : ∃ n : Nat, z = (n : Int) ∧ n < 256 := by
  simp [Lit.wf, IntKind.min, IntKind.max, IntKind.signed, IntKind.bits] at h
  exact ⟨z.toNat, by omega, by omega⟩
/-- A new row of noughts, by a name of its own. -/
theorem make_row (n : Nat) (hn : n ≤ 1000000) : ∃ o, (∀ w : World, Blk (w.alloc o) w.heap.size (List.replicate n 0)) ∧ ∀ (w : World) (kl kc : IntKind), (Instr.makeSlice 22 (.int kl (n : Int)) (.int kc (n : Int))).run Tryd.prog w = .ok (.slice (some ⟨w.heap.size, 0, none⟩) n n) (w.alloc o) :=
  ⟨_, fun w => by unfold Blk; rw [heap_alloc_new], fun w kl kc => make_any w kl kc n hn⟩
end Go.Proofs.YtcailmgincafcaaDoor
