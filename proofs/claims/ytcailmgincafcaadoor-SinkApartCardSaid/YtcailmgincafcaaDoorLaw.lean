/-
  A buffer that is new since the call.
-/
import Derived.Test.YtcailmgincafcaaDoorBuf4
namespace Go.Proofs.YtcailmgincafcaaDoor
open Go.RowKit Go.Lib Go.Maps
set_option linter.unusedVariables false

/-- A buffer that is new since w. -/
structure Eb (w W : World) (e b g N : Nat) (A B : List Nat) : Prop where
  bu : Bu W e b g N A B
  stp : Stp [] w [] W
  new : w.heap.size ≤ e ∧ w.heap.size ≤ b ∧ w.heap.size ≤ g
section
variable {w W W' : World} {e b g N : Nat} {A B A' B' : List Nat}
theorem Eb.stays {F : List Nat} (h : Eb w W e b g N A B) (hs : Stp [] W F W') : Eb w W' e b g N A B := ⟨h.bu.stays hs, h.stp.trans hs.none, h.new⟩
theorem Eb.act (h : Eb w W e b g N A B) (hb : Bu W' e b g N A' B') (hs : Stp [e, b, g] W [e, b, g] W') : Eb w W' e b g N A' B' :=
  ⟨hb, (h.stp.fresh hs (fun i hi => by have := h.new; simp at hi; omega)).none, h.new⟩
/-- What happens in blocks that are others. -/
theorem Eb.other {F F' : List Nat} (h : Eb w W e b g N A B) (hs : Stp F W F' W') (hF : ∀ k ∈ F, w.heap.size ≤ k ∧ k ≠ e ∧ k ≠ b ∧ k ≠ g) : Eb w W' e b g N A B :=
  ⟨h.bu.other hs (fun k => (hF e k).2.1 rfl) (fun k => (hF b k).2.2.1 rfl) (fun k => (hF g k).2.2.2 rfl), (h.stp.fresh (hs.more (fun k h => h)) (fun i hi => (hF i hi).1)).none, h.new⟩
end
end Go.Proofs.YtcailmgincafcaaDoor
