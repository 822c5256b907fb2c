/-
  Small facts on the way from a row's reading to the laws over moments.
-/
import Derived.Test.YtbipkelocbkccaaOf
import Derived.Test.YtbipkelocbkccaaRows
import Derived.ProofKit
import Derived.OpenShut
namespace Go.Proofs.Ytbipkelocbkccaa
open Go.RowKit Go.Lib
set_option linter.unusedVariables false
theorem u64_nat {z : Int} (h : (Lit.int .u64 z).wf = true) : ∃ n : Nat, z = (n : Int) ∧ n < 2 ^ 64 := by
  simp [Lit.wf, IntKind.min, IntKind.max, IntKind.signed, IntKind.bits] at h
  exact ⟨z.toNat, by omega, by omega⟩
theorem gives_grown {P : Program} {f : FuncId} {args : Array Value} {v : Value} {w : World} (h : Calls P f args w (Gives v w)) : Calls P f args w fun e w' => e = .returned v ∧ Grown w w' :=
  h.mono fun e w' ⟨he, hw⟩ => ⟨he, by rw [hw]; exact Grown.refl _⟩
theorem cmp_cases (a b : Nat) : (cmpN a b = -1 ∧ cmpN b a = 1 ∧ keyN a < keyN b) ∨ (cmpN a b = 0 ∧ cmpN b a = 0 ∧ keyN a = keyN b) ∨ (cmpN a b = 1 ∧ cmpN b a = -1 ∧ keyN b < keyN a) := by
  rcases Nat.lt_trichotomy (keyN a) (keyN b) with h | h | h
  · exact .inl ⟨cmpN_lt h, cmpN_gt h, h⟩
  · exact .inr (.inl ⟨cmpN_eq h, cmpN_eq h.symm, h⟩)
  · exact .inr (.inr ⟨cmpN_gt h, cmpN_lt h, h⟩)
end Go.Proofs.Ytbipkelocbkccaa
