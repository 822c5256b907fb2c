/-
  Plain arithmetic of characters in bytes, more: bounds, and lists of bytes. No program stands in this text.
-/
import Derived.Test.YtcailmgincafcaaDoorUPlain
namespace Go.Proofs.YtcailmgincafcaaDoor.U
open Go.Lib
set_option linter.unusedVariables false

theorem dec_bd (n b0 b1 b2 b3 : Nat) (hn : 1 ≤ n) (h0 : b0 < 256) (h1 : b1 < 256) (h2 : b2 < 256) (h3 : b3 < 256) : (decodeN n b0 b1 b2 b3).1 < 2097152 ∧ (decodeN n b0 b1 b2 b3).2 ≤ 4 := by
  rw [dec_eq n b0 b1 b2 b3 hn h1 h2 h3]
  unfold slowN
  generalize szB b0 = s
  generalize loB b0 = lo
  generalize hiB b0 = hi
  (repeat' split) <;> (try simp only) <;> omega

theorem nextN_bd (n b0 b1 b2 b3 : Nat) (h0 : b0 < 256) : (nextN n b0 b1 b2 b3).1 < 2097152 ∧ (nextN n b0 b1 b2 b3).2.1 ≤ 4 ∧ (nextN n b0 b1 b2 b3).2.1 ≤ n ∧ (0 < n → 0 < (nextN n b0 b1 b2 b3).2.1) ∧ (nextN n b0 b1 b2 b3).2.2 ≤ 8 := by
  have key : ∀ r : Nat × Nat × Nat, r = nextN n b0 b1 b2 b3 → r.1 < 2097152 ∧ r.2.1 ≤ 4 ∧ r.2.1 ≤ n ∧ (0 < n → 0 < r.2.1) ∧ r.2.2 ≤ 8 := by
    intro r hr
    unfold nextN at hr
    generalize szB b0 = s at hr
    generalize loB b0 = lo at hr
    generalize hiB b0 = hi at hr
    by_cases hn : n = 0
    · rw [if_pos hn] at hr
      subst hr
      exact ⟨by simp, by simp, by simp, by omega, by simp⟩
    · rw [if_neg hn] at hr
      repeat' split at hr
      all_goals
        subst hr
        refine ⟨?_, ?_, ?_, ?_, ?_⟩ <;> simp only <;> omega
  exact key _ rfl

end Go.Proofs.YtcailmgincafcaaDoor.U
