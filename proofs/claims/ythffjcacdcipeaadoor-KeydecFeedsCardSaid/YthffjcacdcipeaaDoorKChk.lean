/-
  keys.check, keys.gather.
-/
import Derived.Test.YthffjcacdcipeaaDoorKStr
namespace Go.Proofs.YthffjcacdcipeaaDoor.K
open Go.RowKit Go.Lib
set_option linter.unusedVariables false

theorem pr_run (c : Int) (w : World) : Calls Tryd.prog 50 #[.int .i64 c] w (Gives (.bool (shown c)) w) := U.pr_any c w

set_option maxHeartbeats 1000000 in
set_option maxRecDepth 100000 in
theorem check_run (k c : Int) (w : World) : Calls Tryd.prog 41 #[kv k c] w (Tells (.int .i64 (chk k c : Int)) w) := by
  have K := Lib.hid (fun W => pr_run c W)
  unfold kv
  by_cases h1 : k < 0
  · have e : chk k c = 9 := by unfold chk; rw [if_pos (.inl h1)]
    rw [e]
    clear e
    go_enter Tryd.func41, Tryd.ntmps41
    go_wp2
    go_ret
    exact ⟨rfl, Stp.alloc _ _ _⟩
  by_cases h2 : 16 ≤ k
  · have e : chk k c = 9 := by unfold chk; rw [if_pos (.inr (by omega))]
    rw [e]
    clear e
    go_enter Tryd.func41, Tryd.ntmps41
    go_wp2
    go_ret
    exact ⟨rfl, Stp.alloc _ _ _⟩
  by_cases h3 : k = 0
  · subst h3
    cases hs : shown c with
    | true =>
      have e : chk 0 c = 0 := chk_rune hs
      rw [e]
      rw [hs] at K
      clear e h1 h2 hs
      go_enter Tryd.func41, Tryd.ntmps41
      go_wp2_with (go_at_call 50; refine (K.out _).mono ?_; rintro _ w1 ⟨rfl, rfl⟩)
      go_ret
      exact ⟨rfl, Stp.alloc _ _ _⟩
    | false =>
      have e : chk 0 c = 2 := by unfold chk; rw [if_neg (by omega), if_pos (.inl ⟨rfl, hs⟩)]
      rw [e]
      rw [hs] at K
      clear e h1 h2 hs
      go_enter Tryd.func41, Tryd.ntmps41
      go_wp2_with (go_at_call 50; refine (K.out _).mono ?_; rintro _ w1 ⟨rfl, rfl⟩)
      go_ret
      exact ⟨rfl, Stp.alloc _ _ _⟩
  · by_cases h4 : c = 0
    · subst h4
      have e : chk k 0 = 0 := by unfold chk; rw [if_neg (by omega), if_neg (by omega)]
      rw [e]
      clear e
      have hk : (k == 0) = false := beq_eq_false_iff_ne.2 h3
      have hk2 : (k != 0) = true := by simp [bne, hk]
      go_enter Tryd.func41, Tryd.ntmps41
      go_wp2
      go_ret
      exact ⟨rfl, Stp.alloc _ _ _⟩
    · have e : chk k c = 2 := by unfold chk; rw [if_neg (by omega), if_pos (.inr ⟨h3, h4⟩)]
      rw [e]
      clear e
      have hk : (k == 0) = false := beq_eq_false_iff_ne.2 h3
      have hk2 : (k != 0) = true := by simp [bne, hk]
      have hc : (c == 0) = false := beq_eq_false_iff_ne.2 h4
      have hc2 : (c != 0) = true := by simp [bne, hc]
      go_enter Tryd.func41, Tryd.ntmps41
      go_wp2
      go_ret
      exact ⟨rfl, Stp.alloc _ _ _⟩

end Go.Proofs.YthffjcacdcipeaaDoor.K
