/-
  attrs.Has, attrs.With.
-/
import Derived.Test.YtlgbdbkenalonaaDoorAt
namespace Go.Proofs.YtlgbdbkenalonaaDoor
open Go.RowKit Go.Lib
set_option linter.unusedVariables false

set_option maxHeartbeats 1000000 in
set_option maxRecDepth 100000 in
theorem has_run (f m t k : Nat) (hf : f < 4294967296) (hk : k < 4294967296) (w : World) : Calls Tryd.prog 6 #[av f m t, .int .u32 (k : Int)] w (Tells (.bool (decide (f &&& k = k))) w) := by
  have h := bits_and hf hk
  have hd : (((f &&& k : Nat) : Int) == (k : Int)) = decide (f &&& k = k) := by
    by_cases e : f &&& k = k
    · simp [e]
    · rw [decide_eq_false e]
      exact beq_eq_false_iff_ne.2 (by omega)
  unfold av
  generalize decide (f &&& k = k) = b at *
  generalize (f &&& k : Nat) = x at *
  go_enter Tryd.func6, Tryd.ntmps6
  go_wp2
  go_ret
  exact ⟨rfl, Stp.alloc _ _ _⟩
/-- With, or without, flags. -/
def wth (f k : Nat) (on : Bool) : Nat := if on then f ||| k else ban f k
theorem wth_lt {f k : Nat} (hf : f < 4294967296) (hk : k < 4294967296) (on : Bool) : wth f k on < 4294967296 := by
  cases on
  · exact ban_lt f k
  · exact Nat.or_lt_two_pow (n := 32) hf hk
set_option maxHeartbeats 1000000 in
set_option maxRecDepth 100000 in
theorem with_run (f m t k : Nat) (on : Bool) (hf : f < 4294967296) (hk : k < 4294967296) (w : World) : Calls Tryd.prog 4 #[av f m t, .int .u32 (k : Int), .bool on] w (Tells (av (wth f k on) m t) w) := by
  cases on with
  | true =>
    have h := bits_or hf hk
    show Calls _ _ _ _ (Tells (av (f ||| k) m t) w)
    generalize (f ||| k : Nat) = x at *
    unfold av
    go_enter Tryd.func4, Tryd.ntmps4
    go_wp2
    refine bodyPost_ret (res_attrs rfl _ _ (w.heap.size + 1) x m t rfl (heap_alloc2_new w _ _)) rfl ?_
    exact ⟨rfl, (Stp.alloc _ _ _).trans (Stp.alloc _ _ _)⟩
  | false =>
    have h := bits_ban f k
    show Calls _ _ _ _ (Tells (av (ban f k) m t) w)
    generalize ban f k = x at *
    unfold av
    go_enter Tryd.func4, Tryd.ntmps4
    go_wp2
    refine bodyPost_ret (res_attrs rfl _ _ (w.heap.size + 1) x m t rfl (heap_alloc2_new w _ _)) rfl ?_
    exact ⟨rfl, (Stp.alloc _ _ _).trans (Stp.alloc _ _ _)⟩
end Go.Proofs.YtlgbdbkenalonaaDoor
