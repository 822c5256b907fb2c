/-
  The document: Check, Of, Bytes.
-/
import Derived.Test.YtngbpkbojjipgaaDoorOf
namespace Go.Proofs.YtngbpkbojjipgaaDoor
open Go.RowKit Go.Lib
set_option linter.unusedVariables false

theorem rpr_run (c : Int) (w : World) : Calls Tryd.prog 25 #[.int .i64 c] w (Gives (.bool (shown c)) w) := U.rpr_any c w

set_option maxHeartbeats 1000000 in
set_option maxRecDepth 100000 in
theorem rcheck_run (k c : Int) (w : World) : Calls Tryd.prog 14 #[kv k c] w (Tells (.int .i64 (chk k c : Int)) w) := by
  have K := Lib.hid (fun W => rpr_run c W)
  unfold kv
  by_cases h1 : k < 0
  · have e : chk k c = 9 := by unfold chk; rw [if_pos (.inl h1)]
    rw [e]
    clear e
    go_enter Tryd.func14, Tryd.ntmps14
    go_wp2
    go_ret
    exact ⟨rfl, Stp.alloc _ _ _⟩
  by_cases h2 : 15 < k
  · have e : chk k c = 9 := by unfold chk; rw [if_pos (.inr (by omega))]
    rw [e]
    clear e
    go_enter Tryd.func14, Tryd.ntmps14
    go_wp2
    go_ret
    exact ⟨rfl, Stp.alloc _ _ _⟩
  by_cases h3 : k = 0
  · subst h3
    cases hs : shown c with
    | true =>
      have e : chk 0 c = 0 := chk_rune hs
      rw [e]
      rw [hs] at K
      clear e h1 h2 hs
      go_enter Tryd.func14, Tryd.ntmps14
      go_wp2_with (go_at_call 25; refine (K.out _).mono ?_; rintro _ w1 ⟨rfl, rfl⟩)
      go_ret
      exact ⟨rfl, Stp.alloc _ _ _⟩
    | false =>
      have e : chk 0 c = 2 := by unfold chk; rw [if_neg (by omega), if_pos (.inl ⟨rfl, hs⟩)]
      rw [e]
      rw [hs] at K
      clear e h1 h2 hs
      go_enter Tryd.func14, Tryd.ntmps14
      go_wp2_with (go_at_call 25; refine (K.out _).mono ?_; rintro _ w1 ⟨rfl, rfl⟩)
      go_ret
      exact ⟨rfl, Stp.alloc _ _ _⟩
  · by_cases h4 : c = 0
    · subst h4
      have e : chk k 0 = 0 := by unfold chk; rw [if_neg (by omega), if_neg (by omega)]
      rw [e]
      clear e
      have hk : (k == 0) = false := beq_eq_false_iff_ne.2 h3
      have hk2 : (k != 0) = true := by simp [bne, hk]
      go_enter Tryd.func14, Tryd.ntmps14
      go_wp2
      go_ret
      exact ⟨rfl, Stp.alloc _ _ _⟩
    · have e : chk k c = 2 := by unfold chk; rw [if_neg (by omega), if_pos (.inr ⟨h3, h4⟩)]
      rw [e]
      clear e
      have hk : (k == 0) = false := beq_eq_false_iff_ne.2 h3
      have hk2 : (k != 0) = true := by simp [bne, hk]
      have hc : (c == 0) = false := beq_eq_false_iff_ne.2 h4
      have hc2 : (c != 0) = true := by simp [bne, hc]
      go_enter Tryd.func14, Tryd.ntmps14
      go_wp2
      go_ret
      exact ⟨rfl, Stp.alloc _ _ _⟩

set_option maxHeartbeats 4000000 in
set_option maxRecDepth 100000 in
theorem rof_run (c : Int) (w : World) : Calls Tryd.prog 13 #[.int .i64 c] w (Tells (kv (ofk c).1 (ofk c).2) w) := by
  have K := Lib.hid (fun W => rpr_run c W)
  cases hs : shown c with
  | true =>
    have e : ofk c = (0, c) := by unfold ofk; rw [hs]; rfl
    rw [e]
    rw [hs] at K
    clear e hs
    unfold kv
    go_enter Tryd.func13, Tryd.ntmps13
    go_wp2_with (go_at_call 25; refine (K.out _).mono ?_; rintro _ w1 ⟨rfl, rfl⟩)
    refine bodyPost_ret (res_key rfl _ _ w.heap.size 0 c rfl (heap_alloc_new w _)) rfl ?_
    exact ⟨rfl, Stp.alloc _ _ _⟩
  | false =>
    have e : ofk c = ((kof c : Int), 0) := by unfold ofk; rw [hs]; rfl
    rw [e]
    rw [hs] at K
    clear e hs
    unfold kv
    by_cases h : c = 1 ∨ c = 2 ∨ c = 3 ∨ c = 4 ∨ c = 5 ∨ c = 6 ∨ c = 8 ∨ c = 10 ∨ c = 11 ∨ c = 12 ∨ c = 13 ∨ c = 21 ∨ c = 127
    · rcases h with rfl | rfl | rfl | rfl | rfl | rfl | rfl | rfl | rfl | rfl | rfl | rfl | rfl
      all_goals
        go_enter Tryd.func13, Tryd.ntmps13
        go_wp2_with (go_at_call 25; refine (K.out _).mono ?_; rintro _ w1 ⟨rfl, rfl⟩)
        refine bodyPost_ret (res_key rfl _ _ w.heap.size _ 0 rfl (heap_alloc_new w _)) rfl ?_
        exact ⟨rfl, Stp.alloc _ _ _⟩
    · have e2 : kof c = 15 := by
        simp only [not_or] at h
        obtain ⟨h0, h1, h2, h3, h4, h5, h6, h7, h8, h9, h10, h11, h12⟩ := h
        unfold kof
        simp only [h0, h1, h2, h3, h4, h5, h6, h7, h8, h9, h10, h11, h12, if_false]
      rw [e2]
      clear e2
      have n1 : (c == 1) = false := beq_eq_false_iff_ne.2 (by omega)
      have n2 : (c == 2) = false := beq_eq_false_iff_ne.2 (by omega)
      have n3 : (c == 3) = false := beq_eq_false_iff_ne.2 (by omega)
      have n4 : (c == 4) = false := beq_eq_false_iff_ne.2 (by omega)
      have n5 : (c == 5) = false := beq_eq_false_iff_ne.2 (by omega)
      have n6 : (c == 6) = false := beq_eq_false_iff_ne.2 (by omega)
      have n8 : (c == 8) = false := beq_eq_false_iff_ne.2 (by omega)
      have n10 : (c == 10) = false := beq_eq_false_iff_ne.2 (by omega)
      have n11 : (c == 11) = false := beq_eq_false_iff_ne.2 (by omega)
      have n12 : (c == 12) = false := beq_eq_false_iff_ne.2 (by omega)
      have n13 : (c == 13) = false := beq_eq_false_iff_ne.2 (by omega)
      have n21 : (c == 21) = false := beq_eq_false_iff_ne.2 (by omega)
      have n127 : (c == 127) = false := beq_eq_false_iff_ne.2 (by omega)
      clear h
      go_enter Tryd.func13, Tryd.ntmps13
      go_wp2_with (go_at_call 25; refine (K.out _).mono ?_; rintro _ w1 ⟨rfl, rfl⟩)
      refine bodyPost_ret (res_key rfl _ _ w.heap.size 15 0 rfl (heap_alloc_new w _)) rfl ?_
      exact ⟨rfl, Stp.alloc _ _ _⟩
end Go.Proofs.YtngbpkbojjipgaaDoor
