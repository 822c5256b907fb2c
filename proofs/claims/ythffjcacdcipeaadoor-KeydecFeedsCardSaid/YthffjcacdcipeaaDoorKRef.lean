/-
  The document: Check, Of, Bytes.
-/
import Derived.Test.YthffjcacdcipeaaDoorKOf
namespace Go.Proofs.YthffjcacdcipeaaDoor.K
open Go.RowKit Go.Lib
set_option linter.unusedVariables false

theorem rpr_run (c : Int) (w : World) : Calls Tryd.prog 29 #[.int .i64 c] w (Gives (.bool (shown c)) w) := U.rpr_any c w

set_option maxHeartbeats 4000000 in
set_option maxRecDepth 100000 in
theorem rof_run (c : Int) (w : World) : Calls Tryd.prog 34 #[.int .i64 c] w (Tells (kv (ofk c).1 (ofk c).2) w) := by
  have K := Lib.hid (fun W => rpr_run c W)
  cases hs : shown c with
  | true =>
    have e : ofk c = (0, c) := by unfold ofk; rw [hs]; rfl
    rw [e]
    rw [hs] at K
    clear e hs
    unfold kv
    go_enter Tryd.func34, Tryd.ntmps34
    go_wp2_with (go_at_call 29; refine (K.out _).mono ?_; rintro _ w1 ⟨rfl, rfl⟩)
    refine bodyPost_ret (res_key rfl _ _ w.heap.size 0 c rfl (heap_alloc_new w _)) rfl ?_
    exact ⟨rfl, Stp.alloc _ _ _⟩
  | false =>
    have e : ofk c = ((kof c : Int), 0) := by unfold ofk; rw [hs]; rfl
    rw [e]
    rw [hs] at K
    clear e hs
    unfold kv
    by_cases h : c = 1 ∨ c = 2 ∨ c = 3 ∨ c = 4 ∨ c = 5 ∨ c = 6 ∨ c = 8 ∨ c = 10 ∨ c = 11 ∨ c = 12 ∨ c = 13 ∨ c = 21 ∨ c = 127
    · rcases h with rfl | rfl | rfl | rfl | rfl | rfl | rfl | rfl | rfl | rfl | rfl | rfl | rfl
      all_goals
        go_enter Tryd.func34, Tryd.ntmps34
        go_wp2_with (go_at_call 29; refine (K.out _).mono ?_; rintro _ w1 ⟨rfl, rfl⟩)
        refine bodyPost_ret (res_key rfl _ _ w.heap.size _ 0 rfl (heap_alloc_new w _)) rfl ?_
        exact ⟨rfl, Stp.alloc _ _ _⟩
    · have e2 : kof c = 15 := by
        simp only [not_or] at h
        obtain ⟨h0, h1, h2, h3, h4, h5, h6, h7, h8, h9, h10, h11, h12⟩ := h
        unfold kof
        simp only [h0, h1, h2, h3, h4, h5, h6, h7, h8, h9, h10, h11, h12, if_false]
      rw [e2]
      clear e2
      have n1 : (c == 1) = false := beq_eq_false_iff_ne.2 (by omega)
      have n2 : (c == 2) = false := beq_eq_false_iff_ne.2 (by omega)
      have n3 : (c == 3) = false := beq_eq_false_iff_ne.2 (by omega)
      have n4 : (c == 4) = false := beq_eq_false_iff_ne.2 (by omega)
      have n5 : (c == 5) = false := beq_eq_false_iff_ne.2 (by omega)
      have n6 : (c == 6) = false := beq_eq_false_iff_ne.2 (by omega)
      have n8 : (c == 8) = false := beq_eq_false_iff_ne.2 (by omega)
      have n10 : (c == 10) = false := beq_eq_false_iff_ne.2 (by omega)
      have n11 : (c == 11) = false := beq_eq_false_iff_ne.2 (by omega)
      have n12 : (c == 12) = false := beq_eq_false_iff_ne.2 (by omega)
      have n13 : (c == 13) = false := beq_eq_false_iff_ne.2 (by omega)
      have n21 : (c == 21) = false := beq_eq_false_iff_ne.2 (by omega)
      have n127 : (c == 127) = false := beq_eq_false_iff_ne.2 (by omega)
      clear h
      go_enter Tryd.func34, Tryd.ntmps34
      go_wp2_with (go_at_call 29; refine (K.out _).mono ?_; rintro _ w1 ⟨rfl, rfl⟩)
      refine bodyPost_ret (res_key rfl _ _ w.heap.size 15 0 rfl (heap_alloc_new w _)) rfl ?_
      exact ⟨rfl, Stp.alloc _ _ _⟩
end Go.Proofs.YthffjcacdcipeaaDoor.K
