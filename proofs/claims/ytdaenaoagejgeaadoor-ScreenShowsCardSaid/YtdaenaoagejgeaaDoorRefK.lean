/-
  whispererref09.key: the key of a whole sequence, without ESC.
-/
import Derived.Test.YtdaenaoagejgeaaDoorNx
import Derived.Lib.SmallJoins
namespace Go.Proofs.YtdaenaoagejgeaaDoor
open Go.RowKit Go.Lib
set_option linter.unusedVariables false

theorem st_is {s t : List UInt8} (h : s = t) : ((st s).toList == t) = true := by rw [st_toList, h]; simp
theorem st_isnt {s t : List UInt8} (h : s ≠ t) : ((st s).toList == t) = false := by rw [st_toList]; exact beq_eq_false_iff_ne.2 h
theorem kk_none {s : List UInt8} (h0 : s ≠ [91, 67]) (h1 : s ≠ [79, 67]) (h2 : s ≠ [91, 68]) (h3 : s ≠ [79, 68]) (h4 : s ≠ [91, 72]) (h5 : s ≠ [79, 72]) (h6 : s ≠ [91, 49, 126]) (h7 : s ≠ [91, 55, 126]) (h8 : s ≠ [91, 70]) (h9 : s ≠ [79, 70]) (h10 : s ≠ [91, 52, 126]) (h11 : s ≠ [91, 56, 126]) (h12 : s ≠ [91, 51, 126]) (h13 : s ≠ [91, 50, 48, 48, 126]) (h14 : s ≠ [91, 50, 48, 49, 126]) : kk (27 :: s) = 15 := by
  rcases kk_cases (27 :: s) with ⟨_, e⟩ | ⟨z, _, _, hm⟩
  · exact e
  · simp [kns] at hm
    rcases hm with ⟨h, _⟩ | ⟨h, _⟩ | ⟨h, _⟩ | ⟨h, _⟩ | ⟨h, _⟩ | ⟨h, _⟩ | ⟨h, _⟩ | ⟨h, _⟩ | ⟨h, _⟩ | ⟨h, _⟩ | ⟨h, _⟩ | ⟨h, _⟩ | ⟨h, _⟩ | ⟨h, _⟩ | ⟨h, _⟩
    · exact absurd h h14
    · exact absurd h h13
    · exact absurd h h12
    · exact absurd h h11
    · exact absurd h h10
    · exact absurd h h9
    · exact absurd h h8
    · exact absurd h h7
    · exact absurd h h6
    · exact absurd h h5
    · exact absurd h h4
    · exact absurd h h3
    · exact absurd h h2
    · exact absurd h h1
    · exact absurd h h0
set_option maxHeartbeats 4000000 in
set_option maxRecDepth 100000 in
theorem key_run (s : List UInt8) (w : World) : Calls Tryd.prog 43 #[.string (st s)] w (Tells (kv (kk (27 :: s)) 0) w) := by
  by_cases h0 : s = [91, 67]
  · have e : kk (27 :: s) = 5 := by rw [h0]; decide
    rw [e]
    unfold kv
    have g0 := st_is h0
    clear e h0
    generalize (st s) = sb at *
    go_enter Tryd.func43, Tryd.ntmps43
    go_wp2
    refine bodyPost_ret (res_key rfl _ _ w.heap.size 5 0 rfl (heap_alloc_new _ _)) rfl ?_
    exact ⟨rfl, Stp.alloc _ _ _⟩
  by_cases h1 : s = [79, 67]
  · have e : kk (27 :: s) = 5 := by rw [h1]; decide
    rw [e]
    unfold kv
    have g0 := st_isnt h0
    have g1 := st_is h1
    clear e h0 h1
    generalize (st s) = sb at *
    go_enter Tryd.func43, Tryd.ntmps43
    go_wp2
    refine bodyPost_ret (res_key rfl _ _ w.heap.size 5 0 rfl (heap_alloc_new _ _)) rfl ?_
    exact ⟨rfl, Stp.alloc _ _ _⟩
  by_cases h2 : s = [91, 68]
  · have e : kk (27 :: s) = 4 := by rw [h2]; decide
    rw [e]
    unfold kv
    have g0 := st_isnt h0
    have g1 := st_isnt h1
    have g2 := st_is h2
    clear e h0 h1 h2
    generalize (st s) = sb at *
    go_enter Tryd.func43, Tryd.ntmps43
    go_wp2
    refine bodyPost_ret (res_key rfl _ _ w.heap.size 4 0 rfl (heap_alloc_new _ _)) rfl ?_
    exact ⟨rfl, Stp.alloc _ _ _⟩
  by_cases h3 : s = [79, 68]
  · have e : kk (27 :: s) = 4 := by rw [h3]; decide
    rw [e]
    unfold kv
    have g0 := st_isnt h0
    have g1 := st_isnt h1
    have g2 := st_isnt h2
    have g3 := st_is h3
    clear e h0 h1 h2 h3
    generalize (st s) = sb at *
    go_enter Tryd.func43, Tryd.ntmps43
    go_wp2
    refine bodyPost_ret (res_key rfl _ _ w.heap.size 4 0 rfl (heap_alloc_new _ _)) rfl ?_
    exact ⟨rfl, Stp.alloc _ _ _⟩
  by_cases h4 : s = [91, 72]
  · have e : kk (27 :: s) = 6 := by rw [h4]; decide
    rw [e]
    unfold kv
    have g0 := st_isnt h0
    have g1 := st_isnt h1
    have g2 := st_isnt h2
    have g3 := st_isnt h3
    have g4 := st_is h4
    clear e h0 h1 h2 h3 h4
    generalize (st s) = sb at *
    go_enter Tryd.func43, Tryd.ntmps43
    go_wp2
    refine bodyPost_ret (res_key rfl _ _ w.heap.size 6 0 rfl (heap_alloc_new _ _)) rfl ?_
    exact ⟨rfl, Stp.alloc _ _ _⟩
  by_cases h5 : s = [79, 72]
  · have e : kk (27 :: s) = 6 := by rw [h5]; decide
    rw [e]
    unfold kv
    have g0 := st_isnt h0
    have g1 := st_isnt h1
    have g2 := st_isnt h2
    have g3 := st_isnt h3
    have g4 := st_isnt h4
    have g5 := st_is h5
    clear e h0 h1 h2 h3 h4 h5
    generalize (st s) = sb at *
    go_enter Tryd.func43, Tryd.ntmps43
    go_wp2
    refine bodyPost_ret (res_key rfl _ _ w.heap.size 6 0 rfl (heap_alloc_new _ _)) rfl ?_
    exact ⟨rfl, Stp.alloc _ _ _⟩
  by_cases h6 : s = [91, 49, 126]
  · have e : kk (27 :: s) = 6 := by rw [h6]; decide
    rw [e]
    unfold kv
    have g0 := st_isnt h0
    have g1 := st_isnt h1
    have g2 := st_isnt h2
    have g3 := st_isnt h3
    have g4 := st_isnt h4
    have g5 := st_isnt h5
    have g6 := st_is h6
    clear e h0 h1 h2 h3 h4 h5 h6
    generalize (st s) = sb at *
    go_enter Tryd.func43, Tryd.ntmps43
    go_wp2
    refine bodyPost_ret (res_key rfl _ _ w.heap.size 6 0 rfl (heap_alloc_new _ _)) rfl ?_
    exact ⟨rfl, Stp.alloc _ _ _⟩
  by_cases h7 : s = [91, 55, 126]
  · have e : kk (27 :: s) = 6 := by rw [h7]; decide
    rw [e]
    unfold kv
    have g0 := st_isnt h0
    have g1 := st_isnt h1
    have g2 := st_isnt h2
    have g3 := st_isnt h3
    have g4 := st_isnt h4
    have g5 := st_isnt h5
    have g6 := st_isnt h6
    have g7 := st_is h7
    clear e h0 h1 h2 h3 h4 h5 h6 h7
    generalize (st s) = sb at *
    go_enter Tryd.func43, Tryd.ntmps43
    go_wp2
    refine bodyPost_ret (res_key rfl _ _ w.heap.size 6 0 rfl (heap_alloc_new _ _)) rfl ?_
    exact ⟨rfl, Stp.alloc _ _ _⟩
  by_cases h8 : s = [91, 70]
  · have e : kk (27 :: s) = 7 := by rw [h8]; decide
    rw [e]
    unfold kv
    have g0 := st_isnt h0
    have g1 := st_isnt h1
    have g2 := st_isnt h2
    have g3 := st_isnt h3
    have g4 := st_isnt h4
    have g5 := st_isnt h5
    have g6 := st_isnt h6
    have g7 := st_isnt h7
    have g8 := st_is h8
    clear e h0 h1 h2 h3 h4 h5 h6 h7 h8
    generalize (st s) = sb at *
    go_enter Tryd.func43, Tryd.ntmps43
    go_wp2
    refine bodyPost_ret (res_key rfl _ _ w.heap.size 7 0 rfl (heap_alloc_new _ _)) rfl ?_
    exact ⟨rfl, Stp.alloc _ _ _⟩
  by_cases h9 : s = [79, 70]
  · have e : kk (27 :: s) = 7 := by rw [h9]; decide
    rw [e]
    unfold kv
    have g0 := st_isnt h0
    have g1 := st_isnt h1
    have g2 := st_isnt h2
    have g3 := st_isnt h3
    have g4 := st_isnt h4
    have g5 := st_isnt h5
    have g6 := st_isnt h6
    have g7 := st_isnt h7
    have g8 := st_isnt h8
    have g9 := st_is h9
    clear e h0 h1 h2 h3 h4 h5 h6 h7 h8 h9
    generalize (st s) = sb at *
    go_enter Tryd.func43, Tryd.ntmps43
    go_wp2
    refine bodyPost_ret (res_key rfl _ _ w.heap.size 7 0 rfl (heap_alloc_new _ _)) rfl ?_
    exact ⟨rfl, Stp.alloc _ _ _⟩
  by_cases h10 : s = [91, 52, 126]
  · have e : kk (27 :: s) = 7 := by rw [h10]; decide
    rw [e]
    unfold kv
    have g0 := st_isnt h0
    have g1 := st_isnt h1
    have g2 := st_isnt h2
    have g3 := st_isnt h3
    have g4 := st_isnt h4
    have g5 := st_isnt h5
    have g6 := st_isnt h6
    have g7 := st_isnt h7
    have g8 := st_isnt h8
    have g9 := st_isnt h9
    have g10 := st_is h10
    clear e h0 h1 h2 h3 h4 h5 h6 h7 h8 h9 h10
    generalize (st s) = sb at *
    go_enter Tryd.func43, Tryd.ntmps43
    go_wp2
    refine bodyPost_ret (res_key rfl _ _ w.heap.size 7 0 rfl (heap_alloc_new _ _)) rfl ?_
    exact ⟨rfl, Stp.alloc _ _ _⟩
  by_cases h11 : s = [91, 56, 126]
  · have e : kk (27 :: s) = 7 := by rw [h11]; decide
    rw [e]
    unfold kv
    have g0 := st_isnt h0
    have g1 := st_isnt h1
    have g2 := st_isnt h2
    have g3 := st_isnt h3
    have g4 := st_isnt h4
    have g5 := st_isnt h5
    have g6 := st_isnt h6
    have g7 := st_isnt h7
    have g8 := st_isnt h8
    have g9 := st_isnt h9
    have g10 := st_isnt h10
    have g11 := st_is h11
    clear e h0 h1 h2 h3 h4 h5 h6 h7 h8 h9 h10 h11
    generalize (st s) = sb at *
    go_enter Tryd.func43, Tryd.ntmps43
    go_wp2
    refine bodyPost_ret (res_key rfl _ _ w.heap.size 7 0 rfl (heap_alloc_new _ _)) rfl ?_
    exact ⟨rfl, Stp.alloc _ _ _⟩
  by_cases h12 : s = [91, 51, 126]
  · have e : kk (27 :: s) = 3 := by rw [h12]; decide
    rw [e]
    unfold kv
    have g0 := st_isnt h0
    have g1 := st_isnt h1
    have g2 := st_isnt h2
    have g3 := st_isnt h3
    have g4 := st_isnt h4
    have g5 := st_isnt h5
    have g6 := st_isnt h6
    have g7 := st_isnt h7
    have g8 := st_isnt h8
    have g9 := st_isnt h9
    have g10 := st_isnt h10
    have g11 := st_isnt h11
    have g12 := st_is h12
    clear e h0 h1 h2 h3 h4 h5 h6 h7 h8 h9 h10 h11 h12
    generalize (st s) = sb at *
    go_enter Tryd.func43, Tryd.ntmps43
    go_wp2
    refine bodyPost_ret (res_key rfl _ _ w.heap.size 3 0 rfl (heap_alloc_new _ _)) rfl ?_
    exact ⟨rfl, Stp.alloc _ _ _⟩
  by_cases h13 : s = [91, 50, 48, 48, 126]
  · have e : kk (27 :: s) = 13 := by rw [h13]; decide
    rw [e]
    unfold kv
    have g0 := st_isnt h0
    have g1 := st_isnt h1
    have g2 := st_isnt h2
    have g3 := st_isnt h3
    have g4 := st_isnt h4
    have g5 := st_isnt h5
    have g6 := st_isnt h6
    have g7 := st_isnt h7
    have g8 := st_isnt h8
    have g9 := st_isnt h9
    have g10 := st_isnt h10
    have g11 := st_isnt h11
    have g12 := st_isnt h12
    have g13 := st_is h13
    clear e h0 h1 h2 h3 h4 h5 h6 h7 h8 h9 h10 h11 h12 h13
    generalize (st s) = sb at *
    go_enter Tryd.func43, Tryd.ntmps43
    go_wp2
    refine bodyPost_ret (res_key rfl _ _ w.heap.size 13 0 rfl (heap_alloc_new _ _)) rfl ?_
    exact ⟨rfl, Stp.alloc _ _ _⟩
  by_cases h14 : s = [91, 50, 48, 49, 126]
  · have e : kk (27 :: s) = 14 := by rw [h14]; decide
    rw [e]
    unfold kv
    have g0 := st_isnt h0
    have g1 := st_isnt h1
    have g2 := st_isnt h2
    have g3 := st_isnt h3
    have g4 := st_isnt h4
    have g5 := st_isnt h5
    have g6 := st_isnt h6
    have g7 := st_isnt h7
    have g8 := st_isnt h8
    have g9 := st_isnt h9
    have g10 := st_isnt h10
    have g11 := st_isnt h11
    have g12 := st_isnt h12
    have g13 := st_isnt h13
    have g14 := st_is h14
    clear e h0 h1 h2 h3 h4 h5 h6 h7 h8 h9 h10 h11 h12 h13 h14
    generalize (st s) = sb at *
    go_enter Tryd.func43, Tryd.ntmps43
    go_wp2
    refine bodyPost_ret (res_key rfl _ _ w.heap.size 14 0 rfl (heap_alloc_new _ _)) rfl ?_
    exact ⟨rfl, Stp.alloc _ _ _⟩
  have e := kk_none h0 h1 h2 h3 h4 h5 h6 h7 h8 h9 h10 h11 h12 h13 h14
  rw [e]
  unfold kv
  have g0 := st_isnt h0
  have g1 := st_isnt h1
  have g2 := st_isnt h2
  have g3 := st_isnt h3
  have g4 := st_isnt h4
  have g5 := st_isnt h5
  have g6 := st_isnt h6
  have g7 := st_isnt h7
  have g8 := st_isnt h8
  have g9 := st_isnt h9
  have g10 := st_isnt h10
  have g11 := st_isnt h11
  have g12 := st_isnt h12
  have g13 := st_isnt h13
  have g14 := st_isnt h14
  clear e h0 h1 h2 h3 h4 h5 h6 h7 h8 h9 h10 h11 h12 h13 h14
  generalize (st s) = sb at *
  go_enter Tryd.func43, Tryd.ntmps43
  go_wp2
  refine bodyPost_ret (res_key rfl _ _ w.heap.size 15 0 rfl (heap_alloc_new _ _)) rfl ?_
  exact ⟨rfl, Stp.alloc _ _ _⟩
end Go.Proofs.YtdaenaoagejgeaaDoor
