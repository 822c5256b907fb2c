/-
  QueueFull returns true for every byte and word.
-/
import Derived.Test.YtjjaaahoophgpaaPushed
namespace Go.Proofs.Ytjjaaahoophgpaa
open Go.RowKit Go.Lib
set_option linter.unusedVariables false

/-- The moments 0 to 6. -/
theorem conv7 (k : Nat) (hk : k < 7) : ∃ m : Mo, ∀ w : World, (convert 3 33 (.int .i64 (k : Int))).run Try.prog w = .ok (.float .f64 m.v) w := by
  have : k = 0 ∨ k = 1 ∨ k = 2 ∨ k = 3 ∨ k = 4 ∨ k = 5 ∨ k = 6 := by omega
  rcases this with rfl | rfl | rfl | rfl | rfl | rfl | rfl
  · exact ⟨⟨0, by omega⟩, fun w => by kernel_rfl⟩
  · exact ⟨⟨4607182418800017408, by omega⟩, fun w => by kernel_rfl⟩
  · exact ⟨⟨4611686018427387904, by omega⟩, fun w => by kernel_rfl⟩
  · exact ⟨⟨4613937818241073152, by omega⟩, fun w => by kernel_rfl⟩
  · exact ⟨⟨4616189618054758400, by omega⟩, fun w => by kernel_rfl⟩
  · exact ⟨⟨4617315517961601024, by omega⟩, fun w => by kernel_rfl⟩
  · exact ⟨⟨4618441417868443648, by omega⟩, fun w => by kernel_rfl⟩

set_option maxHeartbeats 2000000 in
set_option maxRecDepth 100000 in
theorem full_walk (n : Nat) (m : Mo) (hn : n < 256) (w : World) : Calls Try.prog 7 #[.int .u8 (n : Int), .int .u64 (m.v : Int)] w (Truth w) := by
  have KN := Lib.hid (new_run w)
  have KA := Lib.hid alive_run
  have fm := from_run m.v
  go_enter Try.func7, Try.ntmps7
  go_wp2_with fail
  refine KN.out.mono ?_
  rintro _ w0 ⟨rfl, q0, s0⟩
  have H0 := Lib.hid (And.intro q0 s0)
  clear KN q0 s0
  generalize w.heap.size = b at *
  go_wp2_with fail
  refine (KA.out _).mono ?_
  rintro _ w1 ⟨rfl, s1⟩
  have H1 : Aside (Qs w1 [b] b [] 0 ∧ Stp [] w [b] w1) := ⟨H0.out.1.stays s1, H0.out.2.trans (s1.widen (fun k h => .inl h))⟩
  clear H0 s1 KA
  go_wp2
  go_loopg [19] 4096 (fun gk vi wr => ∃ i : Nat, vi = .int .i64 (i : Int) ∧ i ≤ 4096 ∧ 4096 - i ≤ gk ∧ Aside (∃ F s, Qs wr F b s i ∧ s.length = i ∧ Stp [] w F wr))
  case atStart => exact ⟨0, rfl, by omega, by omega, [b], [], H1.out.1, rfl, H1.out.2⟩
  case round =>
    clear H1
    obtain ⟨i, rfl, hi, hg, HS⟩ := hrel
    obtain ⟨F, s, HS⟩ : ∃ F s, Aside (Qs wr F b s i ∧ s.length = i ∧ Stp [] w F wr) := HS.out
    by_cases hlt : i < 4096
    · have hltz : (i : Int) < 4096 := by omega
      obtain ⟨k, hk⟩ : ∃ k : Nat, k = i % 7 := ⟨_, rfl⟩
      have hk7 : k < 7 := by omega
      obtain ⟨u, hu⟩ := conv7 k hk7
      have er : (i : Int).tmod 7 = (k : Int) := by rw [Int.tmod_eq_emod_of_nonneg (by omega)]; omega
      have K := Lib.hid (qpush_run HS.out.1 (by have := HS.out.2.1; omega) u (i : Int) (by omega) (mkE u (i : Int) i) (mkE_all (by omega)))
      clear hk
      go_wp2_with fail
      refine K.out.mono ?_
      rintro _ w2 ⟨rfl, F2, q2, s2⟩
      have H2 : Aside (∃ F s, Qs w2 F b s (i + 1) ∧ s.length = i + 1 ∧ Stp [] w F w2) := ⟨F2, _, q2, by rw [ins_length, HS.out.2.1], HS.out.2.2.trans s2⟩
      clear K q2 s2
      go_wp2
      go_roundg (4096 - (i + 1))
      case measure => omega
      case rel => exact ⟨i + 1, by go_num, by omega, by omega, H2⟩
    · have hltz : ¬ (i : Int) < 4096 := by omega
      obtain rfl : i = 4096 := by omega
      have K1 := Lib.hid (qpush_full HS.out.1 (by have := HS.out.2.1; omega) m.v 1)
      have K2 := Lib.hid (qlen_run HS.out.1)
      rw [HS.out.2.1] at K2
      go_wp2_with fail
      refine K1.out.mono ?_
      rintro _ _ ⟨rfl, rfl⟩
      clear K1
      go_wp2_with fail
      refine K2.out.mono ?_
      rintro _ _ ⟨rfl, rfl⟩
      clear K2
      go_wp2
      go_loopg [44] n (fun gk vi wr => ∃ j : Nat, vi = .int .i64 (j : Int) ∧ j ≤ n ∧ n - j ≤ gk ∧ Aside (∃ s, Qs wr F b s 4096 ∧ s.length = 4096 - j ∧ Stp [] w F wr))
      case atStart => exact ⟨0, rfl, by omega, by omega, s, HS.out.1, HS.out.2.1, HS.out.2.2⟩
      case round =>
        clear HS
        obtain ⟨j, rfl, hj, hgj, HS⟩ := hrel
        obtain ⟨s, HS⟩ : ∃ s, Aside (Qs wr F b s 4096 ∧ s.length = 4096 - j ∧ Stp [] w F wr) := HS.out
        by_cases hlt : j < n
        · have hltz : (j : Int) < (n : Int) := by omega
          cases s with
          | nil => exfalso; have := HS.out.2.1; simp at this; omega
          | cons x s =>
            have hsl : s.length + 1 = 4096 - j := HS.out.2.1
            have K := Lib.hid (qpop_run HS.out.1 (by omega))
            go_wp2_with fail
            refine K.out.mono ?_
            rintro _ w2 ⟨rfl, q2, s2⟩
            have H2 : Aside (∃ s, Qs w2 F b s 4096 ∧ s.length = 4096 - (j + 1) ∧ Stp [] w F w2) := ⟨s, q2, by omega, HS.out.2.2.trans s2⟩
            clear K q2 s2
            go_wp2
            go_roundg (n - (j + 1))
            case measure => omega
            case rel => exact ⟨j + 1, by go_num, by omega, by omega, H2⟩
        · have hltz : ¬ (j : Int) < (n : Int) := by omega
          obtain rfl : j = n := by omega
          go_wp2
          go_loopg [56] j (fun gk vi wr => ∃ k : Nat, vi = .int .i64 (k : Int) ∧ k ≤ j ∧ j - k ≤ gk ∧ Aside (∃ F s, Qs wr F b s (4096 + k) ∧ s.length = 4096 - j + k ∧ Stp [] w F wr))
          case atStart => exact ⟨0, rfl, by omega, by omega, F, s, HS.out.1, HS.out.2.1, HS.out.2.2⟩
          case round =>
            clear HS
            obtain ⟨k, rfl, hk, hgk, HS⟩ := hrel
            obtain ⟨F', s', HS⟩ : ∃ F s, Aside (Qs wr F b s (4096 + k) ∧ s.length = 4096 - j + k ∧ Stp [] w F wr) := HS.out
            by_cases hlt : k < j
            · have hltz : (k : Int) < (j : Int) := by omega
              have K := Lib.hid (qpush_run HS.out.1 (by have := HS.out.2.1; omega) m 1 (by omega) (mkE m 1 (4096 + k)) (mkE_all (by omega)))
              go_wp2_with fail
              refine K.out.mono ?_
              rintro _ w2 ⟨rfl, F2, q2, s2⟩
              have H2 : Aside (∃ F s, Qs w2 F b s (4096 + (k + 1)) ∧ s.length = 4096 - j + (k + 1) ∧ Stp [] w F w2) := ⟨F2, _, q2, by rw [ins_length, HS.out.2.1]; omega, HS.out.2.2.trans s2⟩
              clear K q2 s2
              go_wp2
              go_roundg (j - (k + 1))
              case measure => omega
              case rel => exact ⟨k + 1, by go_num, by omega, by omega, H2⟩
            · have hltz : ¬ (k : Int) < (j : Int) := by omega
              have K := Lib.hid (qpush_full HS.out.1 (by have := HS.out.2.1; omega) m.v 1)
              go_wp2_with fail
              refine K.out.mono ?_
              rintro _ _ ⟨rfl, rfl⟩
              clear K
              go_wp2
              go_ret
              exact ⟨rfl, HS.out.2.2.under⟩
end Go.Proofs.Ytjjaaahoophgpaa
