/-
  QueuePeeks returns true for every slice of words.
-/
import Derived.Test.YtjjaaahoophgpaaPushed
namespace Go.Proofs.Ytjjaaahoophgpaa
open Go.RowKit Go.Lib
set_option linter.unusedVariables false

theorem peeks_long (a : Option Addr) (cap n : Nat) (w : World) (hn : 300 < n) (hl : n ≤ 9223372036854775807) : Calls Try.prog 9 #[.slice a n cap] w (Truth w) := by
  have KN := Lib.hid (new_run w)
  have KA := Lib.hid alive_run
  have hx : (300 : Int) < (n : Int) := by omega
  go_enter Try.func9, Try.ntmps9
  go_wp2_with fail
  refine KN.out.mono ?_
  rintro _ w0 ⟨rfl, q0, s0⟩
  have H0 := Lib.hid s0
  clear KN q0 s0
  go_wp2_with fail
  refine (KA.out _).mono ?_
  rintro _ w1 ⟨rfl, s1⟩
  have H1 := Lib.hid (H0.out.none.trans s1)
  clear H0 s1
  go_wp2_with fail
  refine (KA.out _).mono ?_
  rintro _ w2 ⟨rfl, s2⟩
  have H2 := Lib.hid (H1.out.trans s2)
  clear H1 s2
  go_wp2
  go_ret
  exact ⟨rfl, H2.out.under⟩

set_option maxHeartbeats 2000000 in
set_option maxRecDepth 100000 in
theorem peeks_short (a : Option Addr) (cap n : Nat) (l : List Mo) (w : World) (hU : Us w a l) (hn : n = l.length) (hl : n ≤ 300) : Calls Try.prog 9 #[.slice a n cap] w (Truth w) := by
  have KN := Lib.hid (new_run w)
  have KA := Lib.hid alive_run
  have hx : ¬ (300 : Int) < (n : Int) := by omega
  have HU : Aside (Us w a l ∧ n = l.length) := ⟨hU, hn⟩
  clear hU hn
  go_enter Try.func9, Try.ntmps9
  go_wp2_with fail
  refine KN.out.mono ?_
  rintro _ w0 ⟨rfl, q0, s0⟩
  have H0 := Lib.hid (And.intro q0 s0)
  clear KN q0 s0
  generalize w.heap.size = b at *
  go_wp2_with fail
  refine (KA.out _).mono ?_
  rintro _ w1 ⟨rfl, s1⟩
  have H1 : Aside (Qs w1 [b] b [] 0 ∧ Stp [] w [b] w1) := ⟨H0.out.1.stays s1, H0.out.2.trans (s1.widen (fun k h => .inl h))⟩
  clear H0 s1 KA
  go_wp2
  go_loopg [34] n (fun gk vi wr => ∃ i : Nat, vi = .int .i64 (i : Int) ∧ i ≤ n ∧ n - i ≤ gk ∧ Aside (∃ F, Qs wr F b (pushed l i) i ∧ Stp [] w F wr))
  case atStart => exact ⟨0, rfl, by omega, by omega, [b], H1.out.1, H1.out.2⟩
  case round =>
    clear H1
    obtain ⟨i, rfl, hi, hg, HS⟩ := hrel
    obtain ⟨F, HS⟩ : ∃ F, Aside (Qs wr F b (pushed l i) i ∧ Stp [] w F wr) := HS.out
    by_cases hlt : i < n
    · have hltz : (i : Int) < (n : Int) := by omega
      obtain ⟨ab, off, rfl, hc⟩ := HU.out.1.cell HS.out.2 (i := i) (by have := HU.out.2; omega)
      have K := Lib.hid (qpush_run HS.out.1 (by rw [pushed_length]; omega) (l[i]!) (i : Int) (by omega) (mkE (l[i]!) (i : Int) i) (mkE_all (by omega)))
      generalize hm : l[i]! = m at *
      have HM : Aside (l[i]! = m) := hm
      clear hm
      have fm := from_run m.v
      go_wp2_with fail
      refine K.out.mono ?_
      rintro _ w2 ⟨rfl, F2, q2, s2⟩
      have H2 : Aside (Qs w2 F2 b (pushed l (i + 1)) (i + 1) ∧ Stp [] w F2 w2) := ⟨by unfold pushed; rw [HM.out]; exact q2, HS.out.2.trans s2⟩
      clear K q2 s2 hc
      go_wp2
      go_roundg (n - (i + 1))
      case measure => omega
      case rel => exact ⟨i + 1, by go_num, by omega, by omega, F2, H2.out⟩
    · have hltz : ¬ (i : Int) < (n : Int) := by omega
      obtain rfl : i = n := by omega
      go_wp2
      go_loopg [47] i (fun gk vi wr => ∃ j : Nat, vi = .int .i64 (j : Int) ∧ j ≤ i ∧ i - j ≤ gk ∧ Aside (Qs wr F b ((pushed l i).drop j) i ∧ Stp [] w F wr))
      case atStart => exact ⟨0, rfl, by omega, by omega, HS.out.1, HS.out.2⟩
      case round =>
        clear HS
        obtain ⟨j, rfl, hj, hgj, HS⟩ := hrel
        by_cases hlt : j < i
        · have hltz : (j : Int) < (i : Int) := by omega
          have hq := HS.out.1.next (by rw [pushed_length]; omega)
          have hrl : ((pushed l i).drop (j + 1)).length = i - (j + 1) := by rw [List.length_drop, pushed_length]
          have KP := Lib.hid (qpeek_run hq (by omega))
          generalize (pushed l i)[j]! = x at *
          have fx := bits_run x.m.v
          have e1 : IntKind.i64.wrap ((i : Int) - (j : Int)) = (i : Int) - (j : Int) := by rw [IntKind.wrap_i64]; omega
          clear hq
          go_wp2_with fail
          refine KP.out.mono ?_
          rintro _ w2 ⟨rfl, q2, s2⟩
          have KP2 := Lib.hid (qpeek_run q2 (by omega))
          have H2 := Lib.hid (HS.out.2.trans s2)
          clear KP q2 s2
          go_wp2_with fail
          refine KP2.out.mono ?_
          rintro _ w3 ⟨rfl, q3, s3⟩
          have KL := Lib.hid (qlen_run q3)
          have KO := Lib.hid (qpop_run q3 (by omega))
          have e2 : (((x :: (pushed l i).drop (j + 1)).length : Nat) : Int) = (i : Int) - (j : Int) := by rw [List.length_cons, hrl]; omega
          rw [e2] at KL
          have H3 := Lib.hid (H2.out.trans s3)
          clear KP2 q3 s3 H2
          go_wp2_with fail
          refine KL.out.mono ?_
          rintro _ _ ⟨rfl, rfl⟩
          clear KL
          go_wp2_with fail
          refine KO.out.mono ?_
          rintro _ w4 ⟨rfl, q4, s4⟩
          have H4 : Aside (Qs w4 F b ((pushed l i).drop (j + 1)) i ∧ Stp [] w F w4) := ⟨q4, H3.out.trans s4⟩
          clear KO q4 s4 H3
          go_wp2
          go_roundg (i - (j + 1))
          case measure => omega
          case rel => exact ⟨j + 1, by go_num, by omega, by omega, H4⟩
        · have hltz : ¬ (j : Int) < (i : Int) := by omega
          obtain rfl : j = i := by omega
          have hq : Qs wr F b [] j := by
            have := HS.out.1
            rwa [List.drop_of_length_le (by rw [pushed_length]; omega)] at this
          have KP := Lib.hid (qpeek_none hq)
          clear hq
          go_wp2_with fail
          refine KP.out.mono ?_
          rintro _ _ ⟨rfl, rfl⟩
          clear KP
          go_wp2
          go_ret
          exact ⟨rfl, HS.out.2.under⟩
theorem peeks_walk (a : Option Addr) (cap : Nat) (l : List Mo) (w : World) (hU : Us w a l) (hl : l.length ≤ 9223372036854775807) : Calls Try.prog 9 #[.slice a l.length cap] w (Truth w) := by
  by_cases h : 300 < l.length
  · exact peeks_long a cap l.length w h hl
  · exact peeks_short a cap l.length l w hU rfl (by omega)
end Go.Proofs.Ytjjaaahoophgpaa
