/-
  keys.check, keys.gather.
-/
import Derived.Test.YtngbpkbojjipgaaDoorStr
namespace Go.Proofs.YtngbpkbojjipgaaDoor
open Go.RowKit Go.Lib
set_option linter.unusedVariables false

theorem pr_run (c : Int) (w : World) : Calls Tryd.prog 21 #[.int .i64 c] w (Gives (.bool (shown c)) w) := U.pr_any c w

set_option maxHeartbeats 1000000 in
set_option maxRecDepth 100000 in
theorem check_run (k c : Int) (w : World) : Calls Tryd.prog 22 #[kv k c] w (Tells (.int .i64 (chk k c : Int)) w) := by
  have K := Lib.hid (fun W => pr_run c W)
  unfold kv
  by_cases h1 : k < 0
  · have e : chk k c = 9 := by unfold chk; rw [if_pos (.inl h1)]
    rw [e]
    clear e
    go_enter Tryd.func22, Tryd.ntmps22
    go_wp2
    go_ret
    exact ⟨rfl, Stp.alloc _ _ _⟩
  by_cases h2 : 16 ≤ k
  · have e : chk k c = 9 := by unfold chk; rw [if_pos (.inr (by omega))]
    rw [e]
    clear e
    go_enter Tryd.func22, Tryd.ntmps22
    go_wp2
    go_ret
    exact ⟨rfl, Stp.alloc _ _ _⟩
  by_cases h3 : k = 0
  · subst h3
    cases hs : shown c with
    | true =>
      have e : chk 0 c = 0 := chk_rune hs
      rw [e]
      rw [hs] at K
      clear e h1 h2 hs
      go_enter Tryd.func22, Tryd.ntmps22
      go_wp2_with (go_at_call 21; refine (K.out _).mono ?_; rintro _ w1 ⟨rfl, rfl⟩)
      go_ret
      exact ⟨rfl, Stp.alloc _ _ _⟩
    | false =>
      have e : chk 0 c = 2 := by unfold chk; rw [if_neg (by omega), if_pos (.inl ⟨rfl, hs⟩)]
      rw [e]
      rw [hs] at K
      clear e h1 h2 hs
      go_enter Tryd.func22, Tryd.ntmps22
      go_wp2_with (go_at_call 21; refine (K.out _).mono ?_; rintro _ w1 ⟨rfl, rfl⟩)
      go_ret
      exact ⟨rfl, Stp.alloc _ _ _⟩
  · by_cases h4 : c = 0
    · subst h4
      have e : chk k 0 = 0 := by unfold chk; rw [if_neg (by omega), if_neg (by omega)]
      rw [e]
      clear e
      have hk : (k == 0) = false := beq_eq_false_iff_ne.2 h3
      have hk2 : (k != 0) = true := by simp [bne, hk]
      go_enter Tryd.func22, Tryd.ntmps22
      go_wp2
      go_ret
      exact ⟨rfl, Stp.alloc _ _ _⟩
    · have e : chk k c = 2 := by unfold chk; rw [if_neg (by omega), if_pos (.inr ⟨h3, h4⟩)]
      rw [e]
      clear e
      have hk : (k == 0) = false := beq_eq_false_iff_ne.2 h3
      have hk2 : (k != 0) = true := by simp [bne, hk]
      have hc : (c == 0) = false := beq_eq_false_iff_ne.2 h4
      have hc2 : (c != 0) = true := by simp [bne, hc]
      go_enter Tryd.func22, Tryd.ntmps22
      go_wp2
      go_ret
      exact ⟨rfl, Stp.alloc _ _ _⟩


set_option maxHeartbeats 1000000 in
set_option maxRecDepth 100000 in
theorem gather_run (s : List UInt8) (hs : s.length ≤ 100000) (w : World) (hT : Tabs w) : Calls Tryd.prog 30 #[.string (st s)] w (Tells (.int .i64 (gth s)) w) := by
  have hsz := st_size s
  rcases ha : Lib.atoiAll s with v | _ | _
  · have HV : Aside (gth s = v) := by
      show gth s = v
      unfold gth
      rw [ha]
    have K := Lib.hid (Tryd.strconv_Atoi_ok (st s) (by omega) v (by rw [st_data]; exact ha) w)
    clear hT ha
    go_enter Tryd.func30, Tryd.ntmps30
    go_wp2_with fail
    refine K.out.mono ?_
    rintro _ w1 ⟨rfl, hw⟩
    have HS : Aside (Stp [] w [] w1) := by
      rcases hw with rfl | ⟨t, rfl⟩
      · exact Stp.refl _ _
      · exact Stp.of_below (Lib.bytesWorld_below _ _ _)
    clear hw K
    go_wp2
    go_ret
    exact ⟨by rw [HV.out]; rfl, HS.out⟩
  · have HV : Aside (gth s = 0) := by
      show gth s = 0
      unfold gth
      rw [ha]
    obtain ⟨t, p, h⟩ := hT.syn
    have K := Lib.hid (Any.strconv_Atoi_syntax Tryd.laysC172 (st s) (by omega) (by rw [st_data]; exact ha) _ w h (.inr ⟨t, p, rfl⟩))
    clear hT h ha
    go_enter Tryd.func30, Tryd.ntmps30
    go_wp2_with fail
    refine K.out.mono ?_
    rintro _ w1 ⟨N, rfl, h1, h2, h3⟩
    have HS : Aside (Stp [] w [] w1) := Stp.of_below h3
    clear h1 h2 h3 K
    go_wp2
    go_ret
    exact ⟨by rw [HV.out]; rfl, HS.out⟩
  · have HV : Aside (gth s = 0) := by
      show gth s = 0
      unfold gth
      rw [ha]
    obtain ⟨t, p, h⟩ := hT.rng
    have K := Lib.hid (Tryd.strconv_Atoi_range (st s) (by omega) (by rw [st_data]; exact ha) _ w h (.inr ⟨t, p, rfl⟩))
    clear hT h ha
    go_enter Tryd.func30, Tryd.ntmps30
    go_wp2_with fail
    refine K.out.mono ?_
    rintro _ w1 ⟨N, rfl, h1, h2, h3⟩
    have HS : Aside (Stp [] w [] w1) := Stp.of_below h3
    clear h1 h2 h3 K
    generalize Lib.atoiSat (st s).data.toList = z at *
    go_wp2
    go_ret
    exact ⟨by rw [HV.out]; rfl, HS.out⟩
end Go.Proofs.YtngbpkbojjipgaaDoor
