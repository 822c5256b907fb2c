/-
  The document's numbers: may they be, how many stars, how many ahead of the place.
-/
import Derived.Test.YtjenbhaaahpliaaDoorSt
namespace Go.Proofs.YtjenbhaaahpliaaDoor
open Go.RowKit Go.Lib
set_option linter.unusedVariables false

set_option maxRecDepth 100000 in
theorem rok_run (m c a : Int) (w : World) : Calls Tryd.prog 24 #[.int .i64 m, .int .i64 c, .int .i64 a] w (Gives (.bool (mok m && rng c a)) w) := by
  by_cases g0 : 0 ≤ m
  · skip
    by_cases g1 : m ≤ 2
    · skip
      by_cases g2 : 0 ≤ a
      · skip
        by_cases g3 : a ≤ c
        · skip
          by_cases g4 : c ≤ 1024
          · skip
            have e : (mok m && rng c a) = true := by simp [mok, rng, g0, g1, g2, g3, g4]
            rw [e]
            clear e
            go_enter Tryd.func24, Tryd.ntmps24
            go_wp2
            go_ret
            first | exact ⟨rfl, rfl⟩ | exact ⟨by simp <;> omega, rfl⟩
          · have e : (mok m && rng c a) = false := by simp [mok, rng]; omega
            rw [e]
            clear e
            go_enter Tryd.func24, Tryd.ntmps24
            go_wp2
            go_ret
            first | exact ⟨rfl, rfl⟩ | exact ⟨by simp <;> omega, rfl⟩
        · have e : (mok m && rng c a) = false := by simp [mok, rng]; omega
          rw [e]
          clear e
          go_enter Tryd.func24, Tryd.ntmps24
          go_wp2
          go_ret
          first | exact ⟨rfl, rfl⟩ | exact ⟨by simp <;> omega, rfl⟩
      · have e : (mok m && rng c a) = false := by simp [mok, rng]; omega
        rw [e]
        clear e
        go_enter Tryd.func24, Tryd.ntmps24
        go_wp2
        go_ret
        first | exact ⟨rfl, rfl⟩ | exact ⟨by simp <;> omega, rfl⟩
    · have e : (mok m && rng c a) = false := by simp [mok, rng]; omega
      rw [e]
      clear e
      go_enter Tryd.func24, Tryd.ntmps24
      go_wp2
      go_ret
      first | exact ⟨rfl, rfl⟩ | exact ⟨by simp <;> omega, rfl⟩
  · have e : (mok m && rng c a) = false := by simp [mok, rng]; omega
    rw [e]
    clear e
    go_enter Tryd.func24, Tryd.ntmps24
    go_wp2
    go_ret
    first | exact ⟨rfl, rfl⟩ | exact ⟨by simp <;> omega, rfl⟩
set_option maxRecDepth 100000 in
theorem rstars_run (m c : Int) (w : World) : Calls Tryd.prog 14 #[.int .i64 m, .int .i64 c] w (Gives (.int .i64 (stN m c)) w) := by
  have KF := Lib.hid (rok_run m c 0 w)
  cases hk : (mok m && rng c 0) with
  | false =>
    have e : stN m c = 0 := by unfold stN; rw [hk]; rfl
    rw [e]
    rw [hk] at KF
    clear e hk
    go_enter Tryd.func14, Tryd.ntmps14
    go_wp2_with fail
    refine KF.out.mono ?_
    rintro _ _ ⟨rfl, rfl⟩
    go_wp2
    go_ret
    first | exact ⟨rfl, rfl⟩ | exact ⟨by simp <;> omega, rfl⟩
  | true =>
    have hb := Bool.and_eq_true _ _ ▸ hk
    have h1 := of_decide_eq_true hb.1
    have h2 := of_decide_eq_true hb.2
    have e : stN m c = (if m = 0 then 0 else if m = 1 then c else if 0 < c then 8 else 0) := by unfold stN; rw [hk]; rfl
    rw [e]
    rw [hk] at KF
    clear e hk hb
    rcases (by omega : m = 0 ∨ m = 1 ∨ m = 2) with rfl | rfl | rfl
    · rw [if_pos rfl]
      go_enter Tryd.func14, Tryd.ntmps14
      go_wp2_with fail
      refine KF.out.mono ?_
      rintro _ _ ⟨rfl, rfl⟩
      go_wp2
      go_ret
      first | exact ⟨rfl, rfl⟩ | exact ⟨by simp <;> omega, rfl⟩
    · rw [if_neg (by omega), if_pos rfl]
      by_cases h0 : c = 0
      · subst h0
        go_enter Tryd.func14, Tryd.ntmps14
        go_wp2_with fail
        refine KF.out.mono ?_
        rintro _ _ ⟨rfl, rfl⟩
        go_wp2
        go_ret
        first | exact ⟨rfl, rfl⟩ | exact ⟨by simp <;> omega, rfl⟩
      · have hc0 : ((c : Int) == 0) = false := beq_eq_false_iff_ne.2 h0
        go_enter Tryd.func14, Tryd.ntmps14
        go_wp2_with fail
        refine KF.out.mono ?_
        rintro _ _ ⟨rfl, rfl⟩
        go_wp2
        go_ret
        first | exact ⟨rfl, rfl⟩ | exact ⟨by simp <;> omega, rfl⟩
    · rw [if_neg (by omega), if_neg (by omega)]
      by_cases h0 : c = 0
      · subst h0
        go_enter Tryd.func14, Tryd.ntmps14
        go_wp2_with fail
        refine KF.out.mono ?_
        rintro _ _ ⟨rfl, rfl⟩
        go_wp2
        go_ret
        first | exact ⟨rfl, rfl⟩ | exact ⟨by simp <;> omega, rfl⟩
      · have hc0 : ((c : Int) == 0) = false := beq_eq_false_iff_ne.2 h0
        rw [if_pos (by omega)]
        go_enter Tryd.func14, Tryd.ntmps14
        go_wp2_with fail
        refine KF.out.mono ?_
        rintro _ _ ⟨rfl, rfl⟩
        go_wp2
        go_ret
        first | exact ⟨rfl, rfl⟩ | exact ⟨by simp <;> omega, rfl⟩
set_option maxRecDepth 100000 in
theorem rplace_run (m c a : Int) (w : World) : Calls Tryd.prog 16 #[.int .i64 m, .int .i64 c, .int .i64 a] w (Gives (.int .i64 (plN m c a)) w) := by
  have KF := Lib.hid (rok_run m c a w)
  cases hk : (mok m && rng c a) with
  | false =>
    have e : plN m c a = 0 := by unfold plN; rw [hk]; rfl
    rw [e]
    rw [hk] at KF
    clear e hk
    go_enter Tryd.func16, Tryd.ntmps16
    go_wp2_with fail
    refine KF.out.mono ?_
    rintro _ _ ⟨rfl, rfl⟩
    go_wp2
    go_ret
    first | exact ⟨rfl, rfl⟩ | exact ⟨by simp <;> omega, rfl⟩
  | true =>
    have hb := Bool.and_eq_true _ _ ▸ hk
    have h1 := of_decide_eq_true hb.1
    have h2 := of_decide_eq_true hb.2
    have e : plN m c a = (if m = 0 then 0 else if m = 1 then a else if 0 < c then 8 else 0) := by unfold plN; rw [hk]; rfl
    rw [e]
    rw [hk] at KF
    clear e hk hb
    rcases (by omega : m = 0 ∨ m = 1 ∨ m = 2) with rfl | rfl | rfl
    · rw [if_pos rfl]
      go_enter Tryd.func16, Tryd.ntmps16
      go_wp2_with fail
      refine KF.out.mono ?_
      rintro _ _ ⟨rfl, rfl⟩
      go_wp2
      go_ret
      first | exact ⟨rfl, rfl⟩ | exact ⟨by simp <;> omega, rfl⟩
    · rw [if_neg (by omega), if_pos rfl]
      go_enter Tryd.func16, Tryd.ntmps16
      go_wp2_with fail
      refine KF.out.mono ?_
      rintro _ _ ⟨rfl, rfl⟩
      go_wp2
      go_ret
      first | exact ⟨rfl, rfl⟩ | exact ⟨by simp <;> omega, rfl⟩
    · rw [if_neg (by omega), if_neg (by omega)]
      have KS := Lib.hid (rstars_run 2 c w)
      have e2 : stN 2 c = if 0 < c then 8 else 0 := by
        have : rng c 0 = true := decide_eq_true (by omega)
        unfold stN
        rw [this]
        rfl
      rw [e2] at KS
      clear e2
      generalize (if 0 < c then (8 : Int) else 0) = z at *
      go_enter Tryd.func16, Tryd.ntmps16
      go_wp2_with fail
      refine KF.out.mono ?_
      rintro _ _ ⟨rfl, rfl⟩
      go_wp2_with fail
      refine KS.out.mono ?_
      rintro _ _ ⟨rfl, rfl⟩
      go_wp2
      go_ret
      first | exact ⟨rfl, rfl⟩ | exact ⟨by simp <;> omega, rfl⟩
end Go.Proofs.YtjenbhaaahpliaaDoor
