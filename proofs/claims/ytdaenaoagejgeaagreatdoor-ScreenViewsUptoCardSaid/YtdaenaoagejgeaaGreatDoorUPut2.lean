/-
  utf.Put and utf.Printable, and the document's own ones, at every number.
-/
import Derived.Test.YtdaenaoagejgeaaGreatDoorUPut
namespace Go.Proofs.YtdaenaoagejgeaaGreatDoor.U
open Go.RowKit Go.Lib
set_option linter.unusedVariables false

/-- May it be shown? -/
def prB (c : Int) : Bool := decide ((0 ≤ c ∧ c ≤ 1114111 ∧ ¬ (55296 ≤ c ∧ c ≤ 57343)) ∧ 32 ≤ c ∧ ¬ (127 ≤ c ∧ c ≤ 159))

set_option maxHeartbeats 1000000 in
set_option maxRecDepth 100000 in
theorem isc_any (c : Int) (w : World) : Calls Tryz.prog 21 #[.int .i64 c] w fun e w' => e = .returned (.bool (isCh c)) ∧ w' = w := by
  by_cases h0 : 0 ≤ c
  · by_cases h1 : c ≤ 1114111
    · by_cases h2 : c < 55296
      · have i2 : ¬ 55296 ≤ c := by omega
        have e : isCh c = true := by simp [isCh]; omega
        rw [e]
        clear e
        go_enter Tryz.func21, Tryz.ntmps21
        go_wp2
        go_ret
        first | exact ⟨rfl, rfl⟩ | exact ⟨by simp <;> omega, rfl⟩
      · have i2 : 55296 ≤ c := by omega
        by_cases h3 : 57343 < c
        · have i3 : ¬ c ≤ 57343 := by omega
          have e : isCh c = true := by simp [isCh]; omega
          rw [e]
          clear e
          go_enter Tryz.func21, Tryz.ntmps21
          go_wp2
          go_ret
          first | exact ⟨rfl, rfl⟩ | exact ⟨by simp <;> omega, rfl⟩
        · have i3 : c ≤ 57343 := by omega
          have e : isCh c = false := by simp [isCh]; omega
          rw [e]
          clear e
          go_enter Tryz.func21, Tryz.ntmps21
          go_wp2
          go_ret
          first | exact ⟨rfl, rfl⟩ | exact ⟨by simp <;> omega, rfl⟩
    · have e : isCh c = false := by simp [isCh]; omega
      rw [e]
      clear e
      go_enter Tryz.func21, Tryz.ntmps21
      go_wp2
      go_ret
      first | exact ⟨rfl, rfl⟩ | exact ⟨by simp <;> omega, rfl⟩
  · have e : isCh c = false := by simp [isCh]; omega
    rw [e]
    clear e
    go_enter Tryz.func21, Tryz.ntmps21
    go_wp2
    go_ret
    first | exact ⟨rfl, rfl⟩ | exact ⟨by simp <;> omega, rfl⟩


set_option maxHeartbeats 1000000 in
set_option maxRecDepth 100000 in
theorem pr_any (c : Int) (w : World) : Calls Tryz.prog 8 #[.int .i64 c] w fun e w' => e = .returned (.bool (prB c)) ∧ w' = w := by
  by_cases h0 : 0 ≤ c ∧ c ≤ 1114111 ∧ ¬ (55296 ≤ c ∧ c ≤ 57343)
  · by_cases h1 : 32 ≤ c
    · by_cases h2 : c < 127
      · have i2 : ¬ 127 ≤ c := by omega
        have e : prB c = true := by simp [prB]; omega
        rw [e]
        have cs := isc_any c
        rw [show isCh c = true from by simp [isCh]; omega] at cs
        have K := Lib.hid cs
        clear e cs
        go_enter Tryz.func8, Tryz.ntmps8
        go_wp2_with (go_at_call 21; refine (K.out _).mono ?_; rintro e w' ⟨rfl, hw⟩; obtain rfl : w = w' := hw.symm)
        go_ret
        first | exact ⟨rfl, rfl⟩ | exact ⟨by simp <;> omega, rfl⟩
      · have i2 : 127 ≤ c := by omega
        by_cases h3 : 159 < c
        · have i3 : ¬ c ≤ 159 := by omega
          have e : prB c = true := by simp [prB]; omega
          rw [e]
          have cs := isc_any c
          rw [show isCh c = true from by simp [isCh]; omega] at cs
          have K := Lib.hid cs
          clear e cs
          go_enter Tryz.func8, Tryz.ntmps8
          go_wp2_with (go_at_call 21; refine (K.out _).mono ?_; rintro e w' ⟨rfl, hw⟩; obtain rfl : w = w' := hw.symm)
          go_ret
          first | exact ⟨rfl, rfl⟩ | exact ⟨by simp <;> omega, rfl⟩
        · have i3 : c ≤ 159 := by omega
          have e : prB c = false := by simp [prB]; omega
          rw [e]
          have cs := isc_any c
          rw [show isCh c = true from by simp [isCh]; omega] at cs
          have K := Lib.hid cs
          clear e cs
          go_enter Tryz.func8, Tryz.ntmps8
          go_wp2_with (go_at_call 21; refine (K.out _).mono ?_; rintro e w' ⟨rfl, hw⟩; obtain rfl : w = w' := hw.symm)
          go_ret
          first | exact ⟨rfl, rfl⟩ | exact ⟨by simp <;> omega, rfl⟩
    · have e : prB c = false := by simp [prB]; omega
      rw [e]
      have cs := isc_any c
      rw [show isCh c = true from by simp [isCh]; omega] at cs
      have K := Lib.hid cs
      clear e cs
      go_enter Tryz.func8, Tryz.ntmps8
      go_wp2_with (go_at_call 21; refine (K.out _).mono ?_; rintro e w' ⟨rfl, hw⟩; obtain rfl : w = w' := hw.symm)
      go_ret
      first | exact ⟨rfl, rfl⟩ | exact ⟨by simp <;> omega, rfl⟩
  · have e : prB c = false := by simp [prB]; omega
    rw [e]
    have cs := isc_any c
    rw [show isCh c = false from by simp [isCh]; omega] at cs
    have K := Lib.hid cs
    clear e cs
    go_enter Tryz.func8, Tryz.ntmps8
    go_wp2_with (go_at_call 21; refine (K.out _).mono ?_; rintro e w' ⟨rfl, hw⟩; obtain rfl : w = w' := hw.symm)
    go_ret
    first | exact ⟨rfl, rfl⟩ | exact ⟨by simp <;> omega, rfl⟩


end Go.Proofs.YtdaenaoagejgeaaGreatDoor.U
