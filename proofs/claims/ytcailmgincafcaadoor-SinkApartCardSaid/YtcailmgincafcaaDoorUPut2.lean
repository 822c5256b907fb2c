/-
  utf.Put and utf.Printable, and the document's own ones, at every number.
-/
import Derived.Test.YtcailmgincafcaaDoorUPut
namespace Go.Proofs.YtcailmgincafcaaDoor.U
open Go.RowKit Go.Lib
set_option linter.unusedVariables false

/-- May it be shown? -/
def prB (c : Int) : Bool := decide ((0 ≤ c ∧ c ≤ 1114111 ∧ ¬ (55296 ≤ c ∧ c ≤ 57343)) ∧ 32 ≤ c ∧ ¬ (127 ≤ c ∧ c ≤ 159))

set_option maxHeartbeats 1000000 in
set_option maxRecDepth 100000 in
theorem isc_any (c : Int) (w : World) : Calls Tryd.prog 37 #[.int .i64 c] w fun e w' => e = .returned (.bool (isCh c)) ∧ w' = w := by
  by_cases h0 : 0 ≤ c
  · by_cases h1 : c ≤ 1114111
    · by_cases h2 : c < 55296
      · have i2 : ¬ 55296 ≤ c := by omega
        have e : isCh c = true := by simp [isCh]; omega
        rw [e]
        clear e
        go_enter Tryd.func37, Tryd.ntmps37
        go_wp2
        go_ret
        first | exact ⟨rfl, rfl⟩ | exact ⟨by simp <;> omega, rfl⟩
      · have i2 : 55296 ≤ c := by omega
        by_cases h3 : 57343 < c
        · have i3 : ¬ c ≤ 57343 := by omega
          have e : isCh c = true := by simp [isCh]; omega
          rw [e]
          clear e
          go_enter Tryd.func37, Tryd.ntmps37
          go_wp2
          go_ret
          first | exact ⟨rfl, rfl⟩ | exact ⟨by simp <;> omega, rfl⟩
        · have i3 : c ≤ 57343 := by omega
          have e : isCh c = false := by simp [isCh]; omega
          rw [e]
          clear e
          go_enter Tryd.func37, Tryd.ntmps37
          go_wp2
          go_ret
          first | exact ⟨rfl, rfl⟩ | exact ⟨by simp <;> omega, rfl⟩
    · have e : isCh c = false := by simp [isCh]; omega
      rw [e]
      clear e
      go_enter Tryd.func37, Tryd.ntmps37
      go_wp2
      go_ret
      first | exact ⟨rfl, rfl⟩ | exact ⟨by simp <;> omega, rfl⟩
  · have e : isCh c = false := by simp [isCh]; omega
    rw [e]
    clear e
    go_enter Tryd.func37, Tryd.ntmps37
    go_wp2
    go_ret
    first | exact ⟨rfl, rfl⟩ | exact ⟨by simp <;> omega, rfl⟩

set_option maxHeartbeats 1000000 in
set_option maxRecDepth 100000 in
theorem fine_any (c : Int) (w : World) : Calls Tryd.prog 31 #[.int .i64 c] w fun e w' => e = .returned (.bool (isCh c)) ∧ w' = w := by
  by_cases h0 : 0 ≤ c
  · by_cases h1 : c ≤ 1114111
    · by_cases h2 : c < 55296
      · have i2 : ¬ 55296 ≤ c := by omega
        have e : isCh c = true := by simp [isCh]; omega
        rw [e]
        clear e
        go_enter Tryd.func31, Tryd.ntmps31
        go_wp2
        go_ret
        first | exact ⟨rfl, rfl⟩ | exact ⟨by simp <;> omega, rfl⟩
      · have i2 : 55296 ≤ c := by omega
        by_cases h3 : 57343 < c
        · have i3 : ¬ c ≤ 57343 := by omega
          have e : isCh c = true := by simp [isCh]; omega
          rw [e]
          clear e
          go_enter Tryd.func31, Tryd.ntmps31
          go_wp2
          go_ret
          first | exact ⟨rfl, rfl⟩ | exact ⟨by simp <;> omega, rfl⟩
        · have i3 : c ≤ 57343 := by omega
          have e : isCh c = false := by simp [isCh]; omega
          rw [e]
          clear e
          go_enter Tryd.func31, Tryd.ntmps31
          go_wp2
          go_ret
          first | exact ⟨rfl, rfl⟩ | exact ⟨by simp <;> omega, rfl⟩
    · have e : isCh c = false := by simp [isCh]; omega
      rw [e]
      clear e
      go_enter Tryd.func31, Tryd.ntmps31
      go_wp2
      go_ret
      first | exact ⟨rfl, rfl⟩ | exact ⟨by simp <;> omega, rfl⟩
  · have e : isCh c = false := by simp [isCh]; omega
    rw [e]
    clear e
    go_enter Tryd.func31, Tryd.ntmps31
    go_wp2
    go_ret
    first | exact ⟨rfl, rfl⟩ | exact ⟨by simp <;> omega, rfl⟩

set_option maxHeartbeats 1000000 in
set_option maxRecDepth 100000 in
theorem pr_any (c : Int) (w : World) : Calls Tryd.prog 33 #[.int .i64 c] w fun e w' => e = .returned (.bool (prB c)) ∧ w' = w := by
  by_cases h0 : 0 ≤ c ∧ c ≤ 1114111 ∧ ¬ (55296 ≤ c ∧ c ≤ 57343)
  · by_cases h1 : 32 ≤ c
    · by_cases h2 : c < 127
      · have i2 : ¬ 127 ≤ c := by omega
        have e : prB c = true := by simp [prB]; omega
        rw [e]
        have cs := isc_any c
        rw [show isCh c = true from by simp [isCh]; omega] at cs
        have K := Lib.hid cs
        clear e cs
        go_enter Tryd.func33, Tryd.ntmps33
        go_wp2_with (go_at_call 37; refine (K.out _).mono ?_; rintro e w' ⟨rfl, hw⟩; obtain rfl : w = w' := hw.symm)
        go_ret
        first | exact ⟨rfl, rfl⟩ | exact ⟨by simp <;> omega, rfl⟩
      · have i2 : 127 ≤ c := by omega
        by_cases h3 : 159 < c
        · have i3 : ¬ c ≤ 159 := by omega
          have e : prB c = true := by simp [prB]; omega
          rw [e]
          have cs := isc_any c
          rw [show isCh c = true from by simp [isCh]; omega] at cs
          have K := Lib.hid cs
          clear e cs
          go_enter Tryd.func33, Tryd.ntmps33
          go_wp2_with (go_at_call 37; refine (K.out _).mono ?_; rintro e w' ⟨rfl, hw⟩; obtain rfl : w = w' := hw.symm)
          go_ret
          first | exact ⟨rfl, rfl⟩ | exact ⟨by simp <;> omega, rfl⟩
        · have i3 : c ≤ 159 := by omega
          have e : prB c = false := by simp [prB]; omega
          rw [e]
          have cs := isc_any c
          rw [show isCh c = true from by simp [isCh]; omega] at cs
          have K := Lib.hid cs
          clear e cs
          go_enter Tryd.func33, Tryd.ntmps33
          go_wp2_with (go_at_call 37; refine (K.out _).mono ?_; rintro e w' ⟨rfl, hw⟩; obtain rfl : w = w' := hw.symm)
          go_ret
          first | exact ⟨rfl, rfl⟩ | exact ⟨by simp <;> omega, rfl⟩
    · have e : prB c = false := by simp [prB]; omega
      rw [e]
      have cs := isc_any c
      rw [show isCh c = true from by simp [isCh]; omega] at cs
      have K := Lib.hid cs
      clear e cs
      go_enter Tryd.func33, Tryd.ntmps33
      go_wp2_with (go_at_call 37; refine (K.out _).mono ?_; rintro e w' ⟨rfl, hw⟩; obtain rfl : w = w' := hw.symm)
      go_ret
      first | exact ⟨rfl, rfl⟩ | exact ⟨by simp <;> omega, rfl⟩
  · have e : prB c = false := by simp [prB]; omega
    rw [e]
    have cs := isc_any c
    rw [show isCh c = false from by simp [isCh]; omega] at cs
    have K := Lib.hid cs
    clear e cs
    go_enter Tryd.func33, Tryd.ntmps33
    go_wp2_with (go_at_call 37; refine (K.out _).mono ?_; rintro e w' ⟨rfl, hw⟩; obtain rfl : w = w' := hw.symm)
    go_ret
    first | exact ⟨rfl, rfl⟩ | exact ⟨by simp <;> omega, rfl⟩

set_option maxHeartbeats 1000000 in
set_option maxRecDepth 100000 in
theorem rpr_any (c : Int) (w : World) : Calls Tryd.prog 26 #[.int .i64 c] w fun e w' => e = .returned (.bool (prB c)) ∧ w' = w := by
  by_cases h0 : 0 ≤ c ∧ c ≤ 1114111 ∧ ¬ (55296 ≤ c ∧ c ≤ 57343)
  · by_cases h1 : 32 ≤ c
    · by_cases h2 : c < 127
      · have i2 : ¬ 127 ≤ c := by omega
        have e : prB c = true := by simp [prB]; omega
        rw [e]
        have cs := fine_any c
        rw [show isCh c = true from by simp [isCh]; omega] at cs
        have K := Lib.hid cs
        clear e cs
        go_enter Tryd.func26, Tryd.ntmps26
        go_wp2_with (go_at_call 31; refine (K.out _).mono ?_; rintro e w' ⟨rfl, hw⟩; obtain rfl : w = w' := hw.symm)
        go_ret
        first | exact ⟨rfl, rfl⟩ | exact ⟨by simp <;> omega, rfl⟩
      · have i2 : 127 ≤ c := by omega
        by_cases h3 : 159 < c
        · have i3 : ¬ c ≤ 159 := by omega
          have e : prB c = true := by simp [prB]; omega
          rw [e]
          have cs := fine_any c
          rw [show isCh c = true from by simp [isCh]; omega] at cs
          have K := Lib.hid cs
          clear e cs
          go_enter Tryd.func26, Tryd.ntmps26
          go_wp2_with (go_at_call 31; refine (K.out _).mono ?_; rintro e w' ⟨rfl, hw⟩; obtain rfl : w = w' := hw.symm)
          go_ret
          first | exact ⟨rfl, rfl⟩ | exact ⟨by simp <;> omega, rfl⟩
        · have i3 : c ≤ 159 := by omega
          have e : prB c = false := by simp [prB]; omega
          rw [e]
          have cs := fine_any c
          rw [show isCh c = true from by simp [isCh]; omega] at cs
          have K := Lib.hid cs
          clear e cs
          go_enter Tryd.func26, Tryd.ntmps26
          go_wp2_with (go_at_call 31; refine (K.out _).mono ?_; rintro e w' ⟨rfl, hw⟩; obtain rfl : w = w' := hw.symm)
          go_ret
          first | exact ⟨rfl, rfl⟩ | exact ⟨by simp <;> omega, rfl⟩
    · have e : prB c = false := by simp [prB]; omega
      rw [e]
      have cs := fine_any c
      rw [show isCh c = true from by simp [isCh]; omega] at cs
      have K := Lib.hid cs
      clear e cs
      go_enter Tryd.func26, Tryd.ntmps26
      go_wp2_with (go_at_call 31; refine (K.out _).mono ?_; rintro e w' ⟨rfl, hw⟩; obtain rfl : w = w' := hw.symm)
      go_ret
      first | exact ⟨rfl, rfl⟩ | exact ⟨by simp <;> omega, rfl⟩
  · have e : prB c = false := by simp [prB]; omega
    rw [e]
    have cs := fine_any c
    rw [show isCh c = false from by simp [isCh]; omega] at cs
    have K := Lib.hid cs
    clear e cs
    go_enter Tryd.func26, Tryd.ntmps26
    go_wp2_with (go_at_call 31; refine (K.out _).mono ?_; rintro e w' ⟨rfl, hw⟩; obtain rfl : w = w' := hw.symm)
    go_ret
    first | exact ⟨rfl, rfl⟩ | exact ⟨by simp <;> omega, rfl⟩

/-- What Put comes to: a character's bytes in new memory. -/
def Puts (c : Nat) (w : World) (e : Ending) (w' : World) : Prop := ∃ v, e = .returned (.tuple #[v, .int .i64 0]) ∧ Own w' w.heap.size v (enc c) ∧ Below w.heap.size w w'

/-- A new block of bytes is a row of the call's own. -/
theorem lit_own (w : World) (l : List Nat) (n : Nat) (hn : n = l.length) (cs : Array Value) (hcs : cs.toList = l.map bval) (hm : n ≤ maxLen) : Own (w.alloc (.cells cs 5)) w.heap.size (.slice (some ⟨w.heap.size, 0, none⟩) n n) l := by
  subst hn
  have hl : cs.size = l.length := by rw [← Array.length_toList, hcs]; simp
  exact ⟨by simp, .inr ⟨w.heap.size, l.length, cs, rfl, Nat.le_refl _, heap_alloc_new w _, Nat.le_refl _, hm, by omega, by rw [hcs, Nat.mul_one, List.take_of_length_le (by simp)]⟩⟩

def RPuts (c : Nat) (w : World) (e : Ending) (w' : World) : Prop := ∃ v, e = .returned v ∧ Own w' w.heap.size v (enc c) ∧ Below w.heap.size w w'

end Go.Proofs.YtcailmgincafcaaDoor.U
