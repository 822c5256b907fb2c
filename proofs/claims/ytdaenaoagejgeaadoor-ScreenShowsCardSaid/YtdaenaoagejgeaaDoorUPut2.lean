/-
  utf.Put and utf.Printable, and the document's own ones, at every number.
-/
import Derived.Test.YtdaenaoagejgeaaDoorUPut
namespace Go.Proofs.YtdaenaoagejgeaaDoor.U
open Go.RowKit Go.Lib
set_option linter.unusedVariables false

/-- May it be shown? -/
def prB (c : Int) : Bool := decide ((0 ≤ c ∧ c ≤ 1114111 ∧ ¬ (55296 ≤ c ∧ c ≤ 57343)) ∧ 32 ≤ c ∧ ¬ (127 ≤ c ∧ c ≤ 159))

set_option maxHeartbeats 1000000 in
set_option maxRecDepth 100000 in
theorem isc_any (c : Int) (w : World) : Calls Tryd.prog 37 #[.int .i64 c] w fun e w' => e = .returned (.bool (isCh c)) ∧ w' = w := by
  by_cases h0 : 0 ≤ c
  · by_cases h1 : c ≤ 1114111
    · by_cases h2 : c < 55296
      · have i2 : ¬ 55296 ≤ c := by omega
        have e : isCh c = true := by simp [isCh]; omega
        rw [e]
        clear e
        go_enter Tryd.func37, Tryd.ntmps37
        go_wp2
        go_ret
        first | exact ⟨rfl, rfl⟩ | exact ⟨by simp <;> omega, rfl⟩
      · have i2 : 55296 ≤ c := by omega
        by_cases h3 : 57343 < c
        · have i3 : ¬ c ≤ 57343 := by omega
          have e : isCh c = true := by simp [isCh]; omega
          rw [e]
          clear e
          go_enter Tryd.func37, Tryd.ntmps37
          go_wp2
          go_ret
          first | exact ⟨rfl, rfl⟩ | exact ⟨by simp <;> omega, rfl⟩
        · have i3 : c ≤ 57343 := by omega
          have e : isCh c = false := by simp [isCh]; omega
          rw [e]
          clear e
          go_enter Tryd.func37, Tryd.ntmps37
          go_wp2
          go_ret
          first | exact ⟨rfl, rfl⟩ | exact ⟨by simp <;> omega, rfl⟩
    · have e : isCh c = false := by simp [isCh]; omega
      rw [e]
      clear e
      go_enter Tryd.func37, Tryd.ntmps37
      go_wp2
      go_ret
      first | exact ⟨rfl, rfl⟩ | exact ⟨by simp <;> omega, rfl⟩
  · have e : isCh c = false := by simp [isCh]; omega
    rw [e]
    clear e
    go_enter Tryd.func37, Tryd.ntmps37
    go_wp2
    go_ret
    first | exact ⟨rfl, rfl⟩ | exact ⟨by simp <;> omega, rfl⟩

set_option maxHeartbeats 1000000 in
set_option maxRecDepth 100000 in
theorem fine_any (c : Int) (w : World) : Calls Tryd.prog 47 #[.int .i64 c] w fun e w' => e = .returned (.bool (isCh c)) ∧ w' = w := by
  by_cases h0 : 0 ≤ c
  · by_cases h1 : c ≤ 1114111
    · by_cases h2 : c < 55296
      · have i2 : ¬ 55296 ≤ c := by omega
        have e : isCh c = true := by simp [isCh]; omega
        rw [e]
        clear e
        go_enter Tryd.func47, Tryd.ntmps47
        go_wp2
        go_ret
        first | exact ⟨rfl, rfl⟩ | exact ⟨by simp <;> omega, rfl⟩
      · have i2 : 55296 ≤ c := by omega
        by_cases h3 : 57343 < c
        · have i3 : ¬ c ≤ 57343 := by omega
          have e : isCh c = true := by simp [isCh]; omega
          rw [e]
          clear e
          go_enter Tryd.func47, Tryd.ntmps47
          go_wp2
          go_ret
          first | exact ⟨rfl, rfl⟩ | exact ⟨by simp <;> omega, rfl⟩
        · have i3 : c ≤ 57343 := by omega
          have e : isCh c = false := by simp [isCh]; omega
          rw [e]
          clear e
          go_enter Tryd.func47, Tryd.ntmps47
          go_wp2
          go_ret
          first | exact ⟨rfl, rfl⟩ | exact ⟨by simp <;> omega, rfl⟩
    · have e : isCh c = false := by simp [isCh]; omega
      rw [e]
      clear e
      go_enter Tryd.func47, Tryd.ntmps47
      go_wp2
      go_ret
      first | exact ⟨rfl, rfl⟩ | exact ⟨by simp <;> omega, rfl⟩
  · have e : isCh c = false := by simp [isCh]; omega
    rw [e]
    clear e
    go_enter Tryd.func47, Tryd.ntmps47
    go_wp2
    go_ret
    first | exact ⟨rfl, rfl⟩ | exact ⟨by simp <;> omega, rfl⟩

set_option maxHeartbeats 1000000 in
set_option maxRecDepth 100000 in
theorem pr_any (c : Int) (w : World) : Calls Tryd.prog 27 #[.int .i64 c] w fun e w' => e = .returned (.bool (prB c)) ∧ w' = w := by
  by_cases h0 : 0 ≤ c ∧ c ≤ 1114111 ∧ ¬ (55296 ≤ c ∧ c ≤ 57343)
  · by_cases h1 : 32 ≤ c
    · by_cases h2 : c < 127
      · have i2 : ¬ 127 ≤ c := by omega
        have e : prB c = true := by simp [prB]; omega
        rw [e]
        have cs := isc_any c
        rw [show isCh c = true from by simp [isCh]; omega] at cs
        have K := Lib.hid cs
        clear e cs
        go_enter Tryd.func27, Tryd.ntmps27
        go_wp2_with (go_at_call 37; refine (K.out _).mono ?_; rintro e w' ⟨rfl, hw⟩; obtain rfl : w = w' := hw.symm)
        go_ret
        first | exact ⟨rfl, rfl⟩ | exact ⟨by simp <;> omega, rfl⟩
      · have i2 : 127 ≤ c := by omega
        by_cases h3 : 159 < c
        · have i3 : ¬ c ≤ 159 := by omega
          have e : prB c = true := by simp [prB]; omega
          rw [e]
          have cs := isc_any c
          rw [show isCh c = true from by simp [isCh]; omega] at cs
          have K := Lib.hid cs
          clear e cs
          go_enter Tryd.func27, Tryd.ntmps27
          go_wp2_with (go_at_call 37; refine (K.out _).mono ?_; rintro e w' ⟨rfl, hw⟩; obtain rfl : w = w' := hw.symm)
          go_ret
          first | exact ⟨rfl, rfl⟩ | exact ⟨by simp <;> omega, rfl⟩
        · have i3 : c ≤ 159 := by omega
          have e : prB c = false := by simp [prB]; omega
          rw [e]
          have cs := isc_any c
          rw [show isCh c = true from by simp [isCh]; omega] at cs
          have K := Lib.hid cs
          clear e cs
          go_enter Tryd.func27, Tryd.ntmps27
          go_wp2_with (go_at_call 37; refine (K.out _).mono ?_; rintro e w' ⟨rfl, hw⟩; obtain rfl : w = w' := hw.symm)
          go_ret
          first | exact ⟨rfl, rfl⟩ | exact ⟨by simp <;> omega, rfl⟩
    · have e : prB c = false := by simp [prB]; omega
      rw [e]
      have cs := isc_any c
      rw [show isCh c = true from by simp [isCh]; omega] at cs
      have K := Lib.hid cs
      clear e cs
      go_enter Tryd.func27, Tryd.ntmps27
      go_wp2_with (go_at_call 37; refine (K.out _).mono ?_; rintro e w' ⟨rfl, hw⟩; obtain rfl : w = w' := hw.symm)
      go_ret
      first | exact ⟨rfl, rfl⟩ | exact ⟨by simp <;> omega, rfl⟩
  · have e : prB c = false := by simp [prB]; omega
    rw [e]
    have cs := isc_any c
    rw [show isCh c = false from by simp [isCh]; omega] at cs
    have K := Lib.hid cs
    clear e cs
    go_enter Tryd.func27, Tryd.ntmps27
    go_wp2_with (go_at_call 37; refine (K.out _).mono ?_; rintro e w' ⟨rfl, hw⟩; obtain rfl : w = w' := hw.symm)
    go_ret
    first | exact ⟨rfl, rfl⟩ | exact ⟨by simp <;> omega, rfl⟩

set_option maxHeartbeats 1000000 in
set_option maxRecDepth 100000 in
theorem rpr_any (c : Int) (w : World) : Calls Tryd.prog 34 #[.int .i64 c] w fun e w' => e = .returned (.bool (prB c)) ∧ w' = w := by
  by_cases h0 : 0 ≤ c ∧ c ≤ 1114111 ∧ ¬ (55296 ≤ c ∧ c ≤ 57343)
  · by_cases h1 : 32 ≤ c
    · by_cases h2 : c < 127
      · have i2 : ¬ 127 ≤ c := by omega
        have e : prB c = true := by simp [prB]; omega
        rw [e]
        have cs := fine_any c
        rw [show isCh c = true from by simp [isCh]; omega] at cs
        have K := Lib.hid cs
        clear e cs
        go_enter Tryd.func34, Tryd.ntmps34
        go_wp2_with (go_at_call 47; refine (K.out _).mono ?_; rintro e w' ⟨rfl, hw⟩; obtain rfl : w = w' := hw.symm)
        go_ret
        first | exact ⟨rfl, rfl⟩ | exact ⟨by simp <;> omega, rfl⟩
      · have i2 : 127 ≤ c := by omega
        by_cases h3 : 159 < c
        · have i3 : ¬ c ≤ 159 := by omega
          have e : prB c = true := by simp [prB]; omega
          rw [e]
          have cs := fine_any c
          rw [show isCh c = true from by simp [isCh]; omega] at cs
          have K := Lib.hid cs
          clear e cs
          go_enter Tryd.func34, Tryd.ntmps34
          go_wp2_with (go_at_call 47; refine (K.out _).mono ?_; rintro e w' ⟨rfl, hw⟩; obtain rfl : w = w' := hw.symm)
          go_ret
          first | exact ⟨rfl, rfl⟩ | exact ⟨by simp <;> omega, rfl⟩
        · have i3 : c ≤ 159 := by omega
          have e : prB c = false := by simp [prB]; omega
          rw [e]
          have cs := fine_any c
          rw [show isCh c = true from by simp [isCh]; omega] at cs
          have K := Lib.hid cs
          clear e cs
          go_enter Tryd.func34, Tryd.ntmps34
          go_wp2_with (go_at_call 47; refine (K.out _).mono ?_; rintro e w' ⟨rfl, hw⟩; obtain rfl : w = w' := hw.symm)
          go_ret
          first | exact ⟨rfl, rfl⟩ | exact ⟨by simp <;> omega, rfl⟩
    · have e : prB c = false := by simp [prB]; omega
      rw [e]
      have cs := fine_any c
      rw [show isCh c = true from by simp [isCh]; omega] at cs
      have K := Lib.hid cs
      clear e cs
      go_enter Tryd.func34, Tryd.ntmps34
      go_wp2_with (go_at_call 47; refine (K.out _).mono ?_; rintro e w' ⟨rfl, hw⟩; obtain rfl : w = w' := hw.symm)
      go_ret
      first | exact ⟨rfl, rfl⟩ | exact ⟨by simp <;> omega, rfl⟩
  · have e : prB c = false := by simp [prB]; omega
    rw [e]
    have cs := fine_any c
    rw [show isCh c = false from by simp [isCh]; omega] at cs
    have K := Lib.hid cs
    clear e cs
    go_enter Tryd.func34, Tryd.ntmps34
    go_wp2_with (go_at_call 47; refine (K.out _).mono ?_; rintro e w' ⟨rfl, hw⟩; obtain rfl : w = w' := hw.symm)
    go_ret
    first | exact ⟨rfl, rfl⟩ | exact ⟨by simp <;> omega, rfl⟩

/-- What Put comes to: a character's bytes in new memory. -/
def Puts (c : Nat) (w : World) (e : Ending) (w' : World) : Prop := ∃ v, e = .returned (.tuple #[v, .int .i64 0]) ∧ Own w' w.heap.size v (enc c) ∧ Below w.heap.size w w'

set_option maxHeartbeats 1000000 in
set_option maxRecDepth 100000 in
theorem put_yes (c : Nat) (w : World) (hc : isCh c = true) : Calls Tryd.prog 26 #[.int .i64 c] w (Puts c w) := by
  have h := of_decide_eq_true hc
  have k1 := isc_any c w
  rw [hc] at k1
  have q0 : Own w w.heap.size (.slice none 0 0) [] := ⟨by simp, .inl ⟨rfl, rfl⟩⟩
  have K1 := Lib.hid k1
  have K2 := Lib.hid (rune_app w w.heap.size (.slice none 0 0) [] c hc q0 (by simp) (Nat.le_refl _))
  have i1 : (c : Int) ≤ 1114111 := by omega
  clear h k1 hc q0
  go_enter Tryd.func26, Tryd.ntmps26
  go_wp2_with fail
  refine K1.out.mono ?_
  rintro e w' ⟨rfl, hw⟩
  obtain rfl : w = w' := hw.symm
  go_wp2_with fail
  refine K2.out.mono ?_
  rintro e w1 ⟨v', rfl, ho, hg, hat⟩
  go_wp2
  go_ret2
  exact ⟨v', rfl, by simpa using ho, (Below.refl _ _).grown hg (Nat.le_refl _) (by simp [Value.ownBlock])⟩

set_option maxHeartbeats 1000000 in
set_option maxRecDepth 100000 in
theorem put_no (c : Int) (w : World) (hc : isCh c = false) : Calls Tryd.prog 26 #[.int .i64 c] w fun e w' => e = .returned (.tuple #[.slice none 0 0, .int .i64 3]) ∧ w = w' := by
  have k1 := isc_any c w
  rw [hc] at k1
  have K1 := Lib.hid k1
  clear k1 hc
  go_enter Tryd.func26, Tryd.ntmps26
  go_wp2_with fail
  refine K1.out.mono ?_
  rintro e w' ⟨rfl, hw⟩
  obtain rfl : w = w' := hw.symm
  go_wp2
  go_ret2
  exact ⟨rfl, rfl⟩

/-- A new block of bytes is a row of the call's own. -/
theorem lit_own (w : World) (l : List Nat) (n : Nat) (hn : n = l.length) (cs : Array Value) (hcs : cs.toList = l.map bval) (hm : n ≤ maxLen) : Own (w.alloc (.cells cs 5)) w.heap.size (.slice (some ⟨w.heap.size, 0, none⟩) n n) l := by
  subst hn
  have hl : cs.size = l.length := by rw [← Array.length_toList, hcs]; simp
  exact ⟨by simp, .inr ⟨w.heap.size, l.length, cs, rfl, Nat.le_refl _, heap_alloc_new w _, Nat.le_refl _, hm, by omega, by rw [hcs, Nat.mul_one, List.take_of_length_le (by simp)]⟩⟩

def RPuts (c : Nat) (w : World) (e : Ending) (w' : World) : Prop := ∃ v, e = .returned v ∧ Own w' w.heap.size v (enc c) ∧ Below w.heap.size w w'

set_option maxHeartbeats 1000000 in
set_option maxRecDepth 100000 in
theorem rput_one (c : Nat) (w : World) (h1 : c < 128) : Calls Tryd.prog 55 #[.int .i64 c] w (RPuts c w) := by
  have he : enc c = [c] := by unfold enc; (repeat' split) <;> first | rfl | (exfalso; omega)
  unfold RPuts
  rw [he]
  have i1 : (c : Int) < 128 := by omega
  clear he
  go_enter Tryd.func55, Tryd.ntmps55
  go_wp2
  go_ret
  exact ⟨_, rfl, lit_own w _ 1 rfl _ (by simp [bval]) (by unfold maxLen; omega), (Below.refl _ _).alloc (Nat.le_refl _) _⟩

set_option maxHeartbeats 1000000 in
set_option maxRecDepth 100000 in
theorem rput_two (c : Nat) (w : World) (h0 : 128 ≤ c) (h1 : c < 2048) : Calls Tryd.prog 55 #[.int .i64 c] w (RPuts c w) := by
  have he : enc c = [192 + c / 64, 128 + c % 64] := by unfold enc; (repeat' split) <;> first | rfl | (exfalso; omega)
  unfold RPuts
  rw [he]
  have i0 : ¬ (c : Int) < 128 := by omega
  have i1 : (c : Int) < 2048 := by omega
  clear he
  go_enter Tryd.func55, Tryd.ntmps55
  go_wp2
  go_ret
  exact ⟨_, rfl, lit_own w _ 2 rfl _ (by simp [bval]) (by unfold maxLen; omega), (Below.refl _ _).alloc (Nat.le_refl _) _⟩

set_option maxHeartbeats 1000000 in
set_option maxRecDepth 100000 in
theorem rput_three (c : Nat) (w : World) (h0 : 2048 ≤ c) (h1 : c < 65536) : Calls Tryd.prog 55 #[.int .i64 c] w (RPuts c w) := by
  have he : enc c = [224 + c / 4096, 128 + c / 64 % 64, 128 + c % 64] := by unfold enc; (repeat' split) <;> first | rfl | (exfalso; omega)
  unfold RPuts
  rw [he]
  have i0 : ¬ (c : Int) < 128 := by omega
  have i1 : ¬ (c : Int) < 2048 := by omega
  have i2 : (c : Int) < 65536 := by omega
  clear he
  go_enter Tryd.func55, Tryd.ntmps55
  go_wp2
  go_ret
  exact ⟨_, rfl, lit_own w _ 3 rfl _ (by simp [bval]) (by unfold maxLen; omega), (Below.refl _ _).alloc (Nat.le_refl _) _⟩

set_option maxHeartbeats 1000000 in
set_option maxRecDepth 100000 in
theorem rput_four (c : Nat) (w : World) (h0 : 65536 ≤ c) (h1 : c ≤ 1114111) : Calls Tryd.prog 55 #[.int .i64 c] w (RPuts c w) := by
  have he : enc c = [240 + c / 262144, 128 + c / 4096 % 64, 128 + c / 64 % 64, 128 + c % 64] := by unfold enc; (repeat' split) <;> first | rfl | (exfalso; omega)
  unfold RPuts
  rw [he]
  have i0 : ¬ (c : Int) < 128 := by omega
  have i1 : ¬ (c : Int) < 2048 := by omega
  have i2 : ¬ (c : Int) < 65536 := by omega
  clear he
  go_enter Tryd.func55, Tryd.ntmps55
  go_wp2
  go_ret
  exact ⟨_, rfl, lit_own w _ 4 rfl _ (by simp [bval]) (by unfold maxLen; omega), (Below.refl _ _).alloc (Nat.le_refl _) _⟩

theorem rput_any (c : Nat) (w : World) (h : c ≤ 1114111) : Calls Tryd.prog 55 #[.int .i64 c] w (RPuts c w) := by
  by_cases h0 : c < 128
  · exact rput_one c w h0
  · by_cases h1 : c < 2048
    · exact rput_two c w (by omega) h1
    · by_cases h2 : c < 65536
      · exact rput_three c w (by omega) h2
      · exact rput_four c w (by omega) h

end Go.Proofs.YtdaenaoagejgeaaDoor.U
