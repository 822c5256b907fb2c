/-
  The document's own Next (package whispererref01) at any bytes: the first character, or that there is none, and for how many bytes. What lay in memory stays.
-/
import Derived.Test.YtcailmgincafcaaDoorUNx
namespace Go.Proofs.YtcailmgincafcaaDoor.U
open Go.RowKit Go.Lib
set_option linter.unusedVariables false

/-- A result and nothing else. -/
def Just (v : Value) (w : World) (e : Ending) (w' : World) : Prop := e = .returned v ∧ w = w'

set_option maxHeartbeats 1000000 in
set_option maxRecDepth 100000 in
theorem size_any (c : Nat) (w : World) (hc : c < 256) : Calls Tryd.prog 29 #[.int .u8 c] w fun e w' => e = .returned (.int .i64 (szB c)) ∧ w' = w := by
  unfold szB
  by_cases h1 : c < 128
  · rw [if_pos h1]
    have i1 : (c : Int) < 128 := by omega
    go_enter Tryd.func29, Tryd.ntmps29
    go_wp2
    go_ret
    exact ⟨rfl, rfl⟩
  · rw [if_neg h1]
    have i1 : ¬ (c : Int) < 128 := by omega
    by_cases h2 : c < 194
    · rw [if_pos h2]
      have i2 : ¬ (194 : Int) ≤ c := by omega
      have i3 : ¬ (224 : Int) ≤ c := by omega
      have i4 : ¬ (240 : Int) ≤ c := by omega
      go_enter Tryd.func29, Tryd.ntmps29
      go_wp2
      go_ret
      exact ⟨rfl, rfl⟩
    · rw [if_neg h2]
      have i2 : (194 : Int) ≤ c := by omega
      by_cases h3 : c < 224
      · rw [if_pos h3]
        have i3 : (c : Int) ≤ 223 := by omega
        go_enter Tryd.func29, Tryd.ntmps29
        go_wp2
        go_ret
        exact ⟨rfl, rfl⟩
      · rw [if_neg h3]
        have i3 : ¬ (c : Int) ≤ 223 := by omega
        have i3' : (224 : Int) ≤ c := by omega
        by_cases h4 : c < 240
        · rw [if_pos h4]
          have i4 : (c : Int) ≤ 239 := by omega
          go_enter Tryd.func29, Tryd.ntmps29
          go_wp2
          go_ret
          exact ⟨rfl, rfl⟩
        · rw [if_neg h4]
          have i4 : ¬ (c : Int) ≤ 239 := by omega
          have i4' : (240 : Int) ≤ c := by omega
          by_cases h5 : c < 245
          · rw [if_pos h5]
            have i5 : (c : Int) ≤ 244 := by omega
            go_enter Tryd.func29, Tryd.ntmps29
            go_wp2
            go_ret
            exact ⟨rfl, rfl⟩
          · rw [if_neg h5]
            have i5 : ¬ (c : Int) ≤ 244 := by omega
            go_enter Tryd.func29, Tryd.ntmps29
            go_wp2
            go_ret
            exact ⟨rfl, rfl⟩

/-- May the second byte stand behind the first one? -/
def secB (a c : Nat) : Bool := decide (loB a ≤ c ∧ c ≤ hiB a)

set_option maxHeartbeats 1000000 in
set_option maxRecDepth 100000 in
theorem second_core (a c lo hi : Nat) (w : World) (v : Bool) (hv : v = decide (lo ≤ c ∧ c ≤ hi))
    (hd : (a = 224 ∧ lo = 160 ∧ hi = 191) ∨ (a = 237 ∧ lo = 128 ∧ hi = 159) ∨ (a = 240 ∧ lo = 144 ∧ hi = 191) ∨ (a = 244 ∧ lo = 128 ∧ hi = 143) ∨ (a ≠ 224 ∧ a ≠ 237 ∧ a ≠ 240 ∧ a ≠ 244 ∧ lo = 128 ∧ hi = 191)) :
    Calls Tryd.prog 30 #[.int .u8 a, .int .u8 c] w fun e w' => e = .returned (.bool v) ∧ w' = w := by
  rcases hd with ⟨rfl, rfl, rfl⟩ | ⟨rfl, rfl, rfl⟩ | ⟨rfl, rfl, rfl⟩ | ⟨rfl, rfl, rfl⟩ | ⟨n1, n2, n3, n4, rfl, rfl⟩
  · by_cases h1 : 160 ≤ c
    · have i1 : (160 : Int) ≤ c := by omega
      by_cases h2 : c ≤ 191
      · have i2 : (c : Int) ≤ 191 := by omega
        have : v = true := by rw [hv]; simp; omega
        subst this
        clear hv
        go_enter Tryd.func30, Tryd.ntmps30
        go_wp2
        go_ret
        exact ⟨rfl, rfl⟩
      · have i2 : ¬ (c : Int) ≤ 191 := by omega
        have : v = false := by rw [hv]; simp; omega
        subst this
        clear hv
        go_enter Tryd.func30, Tryd.ntmps30
        go_wp2
        go_ret
        exact ⟨by simp, rfl⟩
    · have i1 : ¬ (160 : Int) ≤ c := by omega
      have : v = false := by rw [hv]; simp; omega
      subst this
      clear hv
      go_enter Tryd.func30, Tryd.ntmps30
      go_wp2
      go_ret
      exact ⟨rfl, rfl⟩
  · by_cases h1 : 128 ≤ c
    · have i1 : (128 : Int) ≤ c := by omega
      by_cases h2 : c ≤ 159
      · have i2 : (c : Int) ≤ 159 := by omega
        have : v = true := by rw [hv]; simp; omega
        subst this
        clear hv
        go_enter Tryd.func30, Tryd.ntmps30
        go_wp2
        go_ret
        exact ⟨rfl, rfl⟩
      · have i2 : ¬ (c : Int) ≤ 159 := by omega
        have : v = false := by rw [hv]; simp; omega
        subst this
        clear hv
        go_enter Tryd.func30, Tryd.ntmps30
        go_wp2
        go_ret
        exact ⟨by simp, rfl⟩
    · have i1 : ¬ (128 : Int) ≤ c := by omega
      have : v = false := by rw [hv]; simp; omega
      subst this
      clear hv
      go_enter Tryd.func30, Tryd.ntmps30
      go_wp2
      go_ret
      exact ⟨rfl, rfl⟩
  · by_cases h1 : 144 ≤ c
    · have i1 : (144 : Int) ≤ c := by omega
      by_cases h2 : c ≤ 191
      · have i2 : (c : Int) ≤ 191 := by omega
        have : v = true := by rw [hv]; simp; omega
        subst this
        clear hv
        go_enter Tryd.func30, Tryd.ntmps30
        go_wp2
        go_ret
        exact ⟨rfl, rfl⟩
      · have i2 : ¬ (c : Int) ≤ 191 := by omega
        have : v = false := by rw [hv]; simp; omega
        subst this
        clear hv
        go_enter Tryd.func30, Tryd.ntmps30
        go_wp2
        go_ret
        exact ⟨by simp, rfl⟩
    · have i1 : ¬ (144 : Int) ≤ c := by omega
      have : v = false := by rw [hv]; simp; omega
      subst this
      clear hv
      go_enter Tryd.func30, Tryd.ntmps30
      go_wp2
      go_ret
      exact ⟨rfl, rfl⟩
  · by_cases h1 : 128 ≤ c
    · have i1 : (128 : Int) ≤ c := by omega
      by_cases h2 : c ≤ 143
      · have i2 : (c : Int) ≤ 143 := by omega
        have : v = true := by rw [hv]; simp; omega
        subst this
        clear hv
        go_enter Tryd.func30, Tryd.ntmps30
        go_wp2
        go_ret
        exact ⟨rfl, rfl⟩
      · have i2 : ¬ (c : Int) ≤ 143 := by omega
        have : v = false := by rw [hv]; simp; omega
        subst this
        clear hv
        go_enter Tryd.func30, Tryd.ntmps30
        go_wp2
        go_ret
        exact ⟨by simp, rfl⟩
    · have i1 : ¬ (128 : Int) ≤ c := by omega
      have : v = false := by rw [hv]; simp; omega
      subst this
      clear hv
      go_enter Tryd.func30, Tryd.ntmps30
      go_wp2
      go_ret
      exact ⟨rfl, rfl⟩
  · have e1 : ((a : Int) == 224) = false := by simp; omega
    have e2 : ((a : Int) == 237) = false := by simp; omega
    have e3 : ((a : Int) == 240) = false := by simp; omega
    have e4 : ((a : Int) == 244) = false := by simp; omega
    by_cases h1 : 128 ≤ c
    · have i1 : (128 : Int) ≤ c := by omega
      by_cases h2 : c ≤ 191
      · have i2 : (c : Int) ≤ 191 := by omega
        have : v = true := by rw [hv]; simp; omega
        subst this
        clear hv
        go_enter Tryd.func30, Tryd.ntmps30
        go_wp2
        go_ret
        exact ⟨rfl, rfl⟩
      · have i2 : ¬ (c : Int) ≤ 191 := by omega
        have : v = false := by rw [hv]; simp; omega
        subst this
        clear hv
        go_enter Tryd.func30, Tryd.ntmps30
        go_wp2
        go_ret
        exact ⟨by simp, rfl⟩
    · have i1 : ¬ (128 : Int) ≤ c := by omega
      have : v = false := by rw [hv]; simp; omega
      subst this
      clear hv
      go_enter Tryd.func30, Tryd.ntmps30
      go_wp2
      go_ret
      exact ⟨rfl, rfl⟩

theorem second_any (a c : Nat) (w : World) : Calls Tryd.prog 30 #[.int .u8 a, .int .u8 c] w fun e w' => e = .returned (.bool (secB a c)) ∧ w' = w := by
  refine second_core a c (loB a) (hiB a) w _ rfl ?_
  unfold loB hiB
  (repeat' split) <;> omega

end Go.Proofs.YtcailmgincafcaaDoor.U
