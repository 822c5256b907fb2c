/-
  moment.Key, moment.Compare and what they call, at any bits: each answers as a function of the bits; the world stays as it was.
-/
import Derived.Test.YtjjaaahoophgpaaFloat
import Derived.Test.YtjjaaahoophgpaaChecked
import Derived.WalkKit
import Derived.WalkLawsBesides
import Derived.Laws.Externs
import Derived.Lib.Hide
namespace Go.Proofs.Ytjjaaahoophgpaa
open Go.RowKit Go.Lib
set_option linter.unusedVariables false

/-- What a call that turns nothing answers. -/
def Gives (v : Value) (w : World) (e : Ending) (w' : World) : Prop := e = .returned v ∧ w' = w

theorem bits_run (b : Nat) (w : World) : (callFunc 18 #[.float .f64 b]).run Try.prog w = .ok (.value (.int .u64 b)) w := by
  rw [run_callFunc_extern (P := Try.prog) Try.func18 (by kernel_rfl) (by kernel_rfl) (by kernel_rfl) (e := Extern.MathFloatBits.float64bits) (by kernel_rfl)]
  rfl
theorem from_run (b : Nat) (w : World) : (callFunc 12 #[.int .u64 (b : Int)]).run Try.prog w = .ok (.value (.float .f64 b)) w := by
  rw [run_callFunc_extern (P := Try.prog) Try.func12 (by kernel_rfl) (by kernel_rfl) (by kernel_rfl) (e := Extern.MathFloatBits.float64frombits) (by kernel_rfl)]
  rfl

theorem isNaN_any (a : Nat) (ha : a < 2 ^ 64) (w : World) : Calls Try.prog 35 #[.float .f64 a] w (Gives (.bool (nanN a)) w) := by
  have h := ne_self ha
  go_enter Try.func35, Try.ntmps35
  go_wp2
  go_ret
  exact ⟨rfl, rfl⟩

theorem signbit_any (a : Nat) (ha : a < 2 ^ 64) (w : World) : Calls Try.prog 36 #[.float .f64 a] w (Gives (.bool (decide (9223372036854775808 ≤ a))) w) := by
  have hb := bits_run a
  have e : decide (wrap64 (a : Int) < 0) = decide (9223372036854775808 ≤ a) := by
    unfold wrap64
    congr 1
    apply propext
    omega
  go_enter Try.func36, Try.ntmps36
  go_wp2
  go_ret
  exact ⟨rfl, rfl⟩

theorem cmpIsNaN_any (x : Nat) (w : World) : Calls Try.prog 34 #[.int .u64 (x : Int)] w (Gives (.bool false) w) := by
  go_enter Try.func34, Try.ntmps34
  go_wp2
  go_ret
  exact ⟨by simp, rfl⟩

theorem cmp_any (x y : Nat) (w : World) : Calls Try.prog 29 #[.int .u64 (x : Int), .int .u64 (y : Int)] w (Gives (.int .i64 (cmpK x y)) w) := by
  unfold cmpK
  rcases Nat.lt_trichotomy x y with h | h | h
  · rw [if_pos h]
    have h1 : (x : Int) < y := by omega
    go_enter Try.func29, Try.ntmps29
    go_wp2_with (first | (refine (cmpIsNaN_any x _).mono ?_; rintro e w1 ⟨rfl, rfl⟩) | (refine (cmpIsNaN_any y _).mono ?_; rintro e w1 ⟨rfl, rfl⟩))
    go_ret
    exact ⟨rfl, rfl⟩
  · subst h
    rw [if_neg (by omega), if_neg (by omega)]
    go_enter Try.func29, Try.ntmps29
    go_wp2_with (first | (refine (cmpIsNaN_any x _).mono ?_; rintro e w1 ⟨rfl, rfl⟩))
    go_ret
    exact ⟨rfl, rfl⟩
  · rw [if_neg (by omega), if_pos h]
    have h1 : (y : Int) < x := by omega
    have h2 : ¬ (x : Int) < y := by omega
    go_enter Try.func29, Try.ntmps29
    go_wp2_with (first | (refine (cmpIsNaN_any x _).mono ?_; rintro e w1 ⟨rfl, rfl⟩) | (refine (cmpIsNaN_any y _).mono ?_; rintro e w1 ⟨rfl, rfl⟩))
    go_ret
    exact ⟨rfl, rfl⟩

theorem key_any (a : Nat) (ha : a < 2 ^ 64) (w : World) : Calls Try.prog 30 #[.float .f64 a] w (Gives (.int .u64 (keyN a : Nat)) w) := by
  have hb := bits_run a
  have hn := isNaN_any a ha
  have hs := signbit_any a ha
  unfold keyN
  cases h : nanN a
  · rw [if_neg (by simp)]
    by_cases g : 9223372036854775808 ≤ a
    · rw [if_pos g]
      rw [h] at hn
      rw [decide_eq_true g] at hs
      go_enter Try.func30, Try.ntmps30
      go_wp2_with (first | (refine (hn _).mono ?_; rintro e w1 ⟨rfl, rfl⟩) | (refine (hs _).mono ?_; rintro e w1 ⟨rfl, rfl⟩))
      go_ret
      refine ⟨?_, rfl⟩
      show Ending.returned (Value.int .u64 (18446744073709551615 - (a : Int))) = _
      congr 2
      omega
    · rw [if_neg g]
      rw [h] at hn
      rw [decide_eq_false g] at hs
      go_enter Try.func30, Try.ntmps30
      go_wp2_with (first | (refine (hn _).mono ?_; rintro e w1 ⟨rfl, rfl⟩) | (refine (hs _).mono ?_; rintro e w1 ⟨rfl, rfl⟩))
      go_ret
      refine ⟨?_, rfl⟩
      show Ending.returned (Value.int .u64 (9223372036854775808 + (a : Int))) = _
      congr 2
      omega
  · rw [if_pos rfl]
    rw [h] at hn
    go_enter Try.func30, Try.ntmps30
    go_wp2_with (first | (refine (hn _).mono ?_; rintro e w1 ⟨rfl, rfl⟩))
    go_ret
    exact ⟨rfl, rfl⟩

theorem compare_of (a b x y : Nat) (z : Int) (w : World) (k1 : ∀ w, Calls Try.prog 30 #[.float .f64 a] w (Gives (.int .u64 (x : Int)) w)) (k2 : ∀ w, Calls Try.prog 30 #[.float .f64 b] w (Gives (.int .u64 (y : Int)) w))
    (k3 : ∀ w, Calls Try.prog 29 #[.int .u64 (x : Int), .int .u64 (y : Int)] w (Gives (.int .i64 z) w)) : Calls Try.prog 23 #[.float .f64 a, .float .f64 b] w (Gives (.int .i64 z) w) := by
  have K1 := hid k1
  have K2 := hid k2
  have K3 := hid k3
  clear k1 k2 k3
  go_enter Try.func23, Try.ntmps23
  go_wp2_with fail
  refine (K1.out _).mono ?_
  rintro e w1 ⟨rfl, rfl⟩
  go_wp2_with fail
  refine (K2.out _).mono ?_
  rintro e w2 ⟨rfl, rfl⟩
  go_wp2_with fail
  refine (K3.out _).mono ?_
  rintro e w3 ⟨rfl, rfl⟩
  go_wp2
  go_ret
  exact ⟨rfl, rfl⟩
theorem compare_any (a b : Nat) (ha : a < 2 ^ 64) (hb : b < 2 ^ 64) (w : World) : Calls Try.prog 23 #[.float .f64 a, .float .f64 b] w (Gives (.int .i64 (cmpN a b)) w) :=
  compare_of a b (keyN a) (keyN b) _ w (key_any a ha) (key_any b hb) (cmp_any _ _)
end Go.Proofs.Ytjjaaahoophgpaa
