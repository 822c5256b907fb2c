/-
  moment.Key, moment.Compare and what they call, at any bits: each answers as a function of the bits; the world stays as it was.
-/
import Derived.Test.YtbipkelocbkccaaFloat
import Derived.Test.YtbipkelocbkccaaChecked
import Derived.WalkKit
import Derived.WalkLawsBesides
import Derived.Laws.Externs
import Derived.Lib.Hide
namespace Go.Proofs.Ytbipkelocbkccaa
open Go.RowKit Go.Lib
set_option linter.unusedVariables false

/-- What a call that turns nothing answers. -/
def Gives (v : Value) (w : World) (e : Ending) (w' : World) : Prop := e = .returned v ∧ w' = w

theorem bits_run (b : Nat) (w : World) : (callFunc 19 #[.float .f64 b]).run Try.prog w = .ok (.value (.int .u64 b)) w := by
  rw [run_callFunc_extern (P := Try.prog) Try.func19 (by kernel_rfl) (by kernel_rfl) (by kernel_rfl) (e := Extern.MathFloatBits.float64bits) (by kernel_rfl)]
  rfl
theorem from_run (b : Nat) (w : World) : (callFunc 10 #[.int .u64 (b : Int)]).run Try.prog w = .ok (.value (.float .f64 b)) w := by
  rw [run_callFunc_extern (P := Try.prog) Try.func10 (by kernel_rfl) (by kernel_rfl) (by kernel_rfl) (e := Extern.MathFloatBits.float64frombits) (by kernel_rfl)]
  rfl

theorem isNaN_any (a : Nat) (ha : a < 2 ^ 64) (w : World) : Calls Try.prog 26 #[.float .f64 a] w (Gives (.bool (nanN a)) w) := by
  have h := ne_self ha
  go_enter Try.func26, Try.ntmps26
  go_wp2
  go_ret
  exact ⟨rfl, rfl⟩

theorem signbit_any (a : Nat) (ha : a < 2 ^ 64) (w : World) : Calls Try.prog 28 #[.float .f64 a] w (Gives (.bool (decide (9223372036854775808 ≤ a))) w) := by
  have hb := bits_run a
  have e : decide (wrap64 (a : Int) < 0) = decide (9223372036854775808 ≤ a) := by
    unfold wrap64
    congr 1
    apply propext
    omega
  go_enter Try.func28, Try.ntmps28
  go_wp2
  go_ret
  exact ⟨rfl, rfl⟩

theorem inf_pos (w : World) : Calls Try.prog 23 #[.int .i64 1] w (Gives (.float .f64 9218868437227405312) w) := by
  have hb : ∀ w, (callFunc 10 #[.int .u64 9218868437227405312]).run Try.prog w = .ok (.value (.float .f64 9218868437227405312)) w := from_run 9218868437227405312
  go_enter Try.func23, Try.ntmps23
  go_wp2
  go_ret
  exact ⟨rfl, rfl⟩
theorem inf_neg (w : World) : Calls Try.prog 23 #[.int .i64 (-1)] w (Gives (.float .f64 18442240474082181120) w) := by
  have hb : ∀ w, (callFunc 10 #[.int .u64 18442240474082181120]).run Try.prog w = .ok (.value (.float .f64 18442240474082181120)) w := from_run 18442240474082181120
  go_enter Try.func23, Try.ntmps23
  go_wp2
  go_ret
  exact ⟨rfl, rfl⟩
theorem nan_run (w : World) : Calls Try.prog 24 #[] w (Gives (.float .f64 9221120237041090561) w) := by
  have hb : ∀ w, (callFunc 10 #[.int .u64 9221120237041090561]).run Try.prog w = .ok (.value (.float .f64 9221120237041090561)) w := from_run 9221120237041090561
  go_enter Try.func24, Try.ntmps24
  go_wp2
  go_ret
  exact ⟨rfl, rfl⟩
theorem copysign_run (w : World) : Calls Try.prog 31 #[.float .f64 0, .float .f64 13830554455654793216] w (Gives (.float .f64 9223372036854775808) w) := by
  have hb1 : ∀ w, (callFunc 19 #[.float .f64 0]).run Try.prog w = .ok (.value (.int .u64 0)) w := bits_run 0
  have hb2 : ∀ w, (callFunc 19 #[.float .f64 13830554455654793216]).run Try.prog w = .ok (.value (.int .u64 13830554455654793216)) w := bits_run 13830554455654793216
  have hb : ∀ w, (callFunc 10 #[.int .u64 9223372036854775808]).run Try.prog w = .ok (.value (.float .f64 9223372036854775808)) w := from_run 9223372036854775808
  have e1 : bits BinOp.andNot IntKind.u64 0 9223372036854775808 = 0 := by kernel_rfl
  have e2 : bits BinOp.and IntKind.u64 13830554455654793216 9223372036854775808 = 9223372036854775808 := by kernel_rfl
  have e3 : bits BinOp.or IntKind.u64 0 9223372036854775808 = 9223372036854775808 := by kernel_rfl
  go_enter Try.func31, Try.ntmps31
  go_wp2
  go_ret
  exact ⟨rfl, rfl⟩
theorem cmpIsNaN_any (x : Nat) (w : World) : Calls Try.prog 32 #[.int .u64 (x : Int)] w (Gives (.bool false) w) := by
  go_enter Try.func32, Try.ntmps32
  go_wp2
  go_ret
  exact ⟨by simp, rfl⟩

theorem cmp_any (x y : Nat) (w : World) : Calls Try.prog 25 #[.int .u64 (x : Int), .int .u64 (y : Int)] w (Gives (.int .i64 (cmpK x y)) w) := by
  unfold cmpK
  rcases Nat.lt_trichotomy x y with h | h | h
  · rw [if_pos h]
    have h1 : (x : Int) < y := by omega
    go_enter Try.func25, Try.ntmps25
    go_wp2_with (first | (refine (cmpIsNaN_any x _).mono ?_; rintro e w1 ⟨rfl, rfl⟩) | (refine (cmpIsNaN_any y _).mono ?_; rintro e w1 ⟨rfl, rfl⟩))
    go_ret
    exact ⟨rfl, rfl⟩
  · subst h
    rw [if_neg (by omega), if_neg (by omega)]
    go_enter Try.func25, Try.ntmps25
    go_wp2_with (first | (refine (cmpIsNaN_any x _).mono ?_; rintro e w1 ⟨rfl, rfl⟩))
    go_ret
    exact ⟨rfl, rfl⟩
  · rw [if_neg (by omega), if_pos h]
    have h1 : (y : Int) < x := by omega
    have h2 : ¬ (x : Int) < y := by omega
    go_enter Try.func25, Try.ntmps25
    go_wp2_with (first | (refine (cmpIsNaN_any x _).mono ?_; rintro e w1 ⟨rfl, rfl⟩) | (refine (cmpIsNaN_any y _).mono ?_; rintro e w1 ⟨rfl, rfl⟩))
    go_ret
    exact ⟨rfl, rfl⟩

theorem key_any (a : Nat) (ha : a < 2 ^ 64) (w : World) : Calls Try.prog 17 #[.float .f64 a] w (Gives (.int .u64 (keyN a : Nat)) w) := by
  have hb := bits_run a
  have hn := isNaN_any a ha
  have hs := signbit_any a ha
  unfold keyN
  cases h : nanN a
  · rw [if_neg (by simp)]
    by_cases g : 9223372036854775808 ≤ a
    · rw [if_pos g]
      rw [h] at hn
      rw [decide_eq_true g] at hs
      go_enter Try.func17, Try.ntmps17
      go_wp2_with (first | (refine (hn _).mono ?_; rintro e w1 ⟨rfl, rfl⟩) | (refine (hs _).mono ?_; rintro e w1 ⟨rfl, rfl⟩))
      go_ret
      refine ⟨?_, rfl⟩
      show Ending.returned (Value.int .u64 (18446744073709551615 - (a : Int))) = _
      congr 2
      omega
    · rw [if_neg g]
      rw [h] at hn
      rw [decide_eq_false g] at hs
      go_enter Try.func17, Try.ntmps17
      go_wp2_with (first | (refine (hn _).mono ?_; rintro e w1 ⟨rfl, rfl⟩) | (refine (hs _).mono ?_; rintro e w1 ⟨rfl, rfl⟩))
      go_ret
      refine ⟨?_, rfl⟩
      show Ending.returned (Value.int .u64 (9223372036854775808 + (a : Int))) = _
      congr 2
      omega
  · rw [if_pos rfl]
    rw [h] at hn
    go_enter Try.func17, Try.ntmps17
    go_wp2_with (first | (refine (hn _).mono ?_; rintro e w1 ⟨rfl, rfl⟩))
    go_ret
    exact ⟨rfl, rfl⟩

theorem key_lt (a : Nat) (ha : a < 2 ^ 64) : keyN a < 18446744073709551616 := by
  unfold keyN
  split
  · omega
  · split <;> omega

theorem compare_of (a b x y : Nat) (z : Int) (w : World) (k1 : ∀ w, Calls Try.prog 17 #[.float .f64 a] w (Gives (.int .u64 (x : Int)) w)) (k2 : ∀ w, Calls Try.prog 17 #[.float .f64 b] w (Gives (.int .u64 (y : Int)) w))
    (k3 : ∀ w, Calls Try.prog 25 #[.int .u64 (x : Int), .int .u64 (y : Int)] w (Gives (.int .i64 z) w)) : Calls Try.prog 12 #[.float .f64 a, .float .f64 b] w (Gives (.int .i64 z) w) := by
  have K1 := hid k1
  have K2 := hid k2
  have K3 := hid k3
  clear k1 k2 k3
  go_enter Try.func12, Try.ntmps12
  go_wp2_with fail
  refine (K1.out _).mono ?_
  rintro e w1 ⟨rfl, rfl⟩
  go_wp2_with fail
  refine (K2.out _).mono ?_
  rintro e w2 ⟨rfl, rfl⟩
  go_wp2_with fail
  refine (K3.out _).mono ?_
  rintro e w3 ⟨rfl, rfl⟩
  go_wp2
  go_ret
  exact ⟨rfl, rfl⟩
theorem compare_any (a b : Nat) (ha : a < 2 ^ 64) (hb : b < 2 ^ 64) (w : World) : Calls Try.prog 12 #[.float .f64 a, .float .f64 b] w (Gives (.int .i64 (cmpN a b)) w) :=
  compare_of a b (keyN a) (keyN b) _ w (key_any a ha) (key_any b hb) (cmp_any _ _)
end Go.Proofs.Ytbipkelocbkccaa
