/-
  moment.Of, the document's Kind, Compare and Key, and the document's examples, at any bits: each answers as a function of the bits; the world stays as it was.
-/
import Derived.Test.YtbipkelocbkccaaKind
namespace Go.Proofs.Ytbipkelocbkccaa
open Go.RowKit Go.Lib
set_option linter.unusedVariables false

/-- Whether a number is a key of a moment that is a number. -/
def ofOk (k : Nat) : Bool := decide (4503599627370495 ≤ k ∧ k ≤ 18442240474082181120)
/-- The bits that a key is of. -/
def ofBits (k : Nat) : Nat := if k < 9223372036854775808 then 18446744073709551615 - k else k - 9223372036854775808

theorem of_a (k m : Nat) (w : World) (i1 : ∀ w, Calls Try.prog 23 #[.int .i64 (-1)] w (Gives (.float .f64 18442240474082181120) w)) (i2 : ∀ w, Calls Try.prog 23 #[.int .i64 1] w (Gives (.float .f64 9218868437227405312) w))
    (k1 : ∀ w, Calls Try.prog 17 #[.float .f64 18442240474082181120] w (Gives (.int .u64 4503599627370495) w)) (k2 : ∀ w, Calls Try.prog 17 #[.float .f64 9218868437227405312] w (Gives (.int .u64 18442240474082181120) w))
    (g1 : (k : Int) < 4503599627370495) :
    Calls Try.prog 16 #[.int .u64 (k : Int)] w (Gives (.tuple #[.float .f64 0, .int .i64 3]) w) := by
  have I1 := Lib.hid i1
  have I2 := Lib.hid i2
  have K1 := Lib.hid k1
  have K2 := Lib.hid k2
  clear i1 i2 k1 k2
  have d1 : decide ((k : Int) < 4503599627370495) = true := decide_eq_true g1
  go_enter Try.func16, Try.ntmps16
  go_wp2_with fail
  refine (I1.out _).mono ?_
  rintro _ _ ⟨rfl, rfl⟩
  go_wp2_with fail
  refine (K1.out _).mono ?_
  rintro _ _ ⟨rfl, rfl⟩
  go_wp2
  go_ret2
  exact ⟨rfl, rfl⟩
theorem of_b (k m : Nat) (w : World) (i1 : ∀ w, Calls Try.prog 23 #[.int .i64 (-1)] w (Gives (.float .f64 18442240474082181120) w)) (i2 : ∀ w, Calls Try.prog 23 #[.int .i64 1] w (Gives (.float .f64 9218868437227405312) w))
    (k1 : ∀ w, Calls Try.prog 17 #[.float .f64 18442240474082181120] w (Gives (.int .u64 4503599627370495) w)) (k2 : ∀ w, Calls Try.prog 17 #[.float .f64 9218868437227405312] w (Gives (.int .u64 18442240474082181120) w))
    (g1 : ¬ (k : Int) < 4503599627370495) (g2 : 18442240474082181120 < (k : Int)) :
    Calls Try.prog 16 #[.int .u64 (k : Int)] w (Gives (.tuple #[.float .f64 0, .int .i64 3]) w) := by
  have I1 := Lib.hid i1
  have I2 := Lib.hid i2
  have K1 := Lib.hid k1
  have K2 := Lib.hid k2
  clear i1 i2 k1 k2
  have d1 : decide ((k : Int) < 4503599627370495) = false := decide_eq_false g1
  have d2 : decide ((k : Int) > 18442240474082181120) = true := decide_eq_true g2
  go_enter Try.func16, Try.ntmps16
  go_wp2_with fail
  refine (I1.out _).mono ?_
  rintro _ _ ⟨rfl, rfl⟩
  go_wp2_with fail
  refine (K1.out _).mono ?_
  rintro _ _ ⟨rfl, rfl⟩
  go_wp2_with fail
  refine (I2.out _).mono ?_
  rintro _ _ ⟨rfl, rfl⟩
  go_wp2_with fail
  refine (K2.out _).mono ?_
  rintro _ _ ⟨rfl, rfl⟩
  go_wp2
  go_ret2
  exact ⟨rfl, rfl⟩
theorem of_c (k m : Nat) (w : World) (i1 : ∀ w, Calls Try.prog 23 #[.int .i64 (-1)] w (Gives (.float .f64 18442240474082181120) w)) (i2 : ∀ w, Calls Try.prog 23 #[.int .i64 1] w (Gives (.float .f64 9218868437227405312) w))
    (k1 : ∀ w, Calls Try.prog 17 #[.float .f64 18442240474082181120] w (Gives (.int .u64 4503599627370495) w)) (k2 : ∀ w, Calls Try.prog 17 #[.float .f64 9218868437227405312] w (Gives (.int .u64 18442240474082181120) w))
    (g1 : ¬ (k : Int) < 4503599627370495) (g2 : ¬ 18442240474082181120 < (k : Int)) (g3 : (k : Int) < 9223372036854775808) (f1 : ∀ w, (callFunc 10 #[.int .u64 (18446744073709551615 - (k : Int))]).run Try.prog w = .ok (.value (.float .f64 m)) w) :
    Calls Try.prog 16 #[.int .u64 (k : Int)] w (Gives (.tuple #[.float .f64 m, .int .i64 0]) w) := by
  have I1 := Lib.hid i1
  have I2 := Lib.hid i2
  have K1 := Lib.hid k1
  have K2 := Lib.hid k2
  clear i1 i2 k1 k2
  have d1 : decide ((k : Int) < 4503599627370495) = false := decide_eq_false g1
  have d2 : decide ((k : Int) > 18442240474082181120) = false := decide_eq_false g2
  go_enter Try.func16, Try.ntmps16
  go_wp2_with fail
  refine (I1.out _).mono ?_
  rintro _ _ ⟨rfl, rfl⟩
  go_wp2_with fail
  refine (K1.out _).mono ?_
  rintro _ _ ⟨rfl, rfl⟩
  go_wp2_with fail
  refine (I2.out _).mono ?_
  rintro _ _ ⟨rfl, rfl⟩
  go_wp2_with fail
  refine (K2.out _).mono ?_
  rintro _ _ ⟨rfl, rfl⟩
  go_wp2
  go_ret2
  exact ⟨rfl, rfl⟩
theorem of_d (z : Int) (m : Nat) (w : World) (i1 : ∀ w, Calls Try.prog 23 #[.int .i64 (-1)] w (Gives (.float .f64 18442240474082181120) w)) (i2 : ∀ w, Calls Try.prog 23 #[.int .i64 1] w (Gives (.float .f64 9218868437227405312) w))
    (k1 : ∀ w, Calls Try.prog 17 #[.float .f64 18442240474082181120] w (Gives (.int .u64 4503599627370495) w)) (k2 : ∀ w, Calls Try.prog 17 #[.float .f64 9218868437227405312] w (Gives (.int .u64 18442240474082181120) w))
    (g1 : ¬ z < 4503599627370495) (g2 : ¬ 18442240474082181120 < z) (g3 : ¬ z < 9223372036854775808) (e1 : IntKind.u64.wrap (z - 9223372036854775808) = (m : Int)) (e2 : z - 9223372036854775808 = (m : Int)) (f1 : ∀ w, (callFunc 10 #[.int .u64 (m : Int)]).run Try.prog w = .ok (.value (.float .f64 m)) w) :
    Calls Try.prog 16 #[.int .u64 z] w (Gives (.tuple #[.float .f64 m, .int .i64 0]) w) := by
  have I1 := Lib.hid i1
  have I2 := Lib.hid i2
  have K1 := Lib.hid k1
  have K2 := Lib.hid k2
  clear i1 i2 k1 k2
  have d1 : decide (z < 4503599627370495) = false := decide_eq_false g1
  have d2 : decide (z > 18442240474082181120) = false := decide_eq_false g2
  go_enter Try.func16, Try.ntmps16
  go_wp2_with fail
  refine (I1.out _).mono ?_
  rintro _ _ ⟨rfl, rfl⟩
  go_wp2_with fail
  refine (K1.out _).mono ?_
  rintro _ _ ⟨rfl, rfl⟩
  go_wp2_with fail
  refine (I2.out _).mono ?_
  rintro _ _ ⟨rfl, rfl⟩
  go_wp2_with fail
  refine (K2.out _).mono ?_
  rintro _ _ ⟨rfl, rfl⟩
  go_wp2
  go_ret2
  exact ⟨rfl, rfl⟩
theorem of_any (k : Nat) (hk : k < 2 ^ 64) (w : World) : Calls Try.prog 16 #[.int .u64 (k : Int)] w
    (Gives (.tuple #[.float .f64 (if ofOk k = true then ofBits k else 0), .int .i64 (if ofOk k = true then 0 else 3)]) w) := by
  have i1 := inf_neg
  have i2 := inf_pos
  have k1 := key_any 18442240474082181120 (by omega)
  have k2 := key_any 9218868437227405312 (by omega)
  have e1 : ((keyN 18442240474082181120 : Nat) : Int) = 4503599627370495 := by decide
  have e2 : ((keyN 9218868437227405312 : Nat) : Int) = 18442240474082181120 := by decide
  rw [e1] at k1
  rw [e2] at k2
  unfold ofOk ofBits
  by_cases h1 : k < 4503599627370495
  · rw [decide_eq_false (by omega), if_neg (by simp), if_neg (by simp)]
    exact of_a k 0 w i1 i2 k1 k2 (by omega)
  · by_cases h2 : 18442240474082181120 < k
    · rw [decide_eq_false (by omega), if_neg (by simp), if_neg (by simp)]
      exact of_b k 0 w i1 i2 k1 k2 (by omega) (by omega)
    · rw [decide_eq_true (by omega), if_pos rfl, if_pos rfl]
      by_cases h3 : k < 9223372036854775808
      · rw [if_pos h3]
        refine of_c k _ w i1 i2 k1 k2 (by omega) (by omega) (by omega) ?_
        rw [show 18446744073709551615 - (k : Int) = ((18446744073709551615 - k : Nat) : Int) by omega]
        exact from_run _
      · rw [if_neg h3]
        have e2 : (k : Int) - 9223372036854775808 = ((k - 9223372036854775808 : Nat) : Int) := by omega
        refine of_d k _ w i1 i2 k1 k2 (by omega) (by omega) (by omega) ?_ e2 (from_run _)
        rw [e2]
        simp [IntKind.wrap, IntKind.bits, IntKind.signed]
        omega

theorem zero_run (w : World) : Calls Try.prog 22 #[] w (Gives (.float .f64 9223372036854775808) w) := by
  have H := Lib.hid copysign_run
  go_enter Try.func22, Try.ntmps22
  go_wp2_with fail
  refine (H.out _).mono ?_
  rintro _ _ ⟨rfl, rfl⟩
  go_wp2
  go_ret
  exact ⟨rfl, rfl⟩

theorem alive_run (w : World) : Calls Try.prog 11 #[] w (Gives (.bool true) w) := by
  have Z := Lib.hid zero_run
  have I := Lib.hid inf_pos
  have N := Lib.hid nan_run
  have c1 := compare_any 9223372036854775808 0 (by omega) (by omega)
  have c2 := compare_any 9218868437227405312 9221120237041090561 (by omega) (by omega)
  have k1 := key_any 0 (by omega)
  have k2 := key_any 9223372036854775808 (by omega)
  rw [show cmpN 9223372036854775808 0 = -1 by decide] at c1
  rw [show cmpN 9218868437227405312 9221120237041090561 = -1 by decide] at c2
  rw [show ((keyN 0 : Nat) : Int) = 9223372036854775808 by decide] at k1
  rw [show ((keyN 9223372036854775808 : Nat) : Int) = 9223372036854775807 by decide] at k2
  have C1 := Lib.hid c1
  have C2 := Lib.hid c2
  have K1 := Lib.hid k1
  have K2 := Lib.hid k2
  clear c1 c2 k1 k2
  go_enter Try.func11, Try.ntmps11
  go_wp2_with fail
  refine (Z.out _).mono ?_
  rintro _ _ ⟨rfl, rfl⟩
  go_wp2_with fail
  refine (C1.out _).mono ?_
  rintro _ _ ⟨rfl, rfl⟩
  go_wp2_with fail
  refine (I.out _).mono ?_
  rintro _ _ ⟨rfl, rfl⟩
  go_wp2_with fail
  refine (N.out _).mono ?_
  rintro _ _ ⟨rfl, rfl⟩
  go_wp2_with fail
  refine (C2.out _).mono ?_
  rintro _ _ ⟨rfl, rfl⟩
  go_wp2_with fail
  refine (K1.out _).mono ?_
  rintro _ _ ⟨rfl, rfl⟩
  go_wp2_with fail
  refine (Z.out _).mono ?_
  rintro _ _ ⟨rfl, rfl⟩
  go_wp2_with fail
  refine (K2.out _).mono ?_
  rintro _ _ ⟨rfl, rfl⟩
  go_wp2
  go_ret
  exact ⟨rfl, rfl⟩

/-! ### The document's own answers -/
theorem refKey_any (a : Nat) (ha : a < 2 ^ 64) (w : World) : Calls Try.prog 18 #[.float .f64 a] w (Gives (.int .u64 (keyN a : Nat)) w) := by
  have hb := bits_run a
  have hn := ne_self ha
  unfold keyN
  cases h : nanN a
  · rw [if_neg (by simp)]
    rw [h] at hn
    by_cases g : 9223372036854775808 ≤ a
    · rw [if_pos g]
      have g1 : 9223372036854775808 ≤ (a : Int) := by omega
      go_enter Try.func18, Try.ntmps18
      go_wp2
      go_ret
      refine ⟨?_, rfl⟩
      show Ending.returned (Value.int .u64 (18446744073709551615 - (a : Int))) = _
      congr 2
      omega
    · rw [if_neg g]
      have g1 : ¬ 9223372036854775808 ≤ (a : Int) := by omega
      go_enter Try.func18, Try.ntmps18
      go_wp2
      go_ret
      refine ⟨?_, rfl⟩
      show Ending.returned (Value.int .u64 ((a : Int) + 9223372036854775808)) = _
      congr 2
  · rw [if_pos rfl]
    rw [h] at hn
    go_enter Try.func18, Try.ntmps18
    go_wp2
    go_ret
    exact ⟨rfl, rfl⟩

theorem refKind_of (a : Nat) (w : World) (r : Nat) (n z : Bool) (hn : (FloatKind.f64.format.order a a != some .eq) = n) (hz : (FloatKind.f64.format.order a 0 == some .eq) = z)
    (h : (n = true ∧ r = 6) ∨ (n = false ∧ z = true ∧ 9223372036854775808 ≤ (a : Int) ∧ r = 2) ∨ (n = false ∧ z = true ∧ ¬ 9223372036854775808 ≤ (a : Int) ∧ r = 3) ∨
      (n = false ∧ z = false ∧ 9223372036854775808 ≤ (a : Int) ∧ (a : Int) = 18442240474082181120 ∧ r = 0) ∨ (n = false ∧ z = false ∧ 9223372036854775808 ≤ (a : Int) ∧ ¬ (a : Int) = 18442240474082181120 ∧ r = 1) ∨
      (n = false ∧ z = false ∧ ¬ 9223372036854775808 ≤ (a : Int) ∧ (a : Int) = 9218868437227405312 ∧ r = 5) ∨ (n = false ∧ z = false ∧ ¬ 9223372036854775808 ≤ (a : Int) ∧ ¬ (a : Int) = 9218868437227405312 ∧ r = 4)) :
    Calls Try.prog 15 #[.float .f64 a] w (Gives (.int .i64 (r : Nat)) w) := by
  have hb := bits_run a
  rcases h with ⟨rfl, rfl⟩ | ⟨rfl, rfl, h1, rfl⟩ | ⟨rfl, rfl, h1, rfl⟩ | ⟨rfl, rfl, h1, h2, rfl⟩ | ⟨rfl, rfl, h1, h2, rfl⟩ | ⟨rfl, rfl, h1, h2, rfl⟩ | ⟨rfl, rfl, h1, h2, rfl⟩
  all_goals
    go_enter Try.func15, Try.ntmps15
    go_wp2
    go_ret
    exact ⟨rfl, rfl⟩
theorem refKind_any (a : Nat) (ha : a < 2 ^ 64) (w : World) : Calls Try.prog 15 #[.float .f64 a] w (Gives (.int .i64 (kindN a : Nat)) w) := by
  refine refKind_of a w (kindN a) _ _ (ne_self ha) rfl ?_
  have hk := kinds a ha
  cases hnan : nanN a
  · rw [eq_num ha (show 0 < 2 ^ 64 by omega) hnan (by decide), show sval 0 = 0 by decide]
    rw [hnan] at hk
    simp only [Bool.false_eq_true, false_and, false_or, true_and] at hk ⊢
    rcases hk with ⟨ek, h1, _, hv⟩ | ⟨ek, h1, h2, _, hv⟩ | ⟨ek, h1, _, hv⟩ | ⟨ek, h1, _, hv⟩ | ⟨ek, h1, h2, _, hv⟩ | ⟨ek, h1, _, hv⟩
    · exact .inr (.inr (.inl ⟨decide_eq_false (by omega), by omega, by omega, ek⟩))
    · exact .inr (.inr (.inr (.inl ⟨decide_eq_false (by omega), by omega, by omega, ek⟩)))
    · exact .inl ⟨decide_eq_true (by omega), by omega, ek⟩
    · exact .inr (.inl ⟨decide_eq_true (by omega), by omega, ek⟩)
    · exact .inr (.inr (.inr (.inr (.inr ⟨decide_eq_false (by omega), by omega, by omega, ek⟩))))
    · exact .inr (.inr (.inr (.inr (.inl ⟨decide_eq_false (by omega), by omega, by omega, ek⟩))))
  · rw [hnan] at hk
    rcases hk with ⟨_, h, _⟩ | ⟨h, _⟩ | ⟨h, _⟩ | ⟨h, _⟩ | ⟨h, _⟩ | ⟨h, _⟩ | ⟨h, _⟩
    · exact .inl ⟨rfl, h⟩
    all_goals exact absurd h (by simp)

theorem refCompare_of (a b : Nat) (x y : Nat) (w : World) (r : Int) (k1 : ∀ w, Calls Try.prog 15 #[.float .f64 a] w (Gives (.int .i64 (x : Int)) w)) (k2 : ∀ w, Calls Try.prog 15 #[.float .f64 b] w (Gives (.int .i64 (y : Int)) w))
    (h : ((x : Int) < y ∧ r = -1) ∨ ((y : Int) < x ∧ r = 1) ∨ (x = y ∧ (x : Int) = 6 ∧ r = 0) ∨
      (x = y ∧ ¬ (x : Int) = 6 ∧ (FloatKind.f64.format.order a b == some .lt) = true ∧ r = -1) ∨ (x = y ∧ ¬ (x : Int) = 6 ∧ (FloatKind.f64.format.order a b == some .lt) = false ∧ (FloatKind.f64.format.order a b == some .gt) = true ∧ r = 1) ∨
      (x = y ∧ ¬ (x : Int) = 6 ∧ (FloatKind.f64.format.order a b == some .lt) = false ∧ (FloatKind.f64.format.order a b == some .gt) = false ∧ r = 0)) :
    Calls Try.prog 13 #[.float .f64 a, .float .f64 b] w (Gives (.int .i64 r) w) := by
  have K1 := Lib.hid k1
  have K2 := Lib.hid k2
  clear k1 k2
  rcases h with ⟨h1, rfl⟩ | ⟨h1, rfl⟩ | ⟨rfl, h1, rfl⟩ | ⟨rfl, h1, h2, rfl⟩ | ⟨rfl, h1, h2, h3, rfl⟩ | ⟨rfl, h1, h2, h3, rfl⟩
  · go_enter Try.func13, Try.ntmps13
    go_wp2_with fail
    refine (K1.out _).mono ?_
    rintro _ _ ⟨rfl, rfl⟩
    go_wp2_with fail
    refine (K2.out _).mono ?_
    rintro _ _ ⟨rfl, rfl⟩
    go_wp2
    go_ret
    exact ⟨rfl, rfl⟩
  · have h2 : ¬ (x : Int) < y := by omega
    have h3 : ¬ (x : Int) = y := by omega
    go_enter Try.func13, Try.ntmps13
    go_wp2_with fail
    refine (K1.out _).mono ?_
    rintro _ _ ⟨rfl, rfl⟩
    go_wp2_with fail
    refine (K2.out _).mono ?_
    rintro _ _ ⟨rfl, rfl⟩
    go_wp2
    go_ret
    exact ⟨rfl, rfl⟩
  all_goals
    go_enter Try.func13, Try.ntmps13
    go_wp2_with fail
    refine (K1.out _).mono ?_
    rintro _ _ ⟨rfl, rfl⟩
    go_wp2_with fail
    refine (K2.out _).mono ?_
    rintro _ _ ⟨rfl, rfl⟩
    go_wp2
    go_ret
    exact ⟨rfl, rfl⟩

theorem key_of_kind {a b : Nat} (ha : a < 2 ^ 64) (hb : b < 2 ^ 64) (h : kindN a < kindN b) : keyN a < keyN b := by
  rcases kinds a ha with ⟨_, h1, h2⟩ | ⟨_, h1, h2, h3, _⟩ | ⟨_, h1, h2, h3, h4, _⟩ | ⟨_, h1, h2, h3, _⟩ | ⟨_, h1, h2, h3, _⟩ | ⟨_, h1, h2, h3, h4, _⟩ | ⟨_, h1, h2, h3, _⟩ <;>
  rcases kinds b hb with ⟨_, g1, g2⟩ | ⟨_, g1, g2, g3, _⟩ | ⟨_, g1, g2, g3, g4, _⟩ | ⟨_, g1, g2, g3, _⟩ | ⟨_, g1, g2, g3, _⟩ | ⟨_, g1, g2, g3, g4, _⟩ | ⟨_, g1, g2, g3, _⟩ <;> omega
theorem key_in_kind {a b : Nat} (ha : a < 2 ^ 64) (hb : b < 2 ^ 64) (h : kindN a = kindN b) (h6 : kindN a ≠ 6) : nanN a = false ∧ nanN b = false ∧ (keyN a < keyN b ↔ sval a < sval b) ∧ (keyN b < keyN a ↔ sval b < sval a) := by
  rcases kinds a ha with ⟨n1, h1, h2⟩ | ⟨n1, h1, h2, h3, h4⟩ | ⟨n1, h1, h2, h3, h4, h5⟩ | ⟨n1, h1, h2, h3, h4⟩ | ⟨n1, h1, h2, h3, h4⟩ | ⟨n1, h1, h2, h3, h4, h5⟩ | ⟨n1, h1, h2, h3, h4⟩ <;>
  rcases kinds b hb with ⟨n2, g1, g2⟩ | ⟨n2, g1, g2, g3, g4⟩ | ⟨n2, g1, g2, g3, g4, g5⟩ | ⟨n2, g1, g2, g3, g4⟩ | ⟨n2, g1, g2, g3, g4⟩ | ⟨n2, g1, g2, g3, g4, g5⟩ | ⟨n2, g1, g2, g3, g4⟩ <;>
  first | (exfalso; omega) | exact ⟨n1, n2, by omega, by omega⟩
theorem key_six {a : Nat} (ha : a < 2 ^ 64) (h : kindN a = 6) : keyN a = 18446744073709551615 := by
  rcases kinds a ha with ⟨n1, h1, h2⟩ | ⟨n1, h1, h2, h3, h4⟩ | ⟨n1, h1, h2, h3, h4, h5⟩ | ⟨n1, h1, h2, h3, h4⟩ | ⟨n1, h1, h2, h3, h4⟩ | ⟨n1, h1, h2, h3, h4, h5⟩ | ⟨n1, h1, h2, h3, h4⟩ <;> omega

theorem cmpN_lt {a b : Nat} (h : keyN a < keyN b) : cmpN a b = -1 := by unfold cmpN cmpK; rw [if_pos h]
theorem cmpN_gt {a b : Nat} (h : keyN b < keyN a) : cmpN a b = 1 := by unfold cmpN cmpK; rw [if_neg (by omega), if_pos h]
theorem cmpN_eq {a b : Nat} (h : keyN a = keyN b) : cmpN a b = 0 := by unfold cmpN cmpK; rw [if_neg (by omega), if_neg (by omega)]

theorem refCompare_any (a b : Nat) (ha : a < 2 ^ 64) (hb : b < 2 ^ 64) (w : World) : Calls Try.prog 13 #[.float .f64 a, .float .f64 b] w (Gives (.int .i64 (cmpN a b)) w) := by
  refine refCompare_of a b (kindN a) (kindN b) w _ (refKind_any a ha) (refKind_any b hb) ?_
  rcases Nat.lt_trichotomy (kindN a) (kindN b) with h | h | h
  · exact .inl ⟨by omega, cmpN_lt (key_of_kind ha hb h)⟩
  · by_cases h6 : kindN a = 6
    · exact .inr (.inr (.inl ⟨h, by omega, cmpN_eq ((key_six ha h6).trans (key_six hb (by omega)).symm)⟩))
    · obtain ⟨n1, n2, e1, e2⟩ := key_in_kind ha hb h h6
      rw [lt_num ha hb n1 n2, gt_num ha hb n1 n2]
      rcases Nat.lt_trichotomy (keyN a) (keyN b) with g | g | g
      · exact .inr (.inr (.inr (.inl ⟨h, by omega, decide_eq_true (e1.1 g), cmpN_lt g⟩)))
      · exact .inr (.inr (.inr (.inr (.inr ⟨h, by omega, decide_eq_false (fun q => by have := e1.2 q; omega), decide_eq_false (fun q => by have := e2.2 q; omega), cmpN_eq g⟩))))
      · exact .inr (.inr (.inr (.inr (.inl ⟨h, by omega, decide_eq_false (fun q => by have := e1.2 q; omega), decide_eq_true (e2.1 g), cmpN_gt g⟩))))
  · exact .inr (.inl ⟨by omega, cmpN_gt (key_of_kind hb ha h)⟩)
end Go.Proofs.Ytbipkelocbkccaa
