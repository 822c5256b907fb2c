/-
  moment.Kind, moment.Of, the document's Kind, Compare and Key, and the document's examples, at any bits: each answers as a function of the bits; the world stays as it was.
-/
import Derived.Test.YtbipkelocbkccaaKey
namespace Go.Proofs.Ytbipkelocbkccaa
open Go.RowKit Go.Lib
set_option linter.unusedVariables false

theorem neg_bits {a : Nat} (ha : a < 2 ^ 64) : Op.negFloat .f64 a = if a < 9223372036854775808 then a + 9223372036854775808 else a - 9223372036854775808 := by
  have key : ∀ b : Nat, b < 2 ^ 63 → b ^^^ 2 ^ 63 = b + 2 ^ 63 := by
    intro b hb
    have h1 := Nat.two_pow_add_eq_or_of_lt hb 1
    rw [Nat.mul_one] at h1
    rw [Nat.add_comm, h1]
    apply Nat.eq_of_testBit_eq
    intro i
    rw [Nat.testBit_xor, Nat.testBit_or, Nat.testBit_two_pow]
    by_cases h : 63 = i
    · subst h
      rw [Nat.testBit_lt_two_pow hb]
      simp
    · simp [h]
  show a ^^^ 2 ^ 63 = _
  split
  · next h => exact key a h
  · next h =>
    have h2 := key (a - 2 ^ 63) (by omega)
    rw [Nat.sub_add_cancel (by omega)] at h2
    have h3 : (a - 2 ^ 63) ^^^ 2 ^ 63 ^^^ 2 ^ 63 = a ^^^ 2 ^ 63 := by rw [h2]
    rw [Nat.xor_assoc, Nat.xor_self, Nat.xor_zero] at h3
    rw [← h3]

theorem isInf_neg (a : Nat) (ha : a < 2 ^ 64) (hn : nanN a = false) (w : World) : Calls Try.prog 27 #[.float .f64 a, .int .i64 (-1)] w (Gives (.bool (decide (a = 18442240474082181120))) w) := by
  have e : (FloatKind.f64.format.order (Op.negFloat .f64 a) 9218868437227405311 == some .gt) = decide (a = 18442240474082181120) := by
    have hm := (nan_not a).1 hn
    have hnb := neg_bits ha
    rw [gt_num (by rw [hnb]; split <;> omega) (by omega) (by rw [nan_not, hnb]; split <;> omega) (by decide)]
    congr 1
    apply propext
    unfold sval
    rw [hnb]
    split <;> split <;> split <;> omega
  have e2 : ∀ b, Op.unary .neg (.float .f64 b) = pure (.float .f64 (Op.negFloat .f64 b)) := fun b => rfl
  go_enter Try.func27, Try.ntmps27
  go_wp2
  go_ret
  exact ⟨rfl, rfl⟩
theorem isInf_pos (a : Nat) (ha : a < 2 ^ 64) (hn : nanN a = false) (w : World) : Calls Try.prog 27 #[.float .f64 a, .int .i64 1] w (Gives (.bool (decide (a = 9218868437227405312))) w) := by
  have e : (FloatKind.f64.format.order a 9218868437227405311 == some .gt) = decide (a = 9218868437227405312) := by
    have hm := (nan_not a).1 hn
    rw [gt_num ha (by omega) hn (by decide)]
    congr 1
    apply propext
    unfold sval
    split <;> split <;> omega
  go_enter Try.func27, Try.ntmps27
  go_wp2
  go_ret
  exact ⟨rfl, rfl⟩

/-- The kinds, one by one, with what each says. -/
theorem kinds (a : Nat) (ha : a < 2 ^ 64) :
    (nanN a = true ∧ kindN a = 6 ∧ keyN a = 18446744073709551615) ∨
    (nanN a = false ∧ kindN a = 0 ∧ a = 18442240474082181120 ∧ keyN a = 4503599627370495 ∧ sval a = -9218868437227405312) ∨
    (nanN a = false ∧ kindN a = 1 ∧ 9223372036854775808 < a ∧ a < 18442240474082181120 ∧ keyN a = 18446744073709551615 - a ∧ sval a = 9223372036854775808 - (a : Int)) ∨
    (nanN a = false ∧ kindN a = 2 ∧ a = 9223372036854775808 ∧ keyN a = 9223372036854775807 ∧ sval a = 0) ∨
    (nanN a = false ∧ kindN a = 3 ∧ a = 0 ∧ keyN a = 9223372036854775808 ∧ sval a = 0) ∨
    (nanN a = false ∧ kindN a = 4 ∧ 0 < a ∧ a < 9218868437227405312 ∧ keyN a = a + 9223372036854775808 ∧ sval a = (a : Int)) ∨
    (nanN a = false ∧ kindN a = 5 ∧ a = 9218868437227405312 ∧ keyN a = 18442240474082181120 ∧ sval a = 9218868437227405312) := by
  cases h : nanN a
  · have hm := (nan_not a).1 h
    have hc : a = 18442240474082181120 ∨ (9223372036854775808 < a ∧ a < 18442240474082181120) ∨ a = 9223372036854775808 ∨ a = 0 ∨ (0 < a ∧ a < 9218868437227405312) ∨ a = 9218868437227405312 := by omega
    rcases hc with g | ⟨g, g'⟩ | g | g | ⟨g, g'⟩ | g
    · refine .inr (.inl ⟨rfl, ?_, g, ?_, ?_⟩)
      · unfold kindN; rw [h, if_neg (by simp), if_pos g]
      · unfold keyN; rw [h, if_neg (by simp), if_pos (by omega)]; omega
      · unfold sval; rw [if_neg (by omega)]; omega
    · refine .inr (.inr (.inl ⟨rfl, ?_, g, g', ?_, ?_⟩))
      · unfold kindN; rw [h, if_neg (by simp), if_neg (by omega), if_neg (by omega), if_pos g]
      · unfold keyN; rw [h, if_neg (by simp), if_pos (by omega)]
      · unfold sval; rw [if_neg (by omega)]; omega
    · refine .inr (.inr (.inr (.inl ⟨rfl, ?_, g, ?_, ?_⟩)))
      · unfold kindN; rw [h, if_neg (by simp), if_neg (by omega), if_neg (by omega), if_neg (by omega), if_pos g]
      · unfold keyN; rw [h, if_neg (by simp), if_pos (by omega)]; omega
      · unfold sval; rw [if_neg (by omega)]; omega
    · refine .inr (.inr (.inr (.inr (.inl ⟨rfl, ?_, g, ?_, ?_⟩))))
      · unfold kindN; rw [h, if_neg (by simp), if_neg (by omega), if_neg (by omega), if_neg (by omega), if_neg (by omega), if_pos g]
      · unfold keyN; rw [h, if_neg (by simp), if_neg (by omega)]; omega
      · unfold sval; rw [if_pos (by omega)]; omega
    · refine .inr (.inr (.inr (.inr (.inr (.inl ⟨rfl, ?_, g, g', ?_, ?_⟩)))))
      · unfold kindN; rw [h, if_neg (by simp), if_neg (by omega), if_neg (by omega), if_neg (by omega), if_neg (by omega), if_neg (by omega)]
      · unfold keyN; rw [h, if_neg (by simp), if_neg (by omega)]
      · unfold sval; rw [if_pos (by omega)]
    · refine .inr (.inr (.inr (.inr (.inr (.inr ⟨rfl, ?_, g, ?_, ?_⟩)))))
      · unfold kindN; rw [h, if_neg (by simp), if_neg (by omega), if_pos g]
      · unfold keyN; rw [h, if_neg (by simp), if_neg (by omega)]; omega
      · unfold sval; rw [if_pos (by omega)]; omega
  · exact .inl ⟨rfl, by unfold kindN; rw [h, if_pos rfl], by unfold keyN; rw [h, if_pos rfl]⟩

theorem kind_a (a : Nat) (w : World) (hn : ∀ w, Calls Try.prog 26 #[.float .f64 a] w (Gives (.bool false) w)) (hi1 : ∀ w, Calls Try.prog 27 #[.float .f64 a, .int .i64 (-1)] w (Gives (.bool true) w)) : Calls Try.prog 14 #[.float .f64 a] w (Gives (.int .i64 (0 : Nat)) w) := by
  have HN := Lib.hid hn
  clear hn
  have HI1 := Lib.hid hi1
  clear hi1
  go_enter Try.func14, Try.ntmps14
  go_wp2_with fail
  refine (HN.out _).mono ?_
  rintro _ _ ⟨rfl, rfl⟩
  go_wp2_with fail
  refine (HI1.out _).mono ?_
  rintro _ _ ⟨rfl, rfl⟩
  go_wp2
  go_ret
  exact ⟨rfl, rfl⟩
theorem kind_b (a : Nat) (w : World) (hn : ∀ w, Calls Try.prog 26 #[.float .f64 a] w (Gives (.bool false) w)) (hi1 : ∀ w, Calls Try.prog 27 #[.float .f64 a, .int .i64 (-1)] w (Gives (.bool false) w)) (hi2 : ∀ w, Calls Try.prog 27 #[.float .f64 a, .int .i64 1] w (Gives (.bool false) w)) (hl : (FloatKind.f64.format.order a 0 == some .lt) = true) : Calls Try.prog 14 #[.float .f64 a] w (Gives (.int .i64 (1 : Nat)) w) := by
  have HN := Lib.hid hn
  clear hn
  have HI1 := Lib.hid hi1
  clear hi1
  have HI2 := Lib.hid hi2
  clear hi2
  go_enter Try.func14, Try.ntmps14
  go_wp2_with fail
  refine (HN.out _).mono ?_
  rintro _ _ ⟨rfl, rfl⟩
  go_wp2_with fail
  refine (HI1.out _).mono ?_
  rintro _ _ ⟨rfl, rfl⟩
  go_wp2_with fail
  refine (HI2.out _).mono ?_
  rintro _ _ ⟨rfl, rfl⟩
  go_wp2
  go_ret
  exact ⟨rfl, rfl⟩
theorem kind_c (a : Nat) (w : World) (hn : ∀ w, Calls Try.prog 26 #[.float .f64 a] w (Gives (.bool false) w)) (hi1 : ∀ w, Calls Try.prog 27 #[.float .f64 a, .int .i64 (-1)] w (Gives (.bool false) w)) (hi2 : ∀ w, Calls Try.prog 27 #[.float .f64 a, .int .i64 1] w (Gives (.bool false) w)) (hl : (FloatKind.f64.format.order a 0 == some .lt) = false) (hg : (FloatKind.f64.format.order a 0 == some .gt) = false) (hs : ∀ w, Calls Try.prog 28 #[.float .f64 a] w (Gives (.bool true) w)) : Calls Try.prog 14 #[.float .f64 a] w (Gives (.int .i64 (2 : Nat)) w) := by
  have HN := Lib.hid hn
  clear hn
  have HI1 := Lib.hid hi1
  clear hi1
  have HI2 := Lib.hid hi2
  clear hi2
  have HS := Lib.hid hs
  clear hs
  go_enter Try.func14, Try.ntmps14
  go_wp2_with fail
  refine (HN.out _).mono ?_
  rintro _ _ ⟨rfl, rfl⟩
  go_wp2_with fail
  refine (HI1.out _).mono ?_
  rintro _ _ ⟨rfl, rfl⟩
  go_wp2_with fail
  refine (HI2.out _).mono ?_
  rintro _ _ ⟨rfl, rfl⟩
  go_wp2_with fail
  refine (HS.out _).mono ?_
  rintro _ _ ⟨rfl, rfl⟩
  go_wp2
  go_ret
  exact ⟨rfl, rfl⟩
theorem kind_d (a : Nat) (w : World) (hn : ∀ w, Calls Try.prog 26 #[.float .f64 a] w (Gives (.bool false) w)) (hi1 : ∀ w, Calls Try.prog 27 #[.float .f64 a, .int .i64 (-1)] w (Gives (.bool false) w)) (hi2 : ∀ w, Calls Try.prog 27 #[.float .f64 a, .int .i64 1] w (Gives (.bool false) w)) (hl : (FloatKind.f64.format.order a 0 == some .lt) = false) (hg : (FloatKind.f64.format.order a 0 == some .gt) = false) (hs : ∀ w, Calls Try.prog 28 #[.float .f64 a] w (Gives (.bool false) w)) : Calls Try.prog 14 #[.float .f64 a] w (Gives (.int .i64 (3 : Nat)) w) := by
  have HN := Lib.hid hn
  clear hn
  have HI1 := Lib.hid hi1
  clear hi1
  have HI2 := Lib.hid hi2
  clear hi2
  have HS := Lib.hid hs
  clear hs
  go_enter Try.func14, Try.ntmps14
  go_wp2_with fail
  refine (HN.out _).mono ?_
  rintro _ _ ⟨rfl, rfl⟩
  go_wp2_with fail
  refine (HI1.out _).mono ?_
  rintro _ _ ⟨rfl, rfl⟩
  go_wp2_with fail
  refine (HI2.out _).mono ?_
  rintro _ _ ⟨rfl, rfl⟩
  go_wp2_with fail
  refine (HS.out _).mono ?_
  rintro _ _ ⟨rfl, rfl⟩
  go_wp2
  go_ret
  exact ⟨rfl, rfl⟩
theorem kind_e (a : Nat) (w : World) (hn : ∀ w, Calls Try.prog 26 #[.float .f64 a] w (Gives (.bool false) w)) (hi1 : ∀ w, Calls Try.prog 27 #[.float .f64 a, .int .i64 (-1)] w (Gives (.bool false) w)) (hi2 : ∀ w, Calls Try.prog 27 #[.float .f64 a, .int .i64 1] w (Gives (.bool false) w)) (hl : (FloatKind.f64.format.order a 0 == some .lt) = false) (hg : (FloatKind.f64.format.order a 0 == some .gt) = true) : Calls Try.prog 14 #[.float .f64 a] w (Gives (.int .i64 (4 : Nat)) w) := by
  have HN := Lib.hid hn
  clear hn
  have HI1 := Lib.hid hi1
  clear hi1
  have HI2 := Lib.hid hi2
  clear hi2
  go_enter Try.func14, Try.ntmps14
  go_wp2_with fail
  refine (HN.out _).mono ?_
  rintro _ _ ⟨rfl, rfl⟩
  go_wp2_with fail
  refine (HI1.out _).mono ?_
  rintro _ _ ⟨rfl, rfl⟩
  go_wp2_with fail
  refine (HI2.out _).mono ?_
  rintro _ _ ⟨rfl, rfl⟩
  go_wp2
  go_ret
  exact ⟨rfl, rfl⟩
theorem kind_f (a : Nat) (w : World) (hn : ∀ w, Calls Try.prog 26 #[.float .f64 a] w (Gives (.bool false) w)) (hi1 : ∀ w, Calls Try.prog 27 #[.float .f64 a, .int .i64 (-1)] w (Gives (.bool false) w)) (hi2 : ∀ w, Calls Try.prog 27 #[.float .f64 a, .int .i64 1] w (Gives (.bool true) w)) : Calls Try.prog 14 #[.float .f64 a] w (Gives (.int .i64 (5 : Nat)) w) := by
  have HN := Lib.hid hn
  clear hn
  have HI1 := Lib.hid hi1
  clear hi1
  have HI2 := Lib.hid hi2
  clear hi2
  go_enter Try.func14, Try.ntmps14
  go_wp2_with fail
  refine (HN.out _).mono ?_
  rintro _ _ ⟨rfl, rfl⟩
  go_wp2_with fail
  refine (HI1.out _).mono ?_
  rintro _ _ ⟨rfl, rfl⟩
  go_wp2_with fail
  refine (HI2.out _).mono ?_
  rintro _ _ ⟨rfl, rfl⟩
  go_wp2
  go_ret
  exact ⟨rfl, rfl⟩
theorem kind_g (a : Nat) (w : World) (hn : ∀ w, Calls Try.prog 26 #[.float .f64 a] w (Gives (.bool true) w)) : Calls Try.prog 14 #[.float .f64 a] w (Gives (.int .i64 (6 : Nat)) w) := by
  have HN := Lib.hid hn
  clear hn
  go_enter Try.func14, Try.ntmps14
  go_wp2_with fail
  refine (HN.out _).mono ?_
  rintro _ _ ⟨rfl, rfl⟩
  go_wp2
  go_ret
  exact ⟨rfl, rfl⟩
theorem kind_run (a : Nat) (ha : a < 2 ^ 64) (w : World) : Calls Try.prog 14 #[.float .f64 a] w (Gives (.int .i64 (kindN a : Nat)) w) := by
  have hn := isNaN_any a ha
  have hs := signbit_any a ha
  have hk := kinds a ha
  cases hnan : nanN a
  · have hi1 := isInf_neg a ha hnan
    have hi2 := isInf_pos a ha hnan
    have hl := lt_num ha (show 0 < 2 ^ 64 by omega) hnan (by decide)
    have hg := gt_num ha (show 0 < 2 ^ 64 by omega) hnan (by decide)
    have z0 : sval 0 = 0 := by decide
    rw [z0] at hl hg
    rw [hnan] at hn hk
    simp only [Bool.false_eq_true, false_and, false_or, true_and] at hk
    rcases hk with ⟨ek, h1, _, hv⟩ | ⟨ek, h1, h2, _, hv⟩ | ⟨ek, h1, _, hv⟩ | ⟨ek, h1, _, hv⟩ | ⟨ek, h1, h2, _, hv⟩ | ⟨ek, h1, _, hv⟩
    · rw [decide_eq_true h1] at hi1
      rw [ek]
      exact kind_a a w hn hi1
    · rw [decide_eq_false (by omega)] at hi1 hi2
      rw [decide_eq_true (by omega)] at hl
      rw [ek]
      exact kind_b a w hn hi1 hi2 hl
    · rw [decide_eq_false (by omega)] at hi1 hi2
      rw [decide_eq_false (by omega)] at hl hg
      rw [decide_eq_true (by omega)] at hs
      rw [ek]
      exact kind_c a w hn hi1 hi2 hl hg hs
    · rw [decide_eq_false (by omega)] at hi1 hi2
      rw [decide_eq_false (by omega)] at hl hg
      rw [decide_eq_false (by omega)] at hs
      rw [ek]
      exact kind_d a w hn hi1 hi2 hl hg hs
    · rw [decide_eq_false (by omega)] at hi1 hi2
      rw [decide_eq_false (by omega)] at hl
      rw [decide_eq_true (by omega)] at hg
      rw [ek]
      exact kind_e a w hn hi1 hi2 hl hg
    · rw [decide_eq_false (by omega)] at hi1
      rw [decide_eq_true h1] at hi2
      rw [ek]
      exact kind_f a w hn hi1 hi2
  · rw [hnan] at hn hk
    obtain ⟨_, ek, _⟩ : true = true ∧ kindN a = 6 ∧ keyN a = 18446744073709551615 := by
      rcases hk with h | ⟨h, _⟩ | ⟨h, _⟩ | ⟨h, _⟩ | ⟨h, _⟩ | ⟨h, _⟩ | ⟨h, _⟩
      · exact h
      all_goals exact absurd h (by simp)
    rw [ek]
    exact kind_g a w hn
end Go.Proofs.Ytbipkelocbkccaa
