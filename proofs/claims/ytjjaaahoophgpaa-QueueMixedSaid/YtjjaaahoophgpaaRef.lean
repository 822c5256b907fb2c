/-
  The document's Kind and Compare at any bits: each answers as a function of the bits; the world stays as it was.
-/
import Derived.Test.YtjjaaahoophgpaaKey
namespace Go.Proofs.Ytjjaaahoophgpaa
open Go.RowKit Go.Lib
set_option linter.unusedVariables false

theorem refKind_of (a : Nat) (w : World) (r : Nat) (n z : Bool) (hn : (FloatKind.f64.format.order a a != some .eq) = n) (hz : (FloatKind.f64.format.order a 0 == some .eq) = z)
    (h : (n = true ∧ r = 6) ∨ (n = false ∧ z = true ∧ 9223372036854775808 ≤ (a : Int) ∧ r = 2) ∨ (n = false ∧ z = true ∧ ¬ 9223372036854775808 ≤ (a : Int) ∧ r = 3) ∨
      (n = false ∧ z = false ∧ 9223372036854775808 ≤ (a : Int) ∧ (a : Int) = 18442240474082181120 ∧ r = 0) ∨ (n = false ∧ z = false ∧ 9223372036854775808 ≤ (a : Int) ∧ ¬ (a : Int) = 18442240474082181120 ∧ r = 1) ∨
      (n = false ∧ z = false ∧ ¬ 9223372036854775808 ≤ (a : Int) ∧ (a : Int) = 9218868437227405312 ∧ r = 5) ∨ (n = false ∧ z = false ∧ ¬ 9223372036854775808 ≤ (a : Int) ∧ ¬ (a : Int) = 9218868437227405312 ∧ r = 4)) :
    Calls Try.prog 32 #[.float .f64 a] w (Gives (.int .i64 (r : Nat)) w) := by
  have hb := bits_run a
  rcases h with ⟨rfl, rfl⟩ | ⟨rfl, rfl, h1, rfl⟩ | ⟨rfl, rfl, h1, rfl⟩ | ⟨rfl, rfl, h1, h2, rfl⟩ | ⟨rfl, rfl, h1, h2, rfl⟩ | ⟨rfl, rfl, h1, h2, rfl⟩ | ⟨rfl, rfl, h1, h2, rfl⟩
  all_goals
    go_enter Try.func32, Try.ntmps32
    go_wp2
    go_ret
    exact ⟨rfl, rfl⟩
theorem refKind_any (a : Nat) (ha : a < 2 ^ 64) (w : World) : Calls Try.prog 32 #[.float .f64 a] w (Gives (.int .i64 (kindN a : Nat)) w) := by
  refine refKind_of a w (kindN a) _ _ (ne_self ha) rfl ?_
  have hk := kinds a ha
  cases hnan : nanN a
  · rw [eq_num ha (show 0 < 2 ^ 64 by omega) hnan (by decide), show sval 0 = 0 by decide]
    rw [hnan] at hk
    simp only [Bool.false_eq_true, false_and, false_or, true_and] at hk ⊢
    rcases hk with ⟨ek, h1, _, hv⟩ | ⟨ek, h1, h2, _, hv⟩ | ⟨ek, h1, _, hv⟩ | ⟨ek, h1, _, hv⟩ | ⟨ek, h1, h2, _, hv⟩ | ⟨ek, h1, _, hv⟩
    · exact .inr (.inr (.inl ⟨decide_eq_false (by omega), by omega, by omega, ek⟩))
    · exact .inr (.inr (.inr (.inl ⟨decide_eq_false (by omega), by omega, by omega, ek⟩)))
    · exact .inl ⟨decide_eq_true (by omega), by omega, ek⟩
    · exact .inr (.inl ⟨decide_eq_true (by omega), by omega, ek⟩)
    · exact .inr (.inr (.inr (.inr (.inr ⟨decide_eq_false (by omega), by omega, by omega, ek⟩))))
    · exact .inr (.inr (.inr (.inr (.inl ⟨decide_eq_false (by omega), by omega, by omega, ek⟩))))
  · rw [hnan] at hk
    rcases hk with ⟨_, h, _⟩ | ⟨h, _⟩ | ⟨h, _⟩ | ⟨h, _⟩ | ⟨h, _⟩ | ⟨h, _⟩ | ⟨h, _⟩
    · exact .inl ⟨rfl, h⟩
    all_goals exact absurd h (by simp)

theorem refCompare_of (a b : Nat) (x y : Nat) (w : World) (r : Int) (k1 : ∀ w, Calls Try.prog 32 #[.float .f64 a] w (Gives (.int .i64 (x : Int)) w)) (k2 : ∀ w, Calls Try.prog 32 #[.float .f64 b] w (Gives (.int .i64 (y : Int)) w))
    (h : ((x : Int) < y ∧ r = -1) ∨ ((y : Int) < x ∧ r = 1) ∨ (x = y ∧ (x : Int) = 6 ∧ r = 0) ∨
      (x = y ∧ ¬ (x : Int) = 6 ∧ (FloatKind.f64.format.order a b == some .lt) = true ∧ r = -1) ∨ (x = y ∧ ¬ (x : Int) = 6 ∧ (FloatKind.f64.format.order a b == some .lt) = false ∧ (FloatKind.f64.format.order a b == some .gt) = true ∧ r = 1) ∨
      (x = y ∧ ¬ (x : Int) = 6 ∧ (FloatKind.f64.format.order a b == some .lt) = false ∧ (FloatKind.f64.format.order a b == some .gt) = false ∧ r = 0)) :
    Calls Try.prog 26 #[.float .f64 a, .float .f64 b] w (Gives (.int .i64 r) w) := by
  have K1 := Lib.hid k1
  have K2 := Lib.hid k2
  clear k1 k2
  rcases h with ⟨h1, rfl⟩ | ⟨h1, rfl⟩ | ⟨rfl, h1, rfl⟩ | ⟨rfl, h1, h2, rfl⟩ | ⟨rfl, h1, h2, h3, rfl⟩ | ⟨rfl, h1, h2, h3, rfl⟩
  · go_enter Try.func26, Try.ntmps26
    go_wp2_with fail
    refine (K1.out _).mono ?_
    rintro _ _ ⟨rfl, rfl⟩
    go_wp2_with fail
    refine (K2.out _).mono ?_
    rintro _ _ ⟨rfl, rfl⟩
    go_wp2
    go_ret
    exact ⟨rfl, rfl⟩
  · have h2 : ¬ (x : Int) < y := by omega
    have h3 : ¬ (x : Int) = y := by omega
    go_enter Try.func26, Try.ntmps26
    go_wp2_with fail
    refine (K1.out _).mono ?_
    rintro _ _ ⟨rfl, rfl⟩
    go_wp2_with fail
    refine (K2.out _).mono ?_
    rintro _ _ ⟨rfl, rfl⟩
    go_wp2
    go_ret
    exact ⟨rfl, rfl⟩
  all_goals
    go_enter Try.func26, Try.ntmps26
    go_wp2_with fail
    refine (K1.out _).mono ?_
    rintro _ _ ⟨rfl, rfl⟩
    go_wp2_with fail
    refine (K2.out _).mono ?_
    rintro _ _ ⟨rfl, rfl⟩
    go_wp2
    go_ret
    exact ⟨rfl, rfl⟩

theorem refCompare_any (a b : Nat) (ha : a < 2 ^ 64) (hb : b < 2 ^ 64) (w : World) : Calls Try.prog 26 #[.float .f64 a, .float .f64 b] w (Gives (.int .i64 (cmpN a b)) w) := by
  refine refCompare_of a b (kindN a) (kindN b) w _ (refKind_any a ha) (refKind_any b hb) ?_
  rcases Nat.lt_trichotomy (kindN a) (kindN b) with h | h | h
  · exact .inl ⟨by omega, cmpN_lt (key_of_kind ha hb h)⟩
  · by_cases h6 : kindN a = 6
    · exact .inr (.inr (.inl ⟨h, by omega, cmpN_eq ((key_six ha h6).trans (key_six hb (by omega)).symm)⟩))
    · obtain ⟨n1, n2, e1, e2⟩ := key_in_kind ha hb h h6
      rw [lt_num ha hb n1 n2, gt_num ha hb n1 n2]
      rcases Nat.lt_trichotomy (keyN a) (keyN b) with g | g | g
      · exact .inr (.inr (.inr (.inl ⟨h, by omega, decide_eq_true (e1.1 g), cmpN_lt g⟩)))
      · exact .inr (.inr (.inr (.inr (.inr ⟨h, by omega, decide_eq_false (fun q => by have := e1.2 q; omega), decide_eq_false (fun q => by have := e2.2 q; omega), cmpN_eq g⟩))))
      · exact .inr (.inr (.inr (.inr (.inl ⟨h, by omega, decide_eq_false (fun q => by have := e1.2 q; omega), decide_eq_true (e2.1 g), cmpN_gt g⟩))))
  · exact .inr (.inl ⟨by omega, cmpN_gt (key_of_kind hb ha h)⟩)
end Go.Proofs.Ytjjaaahoophgpaa
