/-
  MomentKinds returns true for every input, and each argument reads afterwards as it read before. No condition.
-/
import Derived.Test.YtbipkelocbkccaaSmall
import Derived.Test.YtbipkelocbkccaaRows
import Derived.ProofKit
import Derived.OpenShut
namespace Go.Proofs.Ytbipkelocbkccaa
open Go.RowKit Go.Lib
set_option linter.unusedVariables false
theorem kind_le (a : Nat) : kindN a ≤ 6 := by
  unfold kindN
  (repeat' split) <;> omega
theorem key_one {a b : Nat} (ha : a < 2 ^ 64) (hb : b < 2 ^ 64) (h : kindN a = kindN b) (h1 : kindN a ≠ 1) (h4 : kindN a ≠ 4) : keyN a = keyN b := by
  rcases kinds a ha with ⟨n1, k1, k2⟩ | ⟨n1, k1, k2, k3, k4⟩ | ⟨n1, k1, k2, k3, k4, k5⟩ | ⟨n1, k1, k2, k3, k4⟩ | ⟨n1, k1, k2, k3, k4⟩ | ⟨n1, k1, k2, k3, k4, k5⟩ | ⟨n1, k1, k2, k3, k4⟩ <;>
  rcases kinds b hb with ⟨n2, g1, g2⟩ | ⟨n2, g1, g2, g3, g4⟩ | ⟨n2, g1, g2, g3, g4, g5⟩ | ⟨n2, g1, g2, g3, g4⟩ | ⟨n2, g1, g2, g3, g4⟩ | ⟨n2, g1, g2, g3, g4, g5⟩ | ⟨n2, g1, g2, g3, g4⟩ <;> omega
theorem wkinds_a (a b k n : Nat) (w : World)
    (a_h : ∀ w, Calls Try.prog 11 #[] w (Gives (.bool true) w))
    (c_h : ∀ w, Calls Try.prog 12 #[.float .f64 a, .float .f64 b] w (Gives (.int .i64 (-1)) w))
    (k1_h : ∀ w, Calls Try.prog 14 #[.float .f64 a] w (Gives (.int .i64 (k : Int)) w))
    (k2_h : ∀ w, Calls Try.prog 14 #[.float .f64 b] w (Gives (.int .i64 (n : Int)) w))
    (r1 : ¬ (k : Int) < 0)
    (r2 : ¬ 6 < (k : Int))
    (r3 : ¬ (n : Int) < 0)
    (r4 : ¬ 6 < (n : Int))
    (s1 : decide ((k : Int) < 0) = false)
    (s2 : decide ((k : Int) > 6) = false)
    (s3 : decide ((n : Int) < 0) = false)
    (s4 : decide ((n : Int) > 6) = false)
    (g1 : (k : Int) < n) :
    Calls Try.prog 9 #[.int .u64 (a : Int), .int .u64 (b : Int)] w (Gives (.bool true) w) := by
  have A := Lib.hid a_h
  clear a_h
  have C := Lib.hid c_h
  clear c_h
  have K1 := Lib.hid k1_h
  clear k1_h
  have K2 := Lib.hid k2_h
  clear k2_h
  have from_a := from_run a
  have from_b := from_run b
  go_enter Try.func9, Try.ntmps9
  go_wp2_with fail
  refine (K1.out _).mono ?_
  rintro _ _ ⟨rfl, rfl⟩
  go_wp2_with fail
  refine (K2.out _).mono ?_
  rintro _ _ ⟨rfl, rfl⟩
  go_wp2_with fail
  refine (A.out _).mono ?_
  rintro _ _ ⟨rfl, rfl⟩
  go_wp2_with fail
  refine (C.out _).mono ?_
  rintro _ _ ⟨rfl, rfl⟩
  go_wp2
  go_ret
  exact ⟨rfl, rfl⟩
theorem wkinds_b (a b k n : Nat) (w : World)
    (a_h : ∀ w, Calls Try.prog 11 #[] w (Gives (.bool true) w))
    (c_h : ∀ w, Calls Try.prog 12 #[.float .f64 a, .float .f64 b] w (Gives (.int .i64 0) w))
    (k1_h : ∀ w, Calls Try.prog 14 #[.float .f64 a] w (Gives (.int .i64 (k : Int)) w))
    (k2_h : ∀ w, Calls Try.prog 14 #[.float .f64 b] w (Gives (.int .i64 (k : Int)) w))
    (r1 : ¬ (k : Int) < 0)
    (r2 : ¬ 6 < (k : Int))
    (s1 : decide ((k : Int) < 0) = false)
    (s2 : decide ((k : Int) > 6) = false)
    (g3 : ((k : Int) != 1) = true)
    (g4 : ((k : Int) != 4) = true) :
    Calls Try.prog 9 #[.int .u64 (a : Int), .int .u64 (b : Int)] w (Gives (.bool true) w) := by
  have A := Lib.hid a_h
  clear a_h
  have C := Lib.hid c_h
  clear c_h
  have K1 := Lib.hid k1_h
  clear k1_h
  have K2 := Lib.hid k2_h
  clear k2_h
  have from_a := from_run a
  have from_b := from_run b
  go_enter Try.func9, Try.ntmps9
  go_wp2_with fail
  refine (K1.out _).mono ?_
  rintro _ _ ⟨rfl, rfl⟩
  go_wp2_with fail
  refine (K2.out _).mono ?_
  rintro _ _ ⟨rfl, rfl⟩
  go_wp2_with fail
  refine (A.out _).mono ?_
  rintro _ _ ⟨rfl, rfl⟩
  go_wp2_with fail
  refine (C.out _).mono ?_
  rintro _ _ ⟨rfl, rfl⟩
  go_wp2
  go_ret
  exact ⟨rfl, rfl⟩
theorem wkinds_c (a b k n : Nat) (w : World)
    (a_h : ∀ w, Calls Try.prog 11 #[] w (Gives (.bool true) w))
    (k1_h : ∀ w, Calls Try.prog 14 #[.float .f64 a] w (Gives (.int .i64 1) w))
    (k2_h : ∀ w, Calls Try.prog 14 #[.float .f64 b] w (Gives (.int .i64 1) w)) :
    Calls Try.prog 9 #[.int .u64 (a : Int), .int .u64 (b : Int)] w (Gives (.bool true) w) := by
  have A := Lib.hid a_h
  clear a_h
  have K1 := Lib.hid k1_h
  clear k1_h
  have K2 := Lib.hid k2_h
  clear k2_h
  have from_a := from_run a
  have from_b := from_run b
  go_enter Try.func9, Try.ntmps9
  go_wp2_with fail
  refine (K1.out _).mono ?_
  rintro _ _ ⟨rfl, rfl⟩
  go_wp2_with fail
  refine (K2.out _).mono ?_
  rintro _ _ ⟨rfl, rfl⟩
  go_wp2_with fail
  refine (A.out _).mono ?_
  rintro _ _ ⟨rfl, rfl⟩
  go_wp2
  go_ret
  exact ⟨rfl, rfl⟩
theorem wkinds_d (a b k n : Nat) (w : World)
    (a_h : ∀ w, Calls Try.prog 11 #[] w (Gives (.bool true) w))
    (k1_h : ∀ w, Calls Try.prog 14 #[.float .f64 a] w (Gives (.int .i64 4) w))
    (k2_h : ∀ w, Calls Try.prog 14 #[.float .f64 b] w (Gives (.int .i64 4) w)) :
    Calls Try.prog 9 #[.int .u64 (a : Int), .int .u64 (b : Int)] w (Gives (.bool true) w) := by
  have A := Lib.hid a_h
  clear a_h
  have K1 := Lib.hid k1_h
  clear k1_h
  have K2 := Lib.hid k2_h
  clear k2_h
  have from_a := from_run a
  have from_b := from_run b
  go_enter Try.func9, Try.ntmps9
  go_wp2_with fail
  refine (K1.out _).mono ?_
  rintro _ _ ⟨rfl, rfl⟩
  go_wp2_with fail
  refine (K2.out _).mono ?_
  rintro _ _ ⟨rfl, rfl⟩
  go_wp2_with fail
  refine (A.out _).mono ?_
  rintro _ _ ⟨rfl, rfl⟩
  go_wp2
  go_ret
  exact ⟨rfl, rfl⟩
theorem wkinds_e (a b k n : Nat) (w : World)
    (a_h : ∀ w, Calls Try.prog 11 #[] w (Gives (.bool true) w))
    (k1_h : ∀ w, Calls Try.prog 14 #[.float .f64 a] w (Gives (.int .i64 (k : Int)) w))
    (k2_h : ∀ w, Calls Try.prog 14 #[.float .f64 b] w (Gives (.int .i64 (n : Int)) w))
    (r1 : ¬ (k : Int) < 0)
    (r2 : ¬ 6 < (k : Int))
    (r3 : ¬ (n : Int) < 0)
    (r4 : ¬ 6 < (n : Int))
    (s1 : decide ((k : Int) < 0) = false)
    (s2 : decide ((k : Int) > 6) = false)
    (s3 : decide ((n : Int) < 0) = false)
    (s4 : decide ((n : Int) > 6) = false)
    (g1 : ¬ (k : Int) < n)
    (g2 : ¬ (k : Int) = n) :
    Calls Try.prog 9 #[.int .u64 (a : Int), .int .u64 (b : Int)] w (Gives (.bool true) w) := by
  have A := Lib.hid a_h
  clear a_h
  have K1 := Lib.hid k1_h
  clear k1_h
  have K2 := Lib.hid k2_h
  clear k2_h
  have from_a := from_run a
  have from_b := from_run b
  go_enter Try.func9, Try.ntmps9
  go_wp2_with fail
  refine (K1.out _).mono ?_
  rintro _ _ ⟨rfl, rfl⟩
  go_wp2_with fail
  refine (K2.out _).mono ?_
  rintro _ _ ⟨rfl, rfl⟩
  go_wp2_with fail
  refine (A.out _).mono ?_
  rintro _ _ ⟨rfl, rfl⟩
  go_wp2
  go_ret
  exact ⟨rfl, rfl⟩
end Go.Proofs.Ytbipkelocbkccaa
namespace Go.Proofs.Ytbipkelocbkccaa.momentKinds
open Go.ChangeShapes Go.WideShapes Go.ChangeAt Go.RowKit
set_option linter.unusedVariables false

theorem own : ownKnob Try.prog.godebug = none := by kernel_rfl

theorem walk (a0 : Int) (a1 : Int) (w0 : (Lit.int .u64 a0).wf = true) (w1 : (Lit.int .u64 a1).wf = true) (w : World) :
    Calls Try.prog 9 #[.int .u64 a0, .int .u64 a1] w fun e w' => e = .returned (.bool true) ∧ Grown w w' := by
  obtain ⟨a, rfl, ha⟩ := u64_nat w0
  obtain ⟨b, rfl, hb⟩ := u64_nat w1
  refine gives_grown ?_
  have c := compare_any a b ha hb
  have k1 := kind_run a ha
  have k2 := kind_run b hb
  have l1 := kind_le a
  have l2 := kind_le b
  have z1 := fun (h : kindN a < kindN b) => cmpN_lt (key_of_kind ha hb h)
  have z2 := fun (h : kindN a = kindN b) (h1 : kindN a ≠ 1) (h4 : kindN a ≠ 4) => cmpN_eq (key_one ha hb h h1 h4)
  generalize kindN a = k at *
  generalize kindN b = n at *
  rcases Nat.lt_trichotomy k n with h | h | h
  · rw [z1 h] at c
    exact wkinds_a a b k n w alive_run c k1 k2 (by omega) (by omega) (by omega) (by omega) (decide_eq_false (by omega)) (decide_eq_false (by omega)) (decide_eq_false (by omega)) (decide_eq_false (by omega)) (by omega)
  · subst h
    by_cases h1 : k = 1
    · subst h1
      exact wkinds_c a b 0 0 w alive_run k1 k2
    · by_cases h4 : k = 4
      · subst h4
        exact wkinds_d a b 0 0 w alive_run k1 k2
      · rw [z2 rfl h1 h4] at c
        exact wkinds_b a b k 0 w alive_run c k1 k2 (by omega) (by omega) (decide_eq_false (by omega)) (decide_eq_false (by omega)) (bne_iff_ne.2 (by omega)) (bne_iff_ne.2 (by omega))
  · exact wkinds_e a b k n w alive_run k1 k2 (by omega) (by omega) (by omega) (by omega) (decide_eq_false (by omega)) (decide_eq_false (by omega)) (decide_eq_false (by omega)) (decide_eq_false (by omega)) (by omega) (by omega)

set_option maxRecDepth 100000 in
theorem lifted (os : Os) (started : os.Started) (H : Type) (enc : TypeId × Value → H) :
    ReturnsInHanded {} Try.checked os 9 .any (Rows.momentKindsSpec.pre6 enc Try.prog Try.f9 Rows.momentKindsRow.domain false) (Rows.momentKindsSpec.post enc Try.prog Try.f9 false true false false) := by
  refine returnsInHanded_of_change (C := Try.checked) own started (by kernel_rfl) Try.func9
    (ChangeSpec.witness6 (enc := enc) (C := Try.checked) false ⟨#[], #[.int .u64 0, .int .u64 0], []⟩ 8 (by kernel_rfl) (by kernel_rfl) (by kernel_rfl) (by kernel_rfl)) ?_
  intro W base args ds gs before hval0 hW hcnd _
  have hval : ∀ (j : Nat) t v, Try.f9.params[j]? = some t → args[j]? = some v → Value.okWide Try.prog W .any base t v := hval0
  have hW' := hW
  obtain ⟨p, q, hA0, hV, rfl, hfz, hnd⟩ := hW
  have hA : DataW.TrodAll enc Try.prog W 0 (fun _ => true) true Try.f9.params.toList args.toList ds p := hA0
  rw [Try.params9] at hA hval
  obtain ⟨v0, vs0, d0, ds0, p0, q0, hargs, rfl, rfl, h0, r0⟩ := trodAll_cons hA
  obtain ⟨v1, vs1, d1, ds1, p1, q1, rfl, rfl, rfl, h1, r1⟩ := trodAll_cons r0
  obtain ⟨rfl, rfl, rfl⟩ := trodAll_nil r1
  obtain rfl : args = #[v0, v1] := by cases args; simp_all
  obtain ⟨rfl, rfl⟩ := trodVars_none hV
  obtain ⟨a0, rfl, rfl, rfl, w0⟩ := open_int Try.underlying22 (hval 0 22 v0 rfl rfl) h0
  obtain ⟨a1, rfl, rfl, rfl, w1⟩ := open_int Try.underlying22 (hval 1 22 v1 rfl rfl) h1
  clear hA0 hval0
  simp only [List.append_nil] at hW'
  refine (walk a0 a1 w0 w1 W).mono fun e W' ⟨he, hg⟩ => ?_
  subst he
  exact ⟨_, rfl, post_of_same (pa := []) (pv := []) hW' (fun _ _ _ => (trodAll_cons_mk (shut_bool Try.underlying4 _) trodAll_mk0)) (fun sp _ => (trodAll_cons_mk (shut_int Try.underlying22 w0) (trodAll_cons_mk (shut_int Try.underlying22 w1) trodAll_mk0))) (fun _ _ => rfl) rfl
    (hg.frame _) hg.2.1 (ok_one (by kernel_rfl) rfl (okWide_bool_mk Try.underlying4 _))⟩

theorem over : Rows.momentKindsRow.holds Try.pinned (OpenSpec.ofChange Rows.momentKindsSpec) :=
  OpenClaim.holds_of_wide 9 Try.f9 rfl rfl rfl rfl rfl rfl rfl ⟨rfl, rfl, rfl, rfl, rfl⟩ rfl rfl rfl rfl rfl (by kernel_rfl) Try.func9 (by kernel_rfl)
    (of_decide_eq_true (by kernel_rfl)) (by unfold Func.isWrapper; first | (rw [if_pos (by decide +kernel)]; kernel_rfl) | (rw [if_neg (by decide +kernel)]; exact ⟨rfl, rfl⟩))
    (fun os started H enc _ => lifted os started H enc)

theorem proved : Rows.MomentKindsSaid :=
  over
end Go.Proofs.Ytbipkelocbkccaa.momentKinds
namespace Go.Proofs.Ytbipkelocbkccaa
theorem momentKinds_proved : Rows.MomentKindsSaid := momentKinds.proved
end Go.Proofs.Ytbipkelocbkccaa
