/-
  MomentCompares returns true for every input, and each argument reads afterwards as it read before. No condition.
-/
import Derived.Test.YtbipkelocbkccaaSmall
import Derived.Test.YtbipkelocbkccaaRows
import Derived.ProofKit
import Derived.OpenShut
namespace Go.Proofs.Ytbipkelocbkccaa
open Go.RowKit Go.Lib
set_option linter.unusedVariables false
theorem wcompares_a (a b k : Nat) (w : World)
    (a_h : ∀ w, Calls Try.prog 11 #[] w (Gives (.bool true) w))
    (c_h : ∀ w, Calls Try.prog 12 #[.float .f64 a, .float .f64 b] w (Gives (.int .i64 (-1)) w))
    (r_h : ∀ w, Calls Try.prog 13 #[.float .f64 a, .float .f64 b] w (Gives (.int .i64 (-1)) w))
    (d_h : ∀ w, Calls Try.prog 12 #[.float .f64 b, .float .f64 a] w (Gives (.int .i64 1) w))
    (k_h : ∀ w, Calls Try.prog 14 #[.float .f64 a] w (Gives (.int .i64 (k : Int)) w))
    (rk_h : ∀ w, Calls Try.prog 15 #[.float .f64 a] w (Gives (.int .i64 (k : Int)) w)) :
    Calls Try.prog 3 #[.int .u64 (a : Int), .int .u64 (b : Int)] w (Gives (.bool true) w) := by
  have A := Lib.hid a_h
  clear a_h
  have C := Lib.hid c_h
  clear c_h
  have R := Lib.hid r_h
  clear r_h
  have D := Lib.hid d_h
  clear d_h
  have K := Lib.hid k_h
  clear k_h
  have RK := Lib.hid rk_h
  clear rk_h
  have from_a := from_run a
  have from_b := from_run b
  go_enter Try.func3, Try.ntmps3
  go_wp2_with fail
  refine (A.out _).mono ?_
  rintro _ _ ⟨rfl, rfl⟩
  go_wp2_with fail
  refine (C.out _).mono ?_
  rintro _ _ ⟨rfl, rfl⟩
  go_wp2_with fail
  refine (R.out _).mono ?_
  rintro _ _ ⟨rfl, rfl⟩
  go_wp2_with fail
  refine (D.out _).mono ?_
  rintro _ _ ⟨rfl, rfl⟩
  go_wp2_with fail
  refine (C.out _).mono ?_
  rintro _ _ ⟨rfl, rfl⟩
  go_wp2_with fail
  refine (K.out _).mono ?_
  rintro _ _ ⟨rfl, rfl⟩
  go_wp2_with fail
  refine (RK.out _).mono ?_
  rintro _ _ ⟨rfl, rfl⟩
  go_wp2
  go_ret
  exact ⟨rfl, rfl⟩
theorem wcompares_b (a b k : Nat) (w : World)
    (a_h : ∀ w, Calls Try.prog 11 #[] w (Gives (.bool true) w))
    (c_h : ∀ w, Calls Try.prog 12 #[.float .f64 a, .float .f64 b] w (Gives (.int .i64 0) w))
    (r_h : ∀ w, Calls Try.prog 13 #[.float .f64 a, .float .f64 b] w (Gives (.int .i64 0) w))
    (d_h : ∀ w, Calls Try.prog 12 #[.float .f64 b, .float .f64 a] w (Gives (.int .i64 0) w))
    (k_h : ∀ w, Calls Try.prog 14 #[.float .f64 a] w (Gives (.int .i64 (k : Int)) w))
    (rk_h : ∀ w, Calls Try.prog 15 #[.float .f64 a] w (Gives (.int .i64 (k : Int)) w)) :
    Calls Try.prog 3 #[.int .u64 (a : Int), .int .u64 (b : Int)] w (Gives (.bool true) w) := by
  have A := Lib.hid a_h
  clear a_h
  have C := Lib.hid c_h
  clear c_h
  have R := Lib.hid r_h
  clear r_h
  have D := Lib.hid d_h
  clear d_h
  have K := Lib.hid k_h
  clear k_h
  have RK := Lib.hid rk_h
  clear rk_h
  have from_a := from_run a
  have from_b := from_run b
  go_enter Try.func3, Try.ntmps3
  go_wp2_with fail
  refine (A.out _).mono ?_
  rintro _ _ ⟨rfl, rfl⟩
  go_wp2_with fail
  refine (C.out _).mono ?_
  rintro _ _ ⟨rfl, rfl⟩
  go_wp2_with fail
  refine (R.out _).mono ?_
  rintro _ _ ⟨rfl, rfl⟩
  go_wp2_with fail
  refine (D.out _).mono ?_
  rintro _ _ ⟨rfl, rfl⟩
  go_wp2_with fail
  refine (C.out _).mono ?_
  rintro _ _ ⟨rfl, rfl⟩
  go_wp2_with fail
  refine (K.out _).mono ?_
  rintro _ _ ⟨rfl, rfl⟩
  go_wp2_with fail
  refine (RK.out _).mono ?_
  rintro _ _ ⟨rfl, rfl⟩
  go_wp2
  go_ret
  exact ⟨rfl, rfl⟩
theorem wcompares_c (a b k : Nat) (w : World)
    (a_h : ∀ w, Calls Try.prog 11 #[] w (Gives (.bool true) w))
    (c_h : ∀ w, Calls Try.prog 12 #[.float .f64 a, .float .f64 b] w (Gives (.int .i64 1) w))
    (r_h : ∀ w, Calls Try.prog 13 #[.float .f64 a, .float .f64 b] w (Gives (.int .i64 1) w))
    (d_h : ∀ w, Calls Try.prog 12 #[.float .f64 b, .float .f64 a] w (Gives (.int .i64 (-1)) w))
    (k_h : ∀ w, Calls Try.prog 14 #[.float .f64 a] w (Gives (.int .i64 (k : Int)) w))
    (rk_h : ∀ w, Calls Try.prog 15 #[.float .f64 a] w (Gives (.int .i64 (k : Int)) w)) :
    Calls Try.prog 3 #[.int .u64 (a : Int), .int .u64 (b : Int)] w (Gives (.bool true) w) := by
  have A := Lib.hid a_h
  clear a_h
  have C := Lib.hid c_h
  clear c_h
  have R := Lib.hid r_h
  clear r_h
  have D := Lib.hid d_h
  clear d_h
  have K := Lib.hid k_h
  clear k_h
  have RK := Lib.hid rk_h
  clear rk_h
  have from_a := from_run a
  have from_b := from_run b
  go_enter Try.func3, Try.ntmps3
  go_wp2_with fail
  refine (A.out _).mono ?_
  rintro _ _ ⟨rfl, rfl⟩
  go_wp2_with fail
  refine (C.out _).mono ?_
  rintro _ _ ⟨rfl, rfl⟩
  go_wp2_with fail
  refine (R.out _).mono ?_
  rintro _ _ ⟨rfl, rfl⟩
  go_wp2_with fail
  refine (D.out _).mono ?_
  rintro _ _ ⟨rfl, rfl⟩
  go_wp2_with fail
  refine (C.out _).mono ?_
  rintro _ _ ⟨rfl, rfl⟩
  go_wp2_with fail
  refine (K.out _).mono ?_
  rintro _ _ ⟨rfl, rfl⟩
  go_wp2_with fail
  refine (RK.out _).mono ?_
  rintro _ _ ⟨rfl, rfl⟩
  go_wp2
  go_ret
  exact ⟨rfl, rfl⟩
end Go.Proofs.Ytbipkelocbkccaa
namespace Go.Proofs.Ytbipkelocbkccaa.momentCompares
open Go.ChangeShapes Go.WideShapes Go.ChangeAt Go.RowKit
set_option linter.unusedVariables false

theorem own : ownKnob Try.prog.godebug = none := by kernel_rfl

theorem walk (a0 : Int) (a1 : Int) (w0 : (Lit.int .u64 a0).wf = true) (w1 : (Lit.int .u64 a1).wf = true) (w : World) :
    Calls Try.prog 3 #[.int .u64 a0, .int .u64 a1] w fun e w' => e = .returned (.bool true) ∧ Grown w w' := by
  obtain ⟨a, rfl, ha⟩ := u64_nat w0
  obtain ⟨b, rfl, hb⟩ := u64_nat w1
  refine gives_grown ?_
  have c1 := compare_any a b ha hb
  have c2 := compare_any b a hb ha
  have r1 := refCompare_any a b ha hb
  have k1 := kind_run a ha
  have k2 := refKind_any a ha
  rcases cmp_cases a b with ⟨h1, h2, _⟩ | ⟨h1, h2, _⟩ | ⟨h1, h2, _⟩
  · rw [h1] at c1 r1
    rw [h2] at c2
    exact wcompares_a a b _ w alive_run c1 r1 c2 k1 k2
  · rw [h1] at c1 r1
    rw [h2] at c2
    exact wcompares_b a b _ w alive_run c1 r1 c2 k1 k2
  · rw [h1] at c1 r1
    rw [h2] at c2
    exact wcompares_c a b _ w alive_run c1 r1 c2 k1 k2

set_option maxRecDepth 100000 in
theorem lifted (os : Os) (started : os.Started) (H : Type) (enc : TypeId × Value → H) :
    ReturnsInHanded {} Try.checked os 3 .any (Rows.momentComparesSpec.pre6 enc Try.prog Try.f3 Rows.momentComparesRow.domain false) (Rows.momentComparesSpec.post enc Try.prog Try.f3 false true false false) := by
  refine returnsInHanded_of_change (C := Try.checked) own started (by kernel_rfl) Try.func3
    (ChangeSpec.witness6 (enc := enc) (C := Try.checked) false ⟨#[], #[.int .u64 0, .int .u64 0], []⟩ 8 (by kernel_rfl) (by kernel_rfl) (by kernel_rfl) (by kernel_rfl)) ?_
  intro W base args ds gs before hval0 hW hcnd _
  have hval : ∀ (j : Nat) t v, Try.f3.params[j]? = some t → args[j]? = some v → Value.okWide Try.prog W .any base t v := hval0
  have hW' := hW
  obtain ⟨p, q, hA0, hV, rfl, hfz, hnd⟩ := hW
  have hA : DataW.TrodAll enc Try.prog W 0 (fun _ => true) true Try.f3.params.toList args.toList ds p := hA0
  rw [Try.params3] at hA hval
  obtain ⟨v0, vs0, d0, ds0, p0, q0, hargs, rfl, rfl, h0, r0⟩ := trodAll_cons hA
  obtain ⟨v1, vs1, d1, ds1, p1, q1, rfl, rfl, rfl, h1, r1⟩ := trodAll_cons r0
  obtain ⟨rfl, rfl, rfl⟩ := trodAll_nil r1
  obtain rfl : args = #[v0, v1] := by cases args; simp_all
  obtain ⟨rfl, rfl⟩ := trodVars_none hV
  obtain ⟨a0, rfl, rfl, rfl, w0⟩ := open_int Try.underlying22 (hval 0 22 v0 rfl rfl) h0
  obtain ⟨a1, rfl, rfl, rfl, w1⟩ := open_int Try.underlying22 (hval 1 22 v1 rfl rfl) h1
  clear hA0 hval0
  simp only [List.append_nil] at hW'
  refine (walk a0 a1 w0 w1 W).mono fun e W' ⟨he, hg⟩ => ?_
  subst he
  exact ⟨_, rfl, post_of_same (pa := []) (pv := []) hW' (fun _ _ _ => (trodAll_cons_mk (shut_bool Try.underlying4 _) trodAll_mk0)) (fun sp _ => (trodAll_cons_mk (shut_int Try.underlying22 w0) (trodAll_cons_mk (shut_int Try.underlying22 w1) trodAll_mk0))) (fun _ _ => rfl) rfl
    (hg.frame _) hg.2.1 (ok_one (by kernel_rfl) rfl (okWide_bool_mk Try.underlying4 _))⟩

theorem over : Rows.momentComparesRow.holds Try.pinned (OpenSpec.ofChange Rows.momentComparesSpec) :=
  OpenClaim.holds_of_wide 3 Try.f3 rfl rfl rfl rfl rfl rfl rfl ⟨rfl, rfl, rfl, rfl, rfl⟩ rfl rfl rfl rfl rfl (by kernel_rfl) Try.func3 (by kernel_rfl)
    (of_decide_eq_true (by kernel_rfl)) (by unfold Func.isWrapper; first | (rw [if_pos (by decide +kernel)]; kernel_rfl) | (rw [if_neg (by decide +kernel)]; exact ⟨rfl, rfl⟩))
    (fun os started H enc _ => lifted os started H enc)

theorem proved : Rows.MomentComparesSaid :=
  over
end Go.Proofs.Ytbipkelocbkccaa.momentCompares
namespace Go.Proofs.Ytbipkelocbkccaa
theorem momentCompares_proved : Rows.MomentComparesSaid := momentCompares.proved
end Go.Proofs.Ytbipkelocbkccaa
