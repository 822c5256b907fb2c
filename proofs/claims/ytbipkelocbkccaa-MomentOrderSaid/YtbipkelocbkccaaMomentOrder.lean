/-
  MomentOrder returns true for every input, and each argument reads afterwards as it read before. No condition.
-/
import Derived.Test.YtbipkelocbkccaaSmall
import Derived.Test.YtbipkelocbkccaaRows
import Derived.ProofKit
import Derived.OpenShut
namespace Go.Proofs.Ytbipkelocbkccaa
open Go.RowKit Go.Lib
set_option linter.unusedVariables false
theorem worder_a (a b c x y : Nat) (p q : Int) (w : World)
    (a_h : ∀ w, Calls Try.prog 11 #[] w (Gives (.bool true) w))
    (xy_h : ∀ w, Calls Try.prog 12 #[.float .f64 a, .float .f64 b] w (Gives (.int .i64 1) w))
    (xx_h : ∀ w, Calls Try.prog 12 #[.float .f64 a, .float .f64 a] w (Gives (.int .i64 0) w))
    (kx_h : ∀ w, Calls Try.prog 17 #[.float .f64 a] w (Gives (.int .u64 (x : Int)) w))
    (ky_h : ∀ w, Calls Try.prog 17 #[.float .f64 b] w (Gives (.int .u64 (y : Int)) w))
    (g1 : ¬ (x : Int) < (y : Int))
    (g2 : (y : Int) < (x : Int)) :
    Calls Try.prog 6 #[.int .u64 (a : Int), .int .u64 (b : Int), .int .u64 (c : Int)] w (Gives (.bool true) w) := by
  have A := Lib.hid a_h
  clear a_h
  have XY := Lib.hid xy_h
  clear xy_h
  have XX := Lib.hid xx_h
  clear xx_h
  have KX := Lib.hid kx_h
  clear kx_h
  have KY := Lib.hid ky_h
  clear ky_h
  have from_a := from_run a
  have from_b := from_run b
  have from_c := from_run c
  go_enter Try.func6, Try.ntmps6
  go_wp2_with fail
  refine (XY.out _).mono ?_
  rintro _ _ ⟨rfl, rfl⟩
  go_wp2_with fail
  refine (KX.out _).mono ?_
  rintro _ _ ⟨rfl, rfl⟩
  go_wp2_with fail
  refine (KY.out _).mono ?_
  rintro _ _ ⟨rfl, rfl⟩
  go_wp2_with fail
  refine (A.out _).mono ?_
  rintro _ _ ⟨rfl, rfl⟩
  go_wp2_with fail
  refine (XY.out _).mono ?_
  rintro _ _ ⟨rfl, rfl⟩
  go_wp2_with fail
  refine (XX.out _).mono ?_
  rintro _ _ ⟨rfl, rfl⟩
  go_wp2
  go_ret
  exact ⟨rfl, rfl⟩
theorem worder_b (a b c x y : Nat) (p q : Int) (w : World)
    (a_h : ∀ w, Calls Try.prog 11 #[] w (Gives (.bool true) w))
    (xy_h : ∀ w, Calls Try.prog 12 #[.float .f64 a, .float .f64 b] w (Gives (.int .i64 0) w))
    (yz_h : ∀ w, Calls Try.prog 12 #[.float .f64 b, .float .f64 c] w (Gives (.int .i64 p) w))
    (xx_h : ∀ w, Calls Try.prog 12 #[.float .f64 a, .float .f64 a] w (Gives (.int .i64 0) w))
    (kx_h : ∀ w, Calls Try.prog 17 #[.float .f64 a] w (Gives (.int .u64 (x : Int)) w))
    (ky_h : ∀ w, Calls Try.prog 17 #[.float .f64 b] w (Gives (.int .u64 (y : Int)) w))
    (d1 : decide (p ≤ 0) = false)
    (d2 : ¬ p ≤ 0)
    (g1 : ¬ (x : Int) < (y : Int))
    (g2 : ¬ (y : Int) < (x : Int)) :
    Calls Try.prog 6 #[.int .u64 (a : Int), .int .u64 (b : Int), .int .u64 (c : Int)] w (Gives (.bool true) w) := by
  have A := Lib.hid a_h
  clear a_h
  have XY := Lib.hid xy_h
  clear xy_h
  have YZ := Lib.hid yz_h
  clear yz_h
  have XX := Lib.hid xx_h
  clear xx_h
  have KX := Lib.hid kx_h
  clear kx_h
  have KY := Lib.hid ky_h
  clear ky_h
  have from_a := from_run a
  have from_b := from_run b
  have from_c := from_run c
  go_enter Try.func6, Try.ntmps6
  go_wp2_with fail
  refine (XY.out _).mono ?_
  rintro _ _ ⟨rfl, rfl⟩
  go_wp2_with fail
  refine (YZ.out _).mono ?_
  rintro _ _ ⟨rfl, rfl⟩
  go_wp2_with fail
  refine (KX.out _).mono ?_
  rintro _ _ ⟨rfl, rfl⟩
  go_wp2_with fail
  refine (KY.out _).mono ?_
  rintro _ _ ⟨rfl, rfl⟩
  go_wp2_with fail
  refine (A.out _).mono ?_
  rintro _ _ ⟨rfl, rfl⟩
  go_wp2_with fail
  refine (XY.out _).mono ?_
  rintro _ _ ⟨rfl, rfl⟩
  go_wp2_with fail
  refine (XX.out _).mono ?_
  rintro _ _ ⟨rfl, rfl⟩
  go_wp2
  go_ret
  exact ⟨rfl, rfl⟩
theorem worder_c (a b c x y : Nat) (p q : Int) (w : World)
    (a_h : ∀ w, Calls Try.prog 11 #[] w (Gives (.bool true) w))
    (xy_h : ∀ w, Calls Try.prog 12 #[.float .f64 a, .float .f64 b] w (Gives (.int .i64 (-1)) w))
    (yz_h : ∀ w, Calls Try.prog 12 #[.float .f64 b, .float .f64 c] w (Gives (.int .i64 p) w))
    (xx_h : ∀ w, Calls Try.prog 12 #[.float .f64 a, .float .f64 a] w (Gives (.int .i64 0) w))
    (kx_h : ∀ w, Calls Try.prog 17 #[.float .f64 a] w (Gives (.int .u64 (x : Int)) w))
    (ky_h : ∀ w, Calls Try.prog 17 #[.float .f64 b] w (Gives (.int .u64 (y : Int)) w))
    (d1 : decide (p ≤ 0) = false)
    (d2 : ¬ p ≤ 0)
    (g1 : (x : Int) < (y : Int)) :
    Calls Try.prog 6 #[.int .u64 (a : Int), .int .u64 (b : Int), .int .u64 (c : Int)] w (Gives (.bool true) w) := by
  have A := Lib.hid a_h
  clear a_h
  have XY := Lib.hid xy_h
  clear xy_h
  have YZ := Lib.hid yz_h
  clear yz_h
  have XX := Lib.hid xx_h
  clear xx_h
  have KX := Lib.hid kx_h
  clear kx_h
  have KY := Lib.hid ky_h
  clear ky_h
  have from_a := from_run a
  have from_b := from_run b
  have from_c := from_run c
  go_enter Try.func6, Try.ntmps6
  go_wp2_with fail
  refine (XY.out _).mono ?_
  rintro _ _ ⟨rfl, rfl⟩
  go_wp2_with fail
  refine (YZ.out _).mono ?_
  rintro _ _ ⟨rfl, rfl⟩
  go_wp2_with fail
  refine (KX.out _).mono ?_
  rintro _ _ ⟨rfl, rfl⟩
  go_wp2_with fail
  refine (KY.out _).mono ?_
  rintro _ _ ⟨rfl, rfl⟩
  go_wp2_with fail
  refine (A.out _).mono ?_
  rintro _ _ ⟨rfl, rfl⟩
  go_wp2_with fail
  refine (XY.out _).mono ?_
  rintro _ _ ⟨rfl, rfl⟩
  go_wp2_with fail
  refine (XX.out _).mono ?_
  rintro _ _ ⟨rfl, rfl⟩
  go_wp2
  go_ret
  exact ⟨rfl, rfl⟩
theorem worder_d (a b c x y : Nat) (p q : Int) (w : World)
    (a_h : ∀ w, Calls Try.prog 11 #[] w (Gives (.bool true) w))
    (xy_h : ∀ w, Calls Try.prog 12 #[.float .f64 a, .float .f64 b] w (Gives (.int .i64 0) w))
    (yz_h : ∀ w, Calls Try.prog 12 #[.float .f64 b, .float .f64 c] w (Gives (.int .i64 p) w))
    (xz_h : ∀ w, Calls Try.prog 12 #[.float .f64 a, .float .f64 c] w (Gives (.int .i64 q) w))
    (xx_h : ∀ w, Calls Try.prog 12 #[.float .f64 a, .float .f64 a] w (Gives (.int .i64 0) w))
    (kx_h : ∀ w, Calls Try.prog 17 #[.float .f64 a] w (Gives (.int .u64 (x : Int)) w))
    (ky_h : ∀ w, Calls Try.prog 17 #[.float .f64 b] w (Gives (.int .u64 (y : Int)) w))
    (d1 : decide (p ≤ 0) = true)
    (d2 : p ≤ 0)
    (d3 : decide (q > 0) = false)
    (d4 : ¬ 0 < q)
    (g1 : ¬ (x : Int) < (y : Int))
    (g2 : ¬ (y : Int) < (x : Int)) :
    Calls Try.prog 6 #[.int .u64 (a : Int), .int .u64 (b : Int), .int .u64 (c : Int)] w (Gives (.bool true) w) := by
  have A := Lib.hid a_h
  clear a_h
  have XY := Lib.hid xy_h
  clear xy_h
  have YZ := Lib.hid yz_h
  clear yz_h
  have XZ := Lib.hid xz_h
  clear xz_h
  have XX := Lib.hid xx_h
  clear xx_h
  have KX := Lib.hid kx_h
  clear kx_h
  have KY := Lib.hid ky_h
  clear ky_h
  have from_a := from_run a
  have from_b := from_run b
  have from_c := from_run c
  go_enter Try.func6, Try.ntmps6
  go_wp2_with fail
  refine (XY.out _).mono ?_
  rintro _ _ ⟨rfl, rfl⟩
  go_wp2_with fail
  refine (YZ.out _).mono ?_
  rintro _ _ ⟨rfl, rfl⟩
  go_wp2_with fail
  refine (XZ.out _).mono ?_
  rintro _ _ ⟨rfl, rfl⟩
  go_wp2_with fail
  refine (KX.out _).mono ?_
  rintro _ _ ⟨rfl, rfl⟩
  go_wp2_with fail
  refine (KY.out _).mono ?_
  rintro _ _ ⟨rfl, rfl⟩
  go_wp2_with fail
  refine (A.out _).mono ?_
  rintro _ _ ⟨rfl, rfl⟩
  go_wp2_with fail
  refine (XY.out _).mono ?_
  rintro _ _ ⟨rfl, rfl⟩
  go_wp2_with fail
  refine (XX.out _).mono ?_
  rintro _ _ ⟨rfl, rfl⟩
  go_wp2
  go_ret
  exact ⟨rfl, rfl⟩
theorem worder_e (a b c x y : Nat) (p q : Int) (w : World)
    (a_h : ∀ w, Calls Try.prog 11 #[] w (Gives (.bool true) w))
    (xy_h : ∀ w, Calls Try.prog 12 #[.float .f64 a, .float .f64 b] w (Gives (.int .i64 (-1)) w))
    (yz_h : ∀ w, Calls Try.prog 12 #[.float .f64 b, .float .f64 c] w (Gives (.int .i64 p) w))
    (xz_h : ∀ w, Calls Try.prog 12 #[.float .f64 a, .float .f64 c] w (Gives (.int .i64 q) w))
    (xx_h : ∀ w, Calls Try.prog 12 #[.float .f64 a, .float .f64 a] w (Gives (.int .i64 0) w))
    (kx_h : ∀ w, Calls Try.prog 17 #[.float .f64 a] w (Gives (.int .u64 (x : Int)) w))
    (ky_h : ∀ w, Calls Try.prog 17 #[.float .f64 b] w (Gives (.int .u64 (y : Int)) w))
    (d1 : decide (p ≤ 0) = true)
    (d2 : p ≤ 0)
    (d3 : decide (q > 0) = false)
    (d4 : ¬ 0 < q)
    (g1 : (x : Int) < (y : Int)) :
    Calls Try.prog 6 #[.int .u64 (a : Int), .int .u64 (b : Int), .int .u64 (c : Int)] w (Gives (.bool true) w) := by
  have A := Lib.hid a_h
  clear a_h
  have XY := Lib.hid xy_h
  clear xy_h
  have YZ := Lib.hid yz_h
  clear yz_h
  have XZ := Lib.hid xz_h
  clear xz_h
  have XX := Lib.hid xx_h
  clear xx_h
  have KX := Lib.hid kx_h
  clear kx_h
  have KY := Lib.hid ky_h
  clear ky_h
  have from_a := from_run a
  have from_b := from_run b
  have from_c := from_run c
  go_enter Try.func6, Try.ntmps6
  go_wp2_with fail
  refine (XY.out _).mono ?_
  rintro _ _ ⟨rfl, rfl⟩
  go_wp2_with fail
  refine (YZ.out _).mono ?_
  rintro _ _ ⟨rfl, rfl⟩
  go_wp2_with fail
  refine (XZ.out _).mono ?_
  rintro _ _ ⟨rfl, rfl⟩
  go_wp2_with fail
  refine (KX.out _).mono ?_
  rintro _ _ ⟨rfl, rfl⟩
  go_wp2_with fail
  refine (KY.out _).mono ?_
  rintro _ _ ⟨rfl, rfl⟩
  go_wp2_with fail
  refine (A.out _).mono ?_
  rintro _ _ ⟨rfl, rfl⟩
  go_wp2_with fail
  refine (XY.out _).mono ?_
  rintro _ _ ⟨rfl, rfl⟩
  go_wp2_with fail
  refine (XX.out _).mono ?_
  rintro _ _ ⟨rfl, rfl⟩
  go_wp2
  go_ret
  exact ⟨rfl, rfl⟩
end Go.Proofs.Ytbipkelocbkccaa
namespace Go.Proofs.Ytbipkelocbkccaa.momentOrder
open Go.ChangeShapes Go.WideShapes Go.ChangeAt Go.RowKit
set_option linter.unusedVariables false

theorem own : ownKnob Try.prog.godebug = none := by kernel_rfl

theorem walk (a0 : Int) (a1 : Int) (a2 : Int) (w0 : (Lit.int .u64 a0).wf = true) (w1 : (Lit.int .u64 a1).wf = true) (w2 : (Lit.int .u64 a2).wf = true) (w : World) :
    Calls Try.prog 6 #[.int .u64 a0, .int .u64 a1, .int .u64 a2] w fun e w' => e = .returned (.bool true) ∧ Grown w w' := by
  obtain ⟨a, rfl, ha⟩ := u64_nat w0
  obtain ⟨b, rfl, hb⟩ := u64_nat w1
  obtain ⟨c, rfl, hc⟩ := u64_nat w2
  refine gives_grown ?_
  have xy := compare_any a b ha hb
  have yz := compare_any b c hb hc
  have xz := compare_any a c ha hc
  have xx := compare_any a a ha ha
  have kx := key_any a ha
  have ky := key_any b hb
  rw [cmpN_eq rfl] at xx
  rcases cmp_cases a b with ⟨h1, _, h3⟩ | ⟨h1, _, h3⟩ | ⟨h1, _, h3⟩
  · rw [h1] at xy
    rcases cmp_cases b c with ⟨g1, _, g3⟩ | ⟨g1, _, g3⟩ | ⟨g1, _, g3⟩
    · have := cmpN_lt (show keyN a < keyN c by omega)
      exact worder_e a b c _ _ _ _ w alive_run xy yz xz xx kx ky (by rw [g1]; rfl) (by omega) (by rw [this]; rfl) (by omega) (by omega)
    · have := cmpN_lt (show keyN a < keyN c by omega)
      exact worder_e a b c _ _ _ _ w alive_run xy yz xz xx kx ky (by rw [g1]; rfl) (by omega) (by rw [this]; rfl) (by omega) (by omega)
    · exact worder_c a b c _ _ _ 0 w alive_run xy yz xx kx ky (by rw [g1]; rfl) (by omega) (by omega)
  · rw [h1] at xy
    rcases cmp_cases b c with ⟨g1, _, g3⟩ | ⟨g1, _, g3⟩ | ⟨g1, _, g3⟩
    · have := cmpN_lt (show keyN a < keyN c by omega)
      exact worder_d a b c _ _ _ _ w alive_run xy yz xz xx kx ky (by rw [g1]; rfl) (by omega) (by rw [this]; rfl) (by omega) (by omega) (by omega)
    · have := cmpN_eq (show keyN a = keyN c by omega)
      exact worder_d a b c _ _ _ _ w alive_run xy yz xz xx kx ky (by rw [g1]; rfl) (by omega) (by rw [this]; rfl) (by omega) (by omega) (by omega)
    · exact worder_b a b c _ _ _ 0 w alive_run xy yz xx kx ky (by rw [g1]; rfl) (by omega) (by omega) (by omega)
  · rw [h1] at xy
    exact worder_a a b c _ _ 0 0 w alive_run xy xx kx ky (by omega) (by omega)

set_option maxRecDepth 100000 in
theorem lifted (os : Os) (started : os.Started) (H : Type) (enc : TypeId × Value → H) :
    ReturnsInHanded {} Try.checked os 6 .any (Rows.momentOrderSpec.pre6 enc Try.prog Try.f6 Rows.momentOrderRow.domain false) (Rows.momentOrderSpec.post enc Try.prog Try.f6 false true false false) := by
  refine returnsInHanded_of_change (C := Try.checked) own started (by kernel_rfl) Try.func6
    (ChangeSpec.witness6 (enc := enc) (C := Try.checked) false ⟨#[], #[.int .u64 0, .int .u64 0, .int .u64 0], []⟩ 8 (by kernel_rfl) (by kernel_rfl) (by kernel_rfl) (by kernel_rfl)) ?_
  intro W base args ds gs before hval0 hW hcnd _
  have hval : ∀ (j : Nat) t v, Try.f6.params[j]? = some t → args[j]? = some v → Value.okWide Try.prog W .any base t v := hval0
  have hW' := hW
  obtain ⟨p, q, hA0, hV, rfl, hfz, hnd⟩ := hW
  have hA : DataW.TrodAll enc Try.prog W 0 (fun _ => true) true Try.f6.params.toList args.toList ds p := hA0
  rw [Try.params6] at hA hval
  obtain ⟨v0, vs0, d0, ds0, p0, q0, hargs, rfl, rfl, h0, r0⟩ := trodAll_cons hA
  obtain ⟨v1, vs1, d1, ds1, p1, q1, rfl, rfl, rfl, h1, r1⟩ := trodAll_cons r0
  obtain ⟨v2, vs2, d2, ds2, p2, q2, rfl, rfl, rfl, h2, r2⟩ := trodAll_cons r1
  obtain ⟨rfl, rfl, rfl⟩ := trodAll_nil r2
  obtain rfl : args = #[v0, v1, v2] := by cases args; simp_all
  obtain ⟨rfl, rfl⟩ := trodVars_none hV
  obtain ⟨a0, rfl, rfl, rfl, w0⟩ := open_int Try.underlying22 (hval 0 22 v0 rfl rfl) h0
  obtain ⟨a1, rfl, rfl, rfl, w1⟩ := open_int Try.underlying22 (hval 1 22 v1 rfl rfl) h1
  obtain ⟨a2, rfl, rfl, rfl, w2⟩ := open_int Try.underlying22 (hval 2 22 v2 rfl rfl) h2
  clear hA0 hval0
  simp only [List.append_nil] at hW'
  refine (walk a0 a1 a2 w0 w1 w2 W).mono fun e W' ⟨he, hg⟩ => ?_
  subst he
  exact ⟨_, rfl, post_of_same (pa := []) (pv := []) hW' (fun _ _ _ => (trodAll_cons_mk (shut_bool Try.underlying4 _) trodAll_mk0)) (fun sp _ => (trodAll_cons_mk (shut_int Try.underlying22 w0) (trodAll_cons_mk (shut_int Try.underlying22 w1) (trodAll_cons_mk (shut_int Try.underlying22 w2) trodAll_mk0)))) (fun _ _ => rfl) rfl
    (hg.frame _) hg.2.1 (ok_one (by kernel_rfl) rfl (okWide_bool_mk Try.underlying4 _))⟩

theorem over : Rows.momentOrderRow.holds Try.pinned (OpenSpec.ofChange Rows.momentOrderSpec) :=
  OpenClaim.holds_of_wide 6 Try.f6 rfl rfl rfl rfl rfl rfl rfl ⟨rfl, rfl, rfl, rfl, rfl⟩ rfl rfl rfl rfl rfl (by kernel_rfl) Try.func6 (by kernel_rfl)
    (of_decide_eq_true (by kernel_rfl)) (by unfold Func.isWrapper; first | (rw [if_pos (by decide +kernel)]; kernel_rfl) | (rw [if_neg (by decide +kernel)]; exact ⟨rfl, rfl⟩))
    (fun os started H enc _ => lifted os started H enc)

theorem proved : Rows.MomentOrderSaid :=
  over
end Go.Proofs.Ytbipkelocbkccaa.momentOrder
namespace Go.Proofs.Ytbipkelocbkccaa
theorem momentOrder_proved : Rows.MomentOrderSaid := momentOrder.proved
end Go.Proofs.Ytbipkelocbkccaa
