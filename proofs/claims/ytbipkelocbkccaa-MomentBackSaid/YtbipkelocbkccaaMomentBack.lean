/-
  MomentBack returns true for every input, and each argument reads afterwards as it read before. No condition.
-/
import Derived.Test.YtbipkelocbkccaaSmall
import Derived.Test.YtbipkelocbkccaaRows
import Derived.ProofKit
import Derived.OpenShut
namespace Go.Proofs.Ytbipkelocbkccaa
open Go.RowKit Go.Lib
set_option linter.unusedVariables false
theorem key_of_lt {a b : Nat} (ha : a < 2 ^ 64) (hb : b < 2 ^ 64) (n1 : nanN a = false) (n2 : nanN b = false) (h : sval a < sval b) : keyN a < keyN b := by
  have h1 := (nan_not a).1 n1
  have h2 := (nan_not b).1 n2
  unfold keyN
  rw [n1, n2]
  simp only [Bool.false_eq_true, if_false]
  unfold sval at h
  (repeat' split) <;> (repeat' split at h) <;> omega
theorem key_of_eq {a b : Nat} (ha : a < 2 ^ 64) (hb : b < 2 ^ 64) (h : sval a = sval b) (hz : ¬ sval a = 0) : a = b := by
  unfold sval at h hz
  (repeat' split at h) <;> (repeat' split at hz) <;> omega
theorem of_key (a : Nat) (ha : a < 2 ^ 64) : ofOk (keyN a) = (!nanN a) ∧ (nanN a = false → ofBits (keyN a) = a) := by
  unfold ofOk ofBits keyN
  cases h : nanN a
  · have hm := (nan_not a).1 h
    simp only [Bool.false_eq_true, if_false, Bool.not_false, decide_eq_true_eq, true_implies]
    by_cases g : 9223372036854775808 ≤ a
    · rw [if_pos g, if_pos (by omega)]
      omega
    · rw [if_neg g, if_neg (by omega)]
      omega
  · refine ⟨by simp, by simp⟩
theorem wback_a (a b x : Nat) (w : World)
    (a_h : ∀ w, Calls Try.prog 11 #[] w (Gives (.bool true) w))
    (k_h : ∀ w, Calls Try.prog 17 #[.float .f64 a] w (Gives (.int .u64 (x : Int)) w))
    (o_h : ∀ w, Calls Try.prog 16 #[.int .u64 (x : Int)] w (Gives (.tuple #[.float .f64 0, .int .i64 3]) w))
    (hn : (FloatKind.f64.format.order a a != some .eq) = true)
    (hz : (FloatKind.f64.format.order 0 0 == some .eq) = true) :
    Calls Try.prog 7 #[.int .u64 (a : Int), .int .u64 (b : Int)] w (Gives (.bool true) w) := by
  have A := Lib.hid a_h
  clear a_h
  have K := Lib.hid k_h
  clear k_h
  have O := Lib.hid o_h
  clear o_h
  have from_a := from_run a
  have from_b := from_run b
  go_enter Try.func7, Try.ntmps7
  go_wp2_with fail
  refine (K.out _).mono ?_
  rintro _ _ ⟨rfl, rfl⟩
  go_wp2_with fail
  refine (O.out _).mono ?_
  rintro _ _ ⟨rfl, rfl⟩
  go_wp2_with fail
  refine (A.out _).mono ?_
  rintro _ _ ⟨rfl, rfl⟩
  go_wp2
  go_ret
  exact ⟨rfl, rfl⟩
theorem wback_b (a b x : Nat) (w : World)
    (a_h : ∀ w, Calls Try.prog 11 #[] w (Gives (.bool true) w))
    (k_h : ∀ w, Calls Try.prog 17 #[.float .f64 a] w (Gives (.int .u64 (x : Int)) w))
    (o_h : ∀ w, Calls Try.prog 16 #[.int .u64 (x : Int)] w (Gives (.tuple #[.float .f64 a, .int .i64 0]) w))
    (hn : (FloatKind.f64.format.order a a != some .eq) = false)
    (bm : ∀ w, (callFunc 19 #[.float .f64 a]).run Try.prog w = .ok (.value (.int .u64 (a : Int))) w)
    (hl : (FloatKind.f64.format.order a b == some .lt) = true)
    (c_h : ∀ w, Calls Try.prog 12 #[.float .f64 a, .float .f64 b] w (Gives (.int .i64 (-1)) w)) :
    Calls Try.prog 7 #[.int .u64 (a : Int), .int .u64 (b : Int)] w (Gives (.bool true) w) := by
  have A := Lib.hid a_h
  clear a_h
  have K := Lib.hid k_h
  clear k_h
  have O := Lib.hid o_h
  clear o_h
  have C := Lib.hid c_h
  clear c_h
  have from_a := from_run a
  have from_b := from_run b
  go_enter Try.func7, Try.ntmps7
  go_wp2_with fail
  refine (K.out _).mono ?_
  rintro _ _ ⟨rfl, rfl⟩
  go_wp2_with fail
  refine (O.out _).mono ?_
  rintro _ _ ⟨rfl, rfl⟩
  go_wp2_with fail
  refine (A.out _).mono ?_
  rintro _ _ ⟨rfl, rfl⟩
  go_wp2_with fail
  refine (C.out _).mono ?_
  rintro _ _ ⟨rfl, rfl⟩
  go_wp2
  go_ret
  exact ⟨rfl, rfl⟩
theorem wback_c (a b x : Nat) (w : World)
    (a_h : ∀ w, Calls Try.prog 11 #[] w (Gives (.bool true) w))
    (k_h : ∀ w, Calls Try.prog 17 #[.float .f64 a] w (Gives (.int .u64 (x : Int)) w))
    (o_h : ∀ w, Calls Try.prog 16 #[.int .u64 (x : Int)] w (Gives (.tuple #[.float .f64 a, .int .i64 0]) w))
    (hn : (FloatKind.f64.format.order a a != some .eq) = false)
    (bm : ∀ w, (callFunc 19 #[.float .f64 a]).run Try.prog w = .ok (.value (.int .u64 (a : Int))) w)
    (hl : (FloatKind.f64.format.order a b == some .lt) = false)
    (he : (FloatKind.f64.format.order a b != some .eq) = true) :
    Calls Try.prog 7 #[.int .u64 (a : Int), .int .u64 (b : Int)] w (Gives (.bool true) w) := by
  have A := Lib.hid a_h
  clear a_h
  have K := Lib.hid k_h
  clear k_h
  have O := Lib.hid o_h
  clear o_h
  have from_a := from_run a
  have from_b := from_run b
  go_enter Try.func7, Try.ntmps7
  go_wp2_with fail
  refine (K.out _).mono ?_
  rintro _ _ ⟨rfl, rfl⟩
  go_wp2_with fail
  refine (O.out _).mono ?_
  rintro _ _ ⟨rfl, rfl⟩
  go_wp2_with fail
  refine (A.out _).mono ?_
  rintro _ _ ⟨rfl, rfl⟩
  go_wp2
  go_ret
  exact ⟨rfl, rfl⟩
theorem wback_d (a b x : Nat) (w : World)
    (a_h : ∀ w, Calls Try.prog 11 #[] w (Gives (.bool true) w))
    (k_h : ∀ w, Calls Try.prog 17 #[.float .f64 a] w (Gives (.int .u64 (x : Int)) w))
    (o_h : ∀ w, Calls Try.prog 16 #[.int .u64 (x : Int)] w (Gives (.tuple #[.float .f64 a, .int .i64 0]) w))
    (hn : (FloatKind.f64.format.order a a != some .eq) = false)
    (bm : ∀ w, (callFunc 19 #[.float .f64 a]).run Try.prog w = .ok (.value (.int .u64 (a : Int))) w)
    (hl : (FloatKind.f64.format.order a b == some .lt) = false)
    (he : (FloatKind.f64.format.order a b != some .eq) = false)
    (hz : (FloatKind.f64.format.order a 0 == some .eq) = false)
    (hz2 : (FloatKind.f64.format.order a 0 != some .eq) = true)
    (c_h : ∀ w, Calls Try.prog 12 #[.float .f64 a, .float .f64 b] w (Gives (.int .i64 0) w)) :
    Calls Try.prog 7 #[.int .u64 (a : Int), .int .u64 (b : Int)] w (Gives (.bool true) w) := by
  have A := Lib.hid a_h
  clear a_h
  have K := Lib.hid k_h
  clear k_h
  have O := Lib.hid o_h
  clear o_h
  have C := Lib.hid c_h
  clear c_h
  have from_a := from_run a
  have from_b := from_run b
  go_enter Try.func7, Try.ntmps7
  go_wp2_with fail
  refine (K.out _).mono ?_
  rintro _ _ ⟨rfl, rfl⟩
  go_wp2_with fail
  refine (O.out _).mono ?_
  rintro _ _ ⟨rfl, rfl⟩
  go_wp2_with fail
  refine (A.out _).mono ?_
  rintro _ _ ⟨rfl, rfl⟩
  go_wp2_with fail
  refine (C.out _).mono ?_
  rintro _ _ ⟨rfl, rfl⟩
  go_wp2
  go_ret
  exact ⟨rfl, rfl⟩
theorem wback_e (a b x : Nat) (w : World)
    (a_h : ∀ w, Calls Try.prog 11 #[] w (Gives (.bool true) w))
    (k_h : ∀ w, Calls Try.prog 17 #[.float .f64 a] w (Gives (.int .u64 (x : Int)) w))
    (o_h : ∀ w, Calls Try.prog 16 #[.int .u64 (x : Int)] w (Gives (.tuple #[.float .f64 a, .int .i64 0]) w))
    (hn : (FloatKind.f64.format.order a a != some .eq) = false)
    (bm : ∀ w, (callFunc 19 #[.float .f64 a]).run Try.prog w = .ok (.value (.int .u64 (a : Int))) w)
    (hl : (FloatKind.f64.format.order a b == some .lt) = false)
    (he : (FloatKind.f64.format.order a b != some .eq) = false)
    (hz : (FloatKind.f64.format.order a 0 == some .eq) = true)
    (hz2 : (FloatKind.f64.format.order a 0 != some .eq) = false) :
    Calls Try.prog 7 #[.int .u64 (a : Int), .int .u64 (b : Int)] w (Gives (.bool true) w) := by
  have A := Lib.hid a_h
  clear a_h
  have K := Lib.hid k_h
  clear k_h
  have O := Lib.hid o_h
  clear o_h
  have from_a := from_run a
  have from_b := from_run b
  go_enter Try.func7, Try.ntmps7
  go_wp2_with fail
  refine (K.out _).mono ?_
  rintro _ _ ⟨rfl, rfl⟩
  go_wp2_with fail
  refine (O.out _).mono ?_
  rintro _ _ ⟨rfl, rfl⟩
  go_wp2_with fail
  refine (A.out _).mono ?_
  rintro _ _ ⟨rfl, rfl⟩
  go_wp2
  go_ret
  exact ⟨rfl, rfl⟩
end Go.Proofs.Ytbipkelocbkccaa
namespace Go.Proofs.Ytbipkelocbkccaa.momentBack
open Go.ChangeShapes Go.WideShapes Go.ChangeAt Go.RowKit
set_option linter.unusedVariables false

theorem own : ownKnob Try.prog.godebug = none := by kernel_rfl

theorem walk (a0 : Int) (a1 : Int) (w0 : (Lit.int .u64 a0).wf = true) (w1 : (Lit.int .u64 a1).wf = true) (w : World) :
    Calls Try.prog 7 #[.int .u64 a0, .int .u64 a1] w fun e w' => e = .returned (.bool true) ∧ Grown w w' := by
  obtain ⟨a, rfl, ha⟩ := u64_nat w0
  obtain ⟨b, rfl, hb⟩ := u64_nat w1
  refine gives_grown ?_
  have k := key_any a ha
  have o := of_any (keyN a) (key_lt a ha)
  obtain ⟨o1, o2⟩ := of_key a ha
  have hn := ne_self ha
  have hz : (FloatKind.f64.format.order 0 0 == some .eq) = true := by
    rw [eq_num (by omega) (by omega) (by decide) (by decide)]
    decide
  rw [o1] at o
  cases h : nanN a
  · rw [o2 h] at o
    rw [h] at o hn
    simp only [if_true, Bool.not_false] at o
    cases g : nanN b
    · have hl := lt_num ha hb h g
      have he := eq_num ha hb h g
      have hz1 := eq_num ha (show 0 < 2 ^ 64 by omega) h (by decide)
      rw [show sval 0 = 0 by decide] at hz1
      have ne_of : ∀ (x y : Nat) (v : Bool), (FloatKind.f64.format.order x y == some .eq) = v → (FloatKind.f64.format.order x y != some .eq) = !v := by
        intro x y v h
        rw [← h]
        rfl
      by_cases l : sval a < sval b
      · rw [decide_eq_true l] at hl
        have c := compare_any a b ha hb
        rw [cmpN_lt (key_of_lt ha hb h g l)] at c
        exact wback_b a b _ w alive_run k o hn (bits_run a) hl c
      · rw [decide_eq_false l] at hl
        by_cases e : sval a = sval b
        · rw [decide_eq_true e] at he
          by_cases z : sval a = 0
          · rw [decide_eq_true z] at hz1
            exact wback_e a b _ w alive_run k o hn (bits_run a) hl (ne_of _ _ _ he) hz1 (ne_of _ _ _ hz1)
          · rw [decide_eq_false z] at hz1
            have c := compare_any a b ha hb
            rw [cmpN_eq (congrArg keyN (key_of_eq ha hb e z))] at c
            exact wback_d a b _ w alive_run k o hn (bits_run a) hl (ne_of _ _ _ he) hz1 (ne_of _ _ _ hz1) c
        · rw [decide_eq_false e] at he
          exact wback_c a b _ w alive_run k o hn (bits_run a) hl (ne_of _ _ _ he)
    · have on := ord_nan ha hb (.inr g)
      exact wback_c a b _ w alive_run k o hn (bits_run a) (by rw [on]; rfl) (by rw [on]; rfl)
  · rw [h] at o hn
    simp only [Bool.false_eq_true, if_false, Bool.not_true] at o
    exact wback_a a b _ w alive_run k o hn hz

set_option maxRecDepth 100000 in
theorem lifted (os : Os) (started : os.Started) (H : Type) (enc : TypeId × Value → H) :
    ReturnsInHanded {} Try.checked os 7 .any (Rows.momentBackSpec.pre6 enc Try.prog Try.f7 Rows.momentBackRow.domain false) (Rows.momentBackSpec.post enc Try.prog Try.f7 false true false false) := by
  refine returnsInHanded_of_change (C := Try.checked) own started (by kernel_rfl) Try.func7
    (ChangeSpec.witness6 (enc := enc) (C := Try.checked) false ⟨#[], #[.int .u64 0, .int .u64 0], []⟩ 8 (by kernel_rfl) (by kernel_rfl) (by kernel_rfl) (by kernel_rfl)) ?_
  intro W base args ds gs before hval0 hW hcnd _
  have hval : ∀ (j : Nat) t v, Try.f7.params[j]? = some t → args[j]? = some v → Value.okWide Try.prog W .any base t v := hval0
  have hW' := hW
  obtain ⟨p, q, hA0, hV, rfl, hfz, hnd⟩ := hW
  have hA : DataW.TrodAll enc Try.prog W 0 (fun _ => true) true Try.f7.params.toList args.toList ds p := hA0
  rw [Try.params7] at hA hval
  obtain ⟨v0, vs0, d0, ds0, p0, q0, hargs, rfl, rfl, h0, r0⟩ := trodAll_cons hA
  obtain ⟨v1, vs1, d1, ds1, p1, q1, rfl, rfl, rfl, h1, r1⟩ := trodAll_cons r0
  obtain ⟨rfl, rfl, rfl⟩ := trodAll_nil r1
  obtain rfl : args = #[v0, v1] := by cases args; simp_all
  obtain ⟨rfl, rfl⟩ := trodVars_none hV
  obtain ⟨a0, rfl, rfl, rfl, w0⟩ := open_int Try.underlying22 (hval 0 22 v0 rfl rfl) h0
  obtain ⟨a1, rfl, rfl, rfl, w1⟩ := open_int Try.underlying22 (hval 1 22 v1 rfl rfl) h1
  clear hA0 hval0
  simp only [List.append_nil] at hW'
  refine (walk a0 a1 w0 w1 W).mono fun e W' ⟨he, hg⟩ => ?_
  subst he
  exact ⟨_, rfl, post_of_same (pa := []) (pv := []) hW' (fun _ _ _ => (trodAll_cons_mk (shut_bool Try.underlying4 _) trodAll_mk0)) (fun sp _ => (trodAll_cons_mk (shut_int Try.underlying22 w0) (trodAll_cons_mk (shut_int Try.underlying22 w1) trodAll_mk0))) (fun _ _ => rfl) rfl
    (hg.frame _) hg.2.1 (ok_one (by kernel_rfl) rfl (okWide_bool_mk Try.underlying4 _))⟩

theorem over : Rows.momentBackRow.holds Try.pinned (OpenSpec.ofChange Rows.momentBackSpec) :=
  OpenClaim.holds_of_wide 7 Try.f7 rfl rfl rfl rfl rfl rfl rfl ⟨rfl, rfl, rfl, rfl, rfl⟩ rfl rfl rfl rfl rfl (by kernel_rfl) Try.func7 (by kernel_rfl)
    (of_decide_eq_true (by kernel_rfl)) (by unfold Func.isWrapper; first | (rw [if_pos (by decide +kernel)]; kernel_rfl) | (rw [if_neg (by decide +kernel)]; exact ⟨rfl, rfl⟩))
    (fun os started H enc _ => lifted os started H enc)

theorem proved : Rows.MomentBackSaid :=
  over
end Go.Proofs.Ytbipkelocbkccaa.momentBack
namespace Go.Proofs.Ytbipkelocbkccaa
theorem momentBack_proved : Rows.MomentBackSaid := momentBack.proved
end Go.Proofs.Ytbipkelocbkccaa
