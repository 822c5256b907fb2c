/-
  MomentKeys returns true for every input, and each argument reads afterwards as it read before. No condition.
-/
import Derived.Test.YtbipkelocbkccaaSmall
import Derived.Test.YtbipkelocbkccaaRows
import Derived.ProofKit
import Derived.OpenShut
namespace Go.Proofs.Ytbipkelocbkccaa
open Go.RowKit Go.Lib
set_option linter.unusedVariables false
theorem wkeys_a (a x m : Nat) (y z : Int) (w : World)
    (a_h : ∀ w, Calls Try.prog 11 #[] w (Gives (.bool true) w))
    (o_h : ∀ w, Calls Try.prog 16 #[.int .u64 z] w (Gives (.tuple #[.float .f64 m, .int .i64 0]) w))
    (k_h : ∀ w, Calls Try.prog 17 #[.float .f64 a] w (Gives (.int .u64 (x : Int)) w))
    (rk_h : ∀ w, Calls Try.prog 18 #[.float .f64 a] w (Gives (.int .u64 (x : Int)) w))
    (g : z < 9223372036854775808)
    (e1 : IntKind.u64.wrap (z - 9223372036854775808) = y)
    (e2 : IntKind.u64.wrap (18446744073709551615 - z) = (m : Int))
    (e3 : 18446744073709551615 - z = (m : Int))
    (em : IntKind.u64.wrap (m : Int) = (m : Int))
    (hn : (FloatKind.f64.format.order m m != some .eq) = false)
    (fm : ∀ w, (callFunc 10 #[.int .u64 (m : Int)]).run Try.prog w = .ok (.value (.float .f64 m)) w)
    (bm : ∀ w, (callFunc 19 #[.float .f64 m]).run Try.prog w = .ok (.value (.int .u64 (m : Int))) w)
    (hz : (FloatKind.f64.format.order 0 0 == some .eq) = true) :
    Calls Try.prog 4 #[.int .u64 (a : Int), .int .u64 z] w (Gives (.bool true) w) := by
  have A := Lib.hid a_h
  clear a_h
  have O := Lib.hid o_h
  clear o_h
  have K := Lib.hid k_h
  clear k_h
  have RK := Lib.hid rk_h
  clear rk_h
  have from_a := from_run a
  go_enter Try.func4, Try.ntmps4
  go_wp2_with fail
  refine (O.out _).mono ?_
  rintro _ _ ⟨rfl, rfl⟩
  go_wp2_with fail
  refine (A.out _).mono ?_
  rintro _ _ ⟨rfl, rfl⟩
  go_wp2_with fail
  refine (K.out _).mono ?_
  rintro _ _ ⟨rfl, rfl⟩
  go_wp2_with fail
  refine (RK.out _).mono ?_
  rintro _ _ ⟨rfl, rfl⟩
  go_wp2
  go_ret
  exact ⟨rfl, rfl⟩
theorem wkeys_b (a x m : Nat) (y z : Int) (w : World)
    (a_h : ∀ w, Calls Try.prog 11 #[] w (Gives (.bool true) w))
    (o_h : ∀ w, Calls Try.prog 16 #[.int .u64 z] w (Gives (.tuple #[.float .f64 0, .int .i64 3]) w))
    (k_h : ∀ w, Calls Try.prog 17 #[.float .f64 a] w (Gives (.int .u64 (x : Int)) w))
    (rk_h : ∀ w, Calls Try.prog 18 #[.float .f64 a] w (Gives (.int .u64 (x : Int)) w))
    (g : z < 9223372036854775808)
    (e1 : IntKind.u64.wrap (z - 9223372036854775808) = y)
    (e2 : IntKind.u64.wrap (18446744073709551615 - z) = (m : Int))
    (e3 : 18446744073709551615 - z = (m : Int))
    (em : IntKind.u64.wrap (m : Int) = (m : Int))
    (hn : (FloatKind.f64.format.order m m != some .eq) = true)
    (fm : ∀ w, (callFunc 10 #[.int .u64 (m : Int)]).run Try.prog w = .ok (.value (.float .f64 m)) w)
    (bm : ∀ w, (callFunc 19 #[.float .f64 m]).run Try.prog w = .ok (.value (.int .u64 (m : Int))) w)
    (hz : (FloatKind.f64.format.order 0 0 == some .eq) = true) :
    Calls Try.prog 4 #[.int .u64 (a : Int), .int .u64 z] w (Gives (.bool true) w) := by
  have A := Lib.hid a_h
  clear a_h
  have O := Lib.hid o_h
  clear o_h
  have K := Lib.hid k_h
  clear k_h
  have RK := Lib.hid rk_h
  clear rk_h
  have from_a := from_run a
  go_enter Try.func4, Try.ntmps4
  go_wp2_with fail
  refine (O.out _).mono ?_
  rintro _ _ ⟨rfl, rfl⟩
  go_wp2_with fail
  refine (A.out _).mono ?_
  rintro _ _ ⟨rfl, rfl⟩
  go_wp2_with fail
  refine (K.out _).mono ?_
  rintro _ _ ⟨rfl, rfl⟩
  go_wp2_with fail
  refine (RK.out _).mono ?_
  rintro _ _ ⟨rfl, rfl⟩
  go_wp2
  go_ret
  exact ⟨rfl, rfl⟩
theorem wkeys_c (a x m : Nat) (y z : Int) (w : World)
    (a_h : ∀ w, Calls Try.prog 11 #[] w (Gives (.bool true) w))
    (o_h : ∀ w, Calls Try.prog 16 #[.int .u64 z] w (Gives (.tuple #[.float .f64 m, .int .i64 0]) w))
    (k_h : ∀ w, Calls Try.prog 17 #[.float .f64 a] w (Gives (.int .u64 (x : Int)) w))
    (rk_h : ∀ w, Calls Try.prog 18 #[.float .f64 a] w (Gives (.int .u64 (x : Int)) w))
    (g : ¬ z < 9223372036854775808)
    (e1 : IntKind.u64.wrap (z - 9223372036854775808) = (m : Int))
    (e3 : z - 9223372036854775808 = (m : Int))
    (em : IntKind.u64.wrap (m : Int) = (m : Int))
    (hn : (FloatKind.f64.format.order m m != some .eq) = false)
    (fm : ∀ w, (callFunc 10 #[.int .u64 (m : Int)]).run Try.prog w = .ok (.value (.float .f64 m)) w)
    (bm : ∀ w, (callFunc 19 #[.float .f64 m]).run Try.prog w = .ok (.value (.int .u64 (m : Int))) w)
    (hz : (FloatKind.f64.format.order 0 0 == some .eq) = true) :
    Calls Try.prog 4 #[.int .u64 (a : Int), .int .u64 z] w (Gives (.bool true) w) := by
  have A := Lib.hid a_h
  clear a_h
  have O := Lib.hid o_h
  clear o_h
  have K := Lib.hid k_h
  clear k_h
  have RK := Lib.hid rk_h
  clear rk_h
  have from_a := from_run a
  go_enter Try.func4, Try.ntmps4
  go_wp2_with fail
  refine (O.out _).mono ?_
  rintro _ _ ⟨rfl, rfl⟩
  go_wp2_with fail
  refine (A.out _).mono ?_
  rintro _ _ ⟨rfl, rfl⟩
  go_wp2_with fail
  refine (K.out _).mono ?_
  rintro _ _ ⟨rfl, rfl⟩
  go_wp2_with fail
  refine (RK.out _).mono ?_
  rintro _ _ ⟨rfl, rfl⟩
  go_wp2
  go_ret
  exact ⟨rfl, rfl⟩
theorem wkeys_d (a x m : Nat) (y z : Int) (w : World)
    (a_h : ∀ w, Calls Try.prog 11 #[] w (Gives (.bool true) w))
    (o_h : ∀ w, Calls Try.prog 16 #[.int .u64 z] w (Gives (.tuple #[.float .f64 0, .int .i64 3]) w))
    (k_h : ∀ w, Calls Try.prog 17 #[.float .f64 a] w (Gives (.int .u64 (x : Int)) w))
    (rk_h : ∀ w, Calls Try.prog 18 #[.float .f64 a] w (Gives (.int .u64 (x : Int)) w))
    (g : ¬ z < 9223372036854775808)
    (e1 : IntKind.u64.wrap (z - 9223372036854775808) = (m : Int))
    (e3 : z - 9223372036854775808 = (m : Int))
    (em : IntKind.u64.wrap (m : Int) = (m : Int))
    (hn : (FloatKind.f64.format.order m m != some .eq) = true)
    (fm : ∀ w, (callFunc 10 #[.int .u64 (m : Int)]).run Try.prog w = .ok (.value (.float .f64 m)) w)
    (bm : ∀ w, (callFunc 19 #[.float .f64 m]).run Try.prog w = .ok (.value (.int .u64 (m : Int))) w)
    (hz : (FloatKind.f64.format.order 0 0 == some .eq) = true) :
    Calls Try.prog 4 #[.int .u64 (a : Int), .int .u64 z] w (Gives (.bool true) w) := by
  have A := Lib.hid a_h
  clear a_h
  have O := Lib.hid o_h
  clear o_h
  have K := Lib.hid k_h
  clear k_h
  have RK := Lib.hid rk_h
  clear rk_h
  have from_a := from_run a
  go_enter Try.func4, Try.ntmps4
  go_wp2_with fail
  refine (O.out _).mono ?_
  rintro _ _ ⟨rfl, rfl⟩
  go_wp2_with fail
  refine (A.out _).mono ?_
  rintro _ _ ⟨rfl, rfl⟩
  go_wp2_with fail
  refine (K.out _).mono ?_
  rintro _ _ ⟨rfl, rfl⟩
  go_wp2_with fail
  refine (RK.out _).mono ?_
  rintro _ _ ⟨rfl, rfl⟩
  go_wp2
  go_ret
  exact ⟨rfl, rfl⟩
end Go.Proofs.Ytbipkelocbkccaa
namespace Go.Proofs.Ytbipkelocbkccaa.momentKeys
open Go.ChangeShapes Go.WideShapes Go.ChangeAt Go.RowKit
set_option linter.unusedVariables false

theorem own : ownKnob Try.prog.godebug = none := by kernel_rfl

theorem walk (a0 : Int) (a1 : Int) (w0 : (Lit.int .u64 a0).wf = true) (w1 : (Lit.int .u64 a1).wf = true) (w : World) :
    Calls Try.prog 4 #[.int .u64 a0, .int .u64 a1] w fun e w' => e = .returned (.bool true) ∧ Grown w w' := by
  obtain ⟨a, rfl, ha⟩ := u64_nat w0
  obtain ⟨b, rfl, hb⟩ := u64_nat w1
  refine gives_grown ?_
  have o := of_any b hb
  have k1 := key_any a ha
  have k2 := refKey_any a ha
  have hz : (FloatKind.f64.format.order 0 0 == some .eq) = true := by
    rw [eq_num (by omega) (by omega) (by decide) (by decide)]
    decide
  have hm : ofBits b < 2 ^ 64 := by
    unfold ofBits
    split <;> omega
  have hn := ne_self hm
  have wr : ∀ z : Int, 0 ≤ z → z < 18446744073709551616 → IntKind.u64.wrap z = z := by
    intro z h1 h2
    simp [IntKind.wrap, IntKind.bits, IntKind.signed]
    omega
  have nn : nanN (ofBits b) = !ofOk b := by
    unfold ofBits ofOk nanN
    by_cases h : b < 9223372036854775808
    · rw [if_pos h]
      by_cases g : 4503599627370495 ≤ b
      · rw [decide_eq_true (p := _ ∧ _) (by omega), decide_eq_false (by omega)]; rfl
      · rw [decide_eq_false (p := _ ∧ _) (by omega), decide_eq_true (by omega)]; rfl
    · rw [if_neg h]
      by_cases g : b ≤ 18442240474082181120
      · rw [decide_eq_true (p := _ ∧ _) (by omega), decide_eq_false (by omega)]; rfl
      · rw [decide_eq_false (p := _ ∧ _) (by omega), decide_eq_true (by omega)]; rfl
  rw [nn] at hn
  have e3 : b < 9223372036854775808 → 18446744073709551615 - (b : Int) = (ofBits b : Nat) := fun h => by
    unfold ofBits
    rw [if_pos h]
    omega
  have e4 : ¬ b < 9223372036854775808 → (b : Int) - 9223372036854775808 = (ofBits b : Nat) := fun h => by
    unfold ofBits
    rw [if_neg h]
    omega
  have em := wr (ofBits b) (by omega) (by omega)
  generalize ofBits b = m at *
  cases h : ofOk b
  · rw [h] at o hn
    simp only [Bool.false_eq_true, if_false, Bool.not_false] at o hn
    by_cases g : b < 9223372036854775808
    · exact wkeys_b a _ m _ b w alive_run o k1 k2 (by omega) rfl (by rw [e3 g]; exact wr _ (by omega) (by omega)) (e3 g) em hn (from_run m) (bits_run m) hz
    · exact wkeys_d a _ m 0 b w alive_run o k1 k2 (by omega) (by rw [e4 g]; exact wr _ (by omega) (by omega)) (e4 g) em hn (from_run m) (bits_run m) hz
  · rw [h] at o hn
    simp only [if_true, Bool.not_true] at o hn
    by_cases g : b < 9223372036854775808
    · exact wkeys_a a _ m _ b w alive_run o k1 k2 (by omega) rfl (by rw [e3 g]; exact wr _ (by omega) (by omega)) (e3 g) em hn (from_run m) (bits_run m) hz
    · exact wkeys_c a _ m 0 b w alive_run o k1 k2 (by omega) (by rw [e4 g]; exact wr _ (by omega) (by omega)) (e4 g) em hn (from_run m) (bits_run m) hz

set_option maxRecDepth 100000 in
theorem lifted (os : Os) (started : os.Started) (H : Type) (enc : TypeId × Value → H) :
    ReturnsInHanded {} Try.checked os 4 .any (Rows.momentKeysSpec.pre6 enc Try.prog Try.f4 Rows.momentKeysRow.domain false) (Rows.momentKeysSpec.post enc Try.prog Try.f4 false true false false) := by
  refine returnsInHanded_of_change (C := Try.checked) own started (by kernel_rfl) Try.func4
    (ChangeSpec.witness6 (enc := enc) (C := Try.checked) false ⟨#[], #[.int .u64 0, .int .u64 0], []⟩ 8 (by kernel_rfl) (by kernel_rfl) (by kernel_rfl) (by kernel_rfl)) ?_
  intro W base args ds gs before hval0 hW hcnd _
  have hval : ∀ (j : Nat) t v, Try.f4.params[j]? = some t → args[j]? = some v → Value.okWide Try.prog W .any base t v := hval0
  have hW' := hW
  obtain ⟨p, q, hA0, hV, rfl, hfz, hnd⟩ := hW
  have hA : DataW.TrodAll enc Try.prog W 0 (fun _ => true) true Try.f4.params.toList args.toList ds p := hA0
  rw [Try.params4] at hA hval
  obtain ⟨v0, vs0, d0, ds0, p0, q0, hargs, rfl, rfl, h0, r0⟩ := trodAll_cons hA
  obtain ⟨v1, vs1, d1, ds1, p1, q1, rfl, rfl, rfl, h1, r1⟩ := trodAll_cons r0
  obtain ⟨rfl, rfl, rfl⟩ := trodAll_nil r1
  obtain rfl : args = #[v0, v1] := by cases args; simp_all
  obtain ⟨rfl, rfl⟩ := trodVars_none hV
  obtain ⟨a0, rfl, rfl, rfl, w0⟩ := open_int Try.underlying22 (hval 0 22 v0 rfl rfl) h0
  obtain ⟨a1, rfl, rfl, rfl, w1⟩ := open_int Try.underlying22 (hval 1 22 v1 rfl rfl) h1
  clear hA0 hval0
  simp only [List.append_nil] at hW'
  refine (walk a0 a1 w0 w1 W).mono fun e W' ⟨he, hg⟩ => ?_
  subst he
  exact ⟨_, rfl, post_of_same (pa := []) (pv := []) hW' (fun _ _ _ => (trodAll_cons_mk (shut_bool Try.underlying4 _) trodAll_mk0)) (fun sp _ => (trodAll_cons_mk (shut_int Try.underlying22 w0) (trodAll_cons_mk (shut_int Try.underlying22 w1) trodAll_mk0))) (fun _ _ => rfl) rfl
    (hg.frame _) hg.2.1 (ok_one (by kernel_rfl) rfl (okWide_bool_mk Try.underlying4 _))⟩

theorem over : Rows.momentKeysRow.holds Try.pinned (OpenSpec.ofChange Rows.momentKeysSpec) :=
  OpenClaim.holds_of_wide 4 Try.f4 rfl rfl rfl rfl rfl rfl rfl ⟨rfl, rfl, rfl, rfl, rfl⟩ rfl rfl rfl rfl rfl (by kernel_rfl) Try.func4 (by kernel_rfl)
    (of_decide_eq_true (by kernel_rfl)) (by unfold Func.isWrapper; first | (rw [if_pos (by decide +kernel)]; kernel_rfl) | (rw [if_neg (by decide +kernel)]; exact ⟨rfl, rfl⟩))
    (fun os started H enc _ => lifted os started H enc)

theorem proved : Rows.MomentKeysSaid :=
  over
end Go.Proofs.Ytbipkelocbkccaa.momentKeys
namespace Go.Proofs.Ytbipkelocbkccaa
theorem momentKeys_proved : Rows.MomentKeysSaid := momentKeys.proved
end Go.Proofs.Ytbipkelocbkccaa
