/-
  The document's examples hold.
-/
import Derived.Test.YtjenbhaaahpliaaDoorRen
namespace Go.Proofs.YtjenbhaaahpliaaDoor
open Go.RowKit Go.Lib
set_option linter.unusedVariables false

theorem fi_pw : fiB [112, 119, 58, 32] = true := (fi_iff _).2 ⟨[112, 119, 58, 32], fun c hc => by
  simp only [List.mem_cons, List.not_mem_nil, or_false] at hc
  rcases hc with rfl | rfl | rfl | rfl <;> decide, by decide⟩
theorem chk_pw (m : Int) (hm : mok m = true) : chkN [112, 119, 58, 32] m 0 = 0 := by
  unfold chkN
  rw [fi_pw, hm]
  simp
theorem ren_one : renN [112, 119, 58, 32] 1 0 3 1 = 0 ∧ renL [112, 119, 58, 32] 1 0 3 1 = [13, 112, 119, 58, 32, 42, 42, 42, 27, 91, 75, 27, 91, 50, 68] := by
  have h : renN [112, 119, 58, 32] 1 0 3 1 = 0 := by
    unfold renN
    rw [chk_pw 1 rfl]
    rfl
  refine ⟨h, ?_⟩
  unfold renL
  rw [h, if_pos rfl]
  have e : (stN 1 3 - plN 1 3 1).toNat = 2 := by decide
  have e1 : (stN 1 3).toNat = 3 := by decide
  rw [e, e1]
  unfold lineL
  rw [if_neg (by omega), dig_lt (by omega)]
  rfl
theorem ren_two : renN [112, 119, 58, 32] 2 0 3 1 = 0 ∧ renL [112, 119, 58, 32] 2 0 3 1 = [13, 112, 119, 58, 32, 42, 42, 42, 42, 42, 42, 42, 42, 27, 91, 75] := by
  have h : renN [112, 119, 58, 32] 2 0 3 1 = 0 := by
    unfold renN
    rw [chk_pw 2 rfl]
    rfl
  refine ⟨h, ?_⟩
  unfold renL
  rw [h, if_pos rfl]
  have e : (stN 2 3 - plN 2 3 1).toNat = 0 := by decide
  have e1 : (stN 2 3).toNat = 8 := by decide
  rw [e, e1]
  unfold lineL
  rw [if_pos rfl]
  rfl
set_option maxHeartbeats 1000000 in
set_option maxRecDepth 100000 in
theorem alive_run (w : World) (hT : Tabs w) : Calls Tryd.prog 8 #[] w (Tells (.bool true) w) := by
  have KA : Hid (∀ W, Stp [] w [] W → Calls Tryd.prog 9 #[.agg #[.string ⟨#[112, 119, 58, 32]⟩, .int .i64 1, .int .i64 0], .int .i64 3, .int .i64 1] W (Rend W [13, 112, 119, 58, 32, 42, 42, 42, 27, 91, 75, 27, 91, 50, 68] 0)) := Lib.hid fun W hs => by
    have := render_run [112, 119, 58, 32] 1 0 3 1 W (by simp) (hT.stays hs)
    rw [ren_one.1, ren_one.2] at this
    exact this
  have KB : Hid (∀ W, Stp [] w [] W → Calls Tryd.prog 9 #[.agg #[.string ⟨#[112, 119, 58, 32]⟩, .int .i64 2, .int .i64 0], .int .i64 3, .int .i64 1] W (Rend W [13, 112, 119, 58, 32, 42, 42, 42, 42, 42, 42, 42, 42, 27, 91, 75] 0)) := Lib.hid fun W hs => by
    have := render_run [112, 119, 58, 32] 2 0 3 1 W (by simp) (hT.stays hs)
    rw [ren_two.1, ren_two.2] at this
    exact this
  go_enter Tryd.func8, Tryd.ntmps8
  go_wp2_with fail
  refine (KA.out _ (Stp.refl _ _)).mono ?_
  rintro _ w1 ⟨p1, c1, rfl, hb1, hc1, hm1, s1⟩
  have S1 := Lib.hid (And.intro s1 hb1)
  clear s1 hb1
  go_wp2_with fail
  refine (KB.out _ S1.out.1).mono ?_
  rintro _ w2 ⟨p2, c2, rfl, hb2, hc2, hm2, s2⟩
  have hv1 := conv_bts c1 15 (S1.out.2.stays s2) rfl
  have hv2 := conv_bts c2 16 hb2 rfl
  have S2 := Lib.hid (S1.out.1.trans s2)
  have e1 : ((st [13, 112, 119, 58, 32, 42, 42, 42, 27, 91, 75, 27, 91, 50, 68]).toList == [13, 112, 119, 58, 32, 42, 42, 42, 27, 91, 75, 27, 91, 50, 68]) = true := by rw [st_toList]; rfl
  have e2 : ((st [13, 112, 119, 58, 32, 42, 42, 42, 42, 42, 42, 42, 42, 27, 91, 75]).toList == [13, 112, 119, 58, 32, 42, 42, 42, 42, 42, 42, 42, 42, 27, 91, 75]) = true := by rw [st_toList]; rfl
  clear s2 hb2 hc1 hm1 hc2 hm2
  go_wp2
  go_ret
  exact ⟨rfl, S2.out⟩
end Go.Proofs.YtjenbhaaahpliaaDoor
