/-
  The walk of ScreenNone.
-/
import Derived.Test.YtdaenaoagejgeaaDoorLw
namespace Go.Proofs.YtdaenaoagejgeaaDoor
open Go.RowKit Go.Lib
set_option linter.unusedVariables false

set_option maxHeartbeats 2000000 in
set_option maxRecDepth 100000 in
theorem none_walk (v : Value) (i : Int) (w : World) (hT : Tabs w) : Calls Tryd.prog 4 #[v, .int .i64 i] w (Tells (.bool true) w) := by
  have KA := Lib.hid (alive_run w hT)
  have K1 := Lib.hid (row_nil i)
  have K2 := Lib.hid place_nil
  have K3 := Lib.hid (feed_nil v)
  have K4 := Lib.hid rows_nil
  have K5 := Lib.hid bells_nil
  have K6 := Lib.hid pastes_nil
  have K7 := Lib.hid odd_nil
  clear hT
  go_enter Tryd.func4, Tryd.ntmps4
  go_wp2_with fail
  refine (K1.out _).mono ?_
  rintro _ _ ⟨rfl, rfl⟩
  go_wp2_with fail
  refine (K2.out _).mono ?_
  rintro _ _ ⟨rfl, rfl⟩
  go_wp2_with fail
  refine KA.out.mono ?_
  rintro _ w1 ⟨rfl, s1⟩
  go_wp2_with fail
  refine (K3.out _).mono ?_
  rintro _ _ ⟨rfl, rfl⟩
  go_wp2_with fail
  refine (K4.out _).mono ?_
  rintro _ _ ⟨rfl, rfl⟩
  go_wp2_with fail
  refine (K5.out _).mono ?_
  rintro _ _ ⟨rfl, rfl⟩
  go_wp2_with fail
  refine (K6.out _).mono ?_
  rintro _ _ ⟨rfl, rfl⟩
  go_wp2_with fail
  refine (K7.out _).mono ?_
  rintro _ _ ⟨rfl, rfl⟩
  go_wp2_with fail
  go_ret
  exact ⟨rfl, s1⟩
end Go.Proofs.YtdaenaoagejgeaaDoor
