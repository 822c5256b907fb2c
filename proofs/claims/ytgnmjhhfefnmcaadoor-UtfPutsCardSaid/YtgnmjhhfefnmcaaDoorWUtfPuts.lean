/-
  The walk of the law UtfPuts: it answers true at every number, and what lay in memory stays.
-/
import Derived.Test.YtgnmjhhfefnmcaaDoorStr
import Derived.Deep.RegionWith
namespace Go.Proofs.YtgnmjhhfefnmcaaDoor.UtfPuts
open Go.RowKit Go.Lib
set_option linter.unusedVariables false

set_option maxHeartbeats 1000000 in
set_option maxRecDepth 100000 in
theorem walk_no (c : Int) (w : World) (hc : isCh c = false) (hT : Tabs w) : Calls Tryd.prog 4 #[.int .i64 c] w (OneBool true w) := by
  have k2 := fine_any c
  rw [hc] at k2
  have K1 := Lib.hid (put_no c w hc)
  have K2 := Lib.hid k2
  have K3 := Lib.hid (alive_any w hT)
  have K4 := Lib.hid (pr_any c)
  have K5 := Lib.hid (rpr_any c)
  clear hT hc k2
  go_enter Tryd.func4, Tryd.ntmps4
  go_wp2_with fail
  refine K1.out.mono ?_
  rintro e w1 ⟨rfl, hw⟩
  obtain rfl : w = w1 := hw
  go_wp2_with fail
  refine K3.out.mono ?_
  rintro e w1 ⟨rfl, hb1⟩
  go_wp2_with fail
  refine (K4.out _).mono ?_
  rintro e w2 ⟨rfl, hw⟩
  obtain rfl : w1 = w2 := hw.symm
  go_wp2_with fail
  refine (K5.out _).mono ?_
  rintro e w2 ⟨rfl, hw⟩
  obtain rfl : w1 = w2 := hw.symm
  go_wp2_with fail
  refine (K2.out _).mono ?_
  rintro e w2 ⟨rfl, hw⟩
  obtain rfl : w1 = w2 := hw.symm
  go_wp2
  go_ret
  exact ⟨rfl, hb1⟩

set_option maxHeartbeats 1000000 in
set_option maxRecDepth 100000 in
theorem walk_yes (c : Nat) (w : World) (hc : isCh c = true) (hT : Tabs w) : Calls Tryd.prog 4 #[.int .i64 c] w (OneBool true w) := by
  have h := of_decide_eq_true hc
  have k2 := fine_any c
  rw [hc] at k2
  have k3 : ∀ W, Below w.heap.size w W → Calls Tryd.prog 12 #[] W (OneBool true W) := fun W hb => alive_any W (hT.below hb)
  have K1 := Lib.hid (put_yes c w hc)
  have K2 := Lib.hid k2
  have K3 := Lib.hid k3
  have K4 := Lib.hid (pr_any c)
  have K5 := Lib.hid (rpr_any c)
  have k6 : ∀ W, Calls Tryd.prog 17 #[.int .i64 c] W (RPuts c W) := fun W => rput_any c W (by omega)
  have K6 := Lib.hid k6
  have hlt := enc_lt c (by omega)
  clear hT hc k2 k3 k6 h
  go_enter Tryd.func4, Tryd.ntmps4
  go_wp2_with fail
  refine K1.out.mono ?_
  rintro e w1 ⟨v, rfl, ho, hb1⟩
  obtain ⟨a, cap, rfl, hbt, hcap, hm, _⟩ := ho.bts hlt
  go_wp2_with fail
  refine (K3.out _ hb1).mono ?_
  rintro e w2 ⟨rfl, hb2⟩
  have hB2 := hb1.trans (hb2.mono hb1.size)
  have hbt2 := hbt.below hb2 (Nat.le_refl _)
  go_wp2_with fail
  refine (K4.out _).mono ?_
  rintro e w3 ⟨rfl, hw⟩
  obtain rfl : w2 = w3 := hw.symm
  go_wp2_with fail
  refine (K5.out _).mono ?_
  rintro e w3 ⟨rfl, hw⟩
  obtain rfl : w2 = w3 := hw.symm
  go_wp2_with fail
  refine (K2.out _).mono ?_
  rintro e w3 ⟨rfl, hw⟩
  obtain rfl : w2 = w3 := hw.symm
  have HL := Lib.hid hlt
  have hcv := conv_bts cap hbt2
  have hcv' : (convert 22 9 (.slice a (enc c).length cap)).run Tryd.prog w2.drew = .ok (.string (str (enc c))) w2.drew := conv_bts cap hbt2
  have HB := Lib.hid hbt2
  clear hbt hbt2 ho hlt
  go_wp2
  go_region_with (go_at_call 17; refine (K6.out _).mono ?_; rintro e w3 ⟨v2, rfl, ho2, hb3⟩; obtain ⟨a2, cap2, rfl, hbt3, _, _, _⟩ := ho2.bts HL.out; have hcv2 := conv_bts cap2 hbt3; have hcv3 := conv_bts cap ((show Bts w2.drew a (enc c) from HB.out).below hb3 (Nat.le_refl _)); clear hbt3 ho2)
  all_goals
    go_wp2
    go_ret
    exact ⟨rfl, hB2.drew.trans (hb3.mono hB2.size)⟩

theorem walk (c : Int) (W : World) (wf : (Lit.int .i64 c).wf = true) (hT : Tabs W) : Calls Tryd.prog 4 #[.int .i64 c] W (OneBool true W) := by
  cases hc : isCh c
  · exact walk_no c W hc hT
  · have h := of_decide_eq_true hc
    obtain ⟨n, rfl⟩ := Int.eq_ofNat_of_zero_le h.1
    exact walk_yes n W hc hT


end Go.Proofs.YtgnmjhhfefnmcaaDoor.UtfPuts
