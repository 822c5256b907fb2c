/-
  trace.numberOf: the number of a text.
-/
import Derived.Test.YthfiilhbgogoaaaGreatDoorSplit
import Derived.Lib.AtoiBound
namespace Go.Proofs.YthfiilhbgogoaaaGreatDoor
open Go.RowKit Go.Lib
set_option linter.unusedVariables false

/-- The number of a text, or that it is none's. -/
def num (s : List UInt8) : Option Nat := if 18 < s.length then none else match Lib.atoi s with
  | none => none
  | some z => if z < 0 ∨ dig 10 z.toNat ≠ s then none else some z.toNat
def numv : Option Nat → Value
  | some n => .tuple #[.int .i64 (n : Int), .bool true]
  | none => .tuple #[.int .i64 0, .bool false]
theorem itoa_big (n : Nat) (hn : n ≤ 9223372036854775807) (w : World) (htab : Lib.TabIs Tryz.prog w "internal/strconv.uint64pow10" .u64 Lib.pow10Tab) :
    Calls Tryz.prog 56 #[.int .i64 (n : Int)] w (Tells (.string (st (dig 10 n))) w) := by
  refine (Tryz.strconv_Itoa (n : Int) (by omega) (by omega) w htab).mono ?_
  rintro e w' ⟨rfl, k, os, rfl⟩
  rw [itoa_dig]
  exact ⟨rfl, (Stp.drewN _ _ _).trans (grow_stp _ _)⟩
set_option maxHeartbeats 1000000 in
set_option maxRecDepth 100000 in
theorem num_run (s : List UInt8) (hs : s.length ≤ 100000) (w : World) (hT : Tabs w) : Calls Tryz.prog 58 #[.string (st s)] w (Tells (numv (num s)) w) := by
  have hsz := st_size s
  by_cases h18 : 18 < s.length
  · have hz : (18 : Int) < (s.length : Int) := by omega
    have HV : Aside (num s = none) := by
      show num s = none
      unfold num
      rw [if_pos h18]
    clear hT
    go_enter Tryz.func58, Tryz.ntmps58
    go_wp2
    go_ret2
    exact ⟨by rw [HV.out]; rfl, Stp.refl _ _⟩
  have hz : ¬ (18 : Int) < (s.length : Int) := by omega
  cases ha : Lib.atoi s with
  | none =>
    have HV : Aside (num s = none) := by
      show num s = none
      unfold num
      rw [if_neg h18, ha]
    obtain ⟨t, p, h⟩ := hT.syn
    have K := Lib.hid (Tryz.strconv_Atoi_err (st s) (by omega) (by rw [st_data]; exact ha) _ w h (.inr ⟨t, p, rfl⟩))
    clear hT h ha
    go_enter Tryz.func58, Tryz.ntmps58
    go_wp2_with fail
    refine K.out.mono ?_
    rintro _ w1 ⟨N, rfl, h1, h2, h3⟩
    have HS : Aside (Stp [] w [] w1) := Stp.of_below h3
    clear h1 h2 h3 K
    go_wp2
    go_ret2
    exact ⟨by rw [HV.out]; rfl, HS.out⟩
  | some z =>
    have K := Lib.hid (Tryz.strconv_Atoi (st s) z (by omega) (by rw [st_data]; exact ha) w)
    have hb := Lib.atoi_bound ha (by omega)
    by_cases hneg : z < 0
    · have HV : Aside (num s = none) := by
        show num s = none
        unfold num
        rw [if_neg h18, ha]
        simp only
        rw [if_pos (.inl hneg)]
      clear hT ha hb
      go_enter Tryz.func58, Tryz.ntmps58
      go_wp2_with fail
      refine K.out.mono ?_
      rintro _ w1 ⟨rfl, t, hw⟩
      have HS : Aside (Stp [] w [] w1) := by rw [hw]; exact Stp.of_below (Lib.bytesWorld_below _ _ _)
      clear hw K
      go_wp2
      go_ret2
      exact ⟨by rw [HV.out]; rfl, HS.out⟩
    · obtain ⟨n, rfl⟩ := Int.eq_ofNat_of_zero_le (show 0 ≤ z by omega)
      have HT : Aside (Tabs w) := hT
      have KI : Hid (∀ W, Stp [] w [] W → Calls Tryz.prog 56 #[.int .i64 (n : Int)] W (Tells (.string (st (dig 10 n))) W)) := Lib.hid fun W hs => itoa_big n (by omega) W (HT.out.stays hs).pow
      have HV : Aside (num s = if dig 10 n ≠ s then none else some n) := by
        show num s = _
        unfold num
        rw [if_neg h18, ha]
        by_cases e : dig 10 n = s <;> simp [e]
      clear hT ha hb
      by_cases hd : dig 10 n = s
      · have hq : ((st (dig 10 n)).toList == (st s).toList) = true := st_yes (by rw [hd])
        have HV2 : Aside (num s = some n) := by
          show num s = some n
          rw [HV.out, if_neg (by simp [hd])]
        clear HV hd
        generalize st (dig 10 n) = sd at *
        go_enter Tryz.func58, Tryz.ntmps58
        go_wp2_with fail
        refine K.out.mono ?_
        rintro _ w1 ⟨rfl, t, hw⟩
        have HS : Aside (Stp [] w [] w1) := by rw [hw]; exact Stp.of_below (Lib.bytesWorld_below _ _ _)
        clear hw K
        go_wp2_with (go_at_call 56; refine (KI.out _ HS.out).mono ?_; rintro _ w2 ⟨rfl, s2⟩)
        go_ret2
        exact ⟨by rw [HV2.out]; rfl, HS.out.trans s2⟩
      · have hq : ((st (dig 10 n)).toList == (st s).toList) = false := st_no (fun e => hd (st_inj e))
        have HV2 : Aside (num s = none) := by
          show num s = none
          rw [HV.out, if_pos hd]
        clear HV hd
        generalize st (dig 10 n) = sd at *
        go_enter Tryz.func58, Tryz.ntmps58
        go_wp2_with fail
        refine K.out.mono ?_
        rintro _ w1 ⟨rfl, t, hw⟩
        have HS : Aside (Stp [] w [] w1) := by rw [hw]; exact Stp.of_below (Lib.bytesWorld_below _ _ _)
        clear hw K
        go_wp2_with (go_at_call 56; refine (KI.out _ HS.out).mono ?_; rintro _ w2 ⟨rfl, s2⟩)
        go_ret2
        exact ⟨by rw [HV2.out]; rfl, HS.out.trans s2⟩
end Go.Proofs.YthfiilhbgogoaaaGreatDoor
