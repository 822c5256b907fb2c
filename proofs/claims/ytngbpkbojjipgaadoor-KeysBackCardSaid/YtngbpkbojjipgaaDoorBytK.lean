/-
  keys.Bytes: what a key is told by, or why there is nothing.
-/
import Derived.Test.YtngbpkbojjipgaaDoorChk
namespace Go.Proofs.YtngbpkbojjipgaaDoor
open Go.RowKit Go.Lib
set_option linter.unusedVariables false

/-- What a key is told by, or nothing. -/
def kbs (k c : Int) : List UInt8 := if chk k c = 0 then kb k.toNat c.toNat else []
/-- Bytes and a code are told. -/
def Told (l : List UInt8) (q : Int) (w : World) (e : Ending) (w' : World) : Prop := ∃ a cap, e = .returned (.tuple #[.slice a l.length cap, .int .i64 q]) ∧ Bts w' a l ∧ l.length ≤ cap ∧ cap ≤ maxLen ∧ Stp [] w [] w'
set_option maxHeartbeats 1000000 in
set_option maxRecDepth 100000 in
theorem bytes_run (k c : Int) (w : World) (hT : Tabs w) : Calls Tryd.prog 8 #[kv k c] w (Told (kbs k c) (chk k c : Int) w) := by
  have K : Hid (∀ W, Calls Tryd.prog 22 #[.agg #[.int .i64 k, .int .i64 c]] W (Tells (.int .i64 (chk k c : Int)) W)) := Lib.hid fun W => check_run k c W
  have HT : Aside (Tabs w) := hT
  unfold kv
  by_cases h : chk k c = 0
  · obtain ⟨n, m, rfl, rfl, hn, h0, h1⟩ := chk_zero h
    have e : kbs (n : Int) (m : Int) = kb n m := by unfold kbs; rw [if_pos h]; simp
    rw [e, h]
    rw [h] at K
    clear e h hT
    by_cases g : n = 0
    · subst g
      have hm := (h0 rfl).2
      have KP : Hid (∀ W, Calls Tryd.prog 23 #[.int .i64 (m : Int)] W (U.Puts m W)) := Lib.hid fun W => U.put_yes m W (by
        have := of_decide_eq_true (h0 rfl).1
        simp [U.isCh]
        omega)
      have HV : Aside (kb 0 m = enc8 m) := rfl
      clear h0 h1 hn
      go_enter Tryd.func8, Tryd.ntmps8
      go_wp2_with fail
      refine (K.out _).mono ?_
      rintro _ w1 ⟨rfl, s1⟩
      have HA := ((At2.new w 0 (m : Int)).stays s1)
      have hlt := HA.lt
      obtain ⟨c0, c1, _, _⟩ := HA.cells
      have HS : Aside (Stp [] w [] w1) := (Stp.alloc [] w _).trans s1
      clear HA s1
      go_wp2_with fail
      refine (KP.out _).mono ?_
      rintro _ w2 ⟨v, rfl, ho, hb⟩
      have HO : Aside (Stp [] w [] w2) := HS.out.trans (Stp.of_below hb)
      obtain ⟨a, cap, rfl, hbt, hcap, hmax, _⟩ := ho.bts (U.enc_lt m hm)
      have HB : Aside (Bts w2 a (enc8 m) ∧ (U.enc m).length = (enc8 m).length) := ⟨bts_of_U hbt, by unfold enc8; simp⟩
      clear hbt ho hb HS
      generalize (U.enc m).length = L at *
      go_wp2
      go_ret2
      exact ⟨a, cap, by rw [HV.out, ← HB.out.2]; rfl, by rw [HV.out]; exact HB.out.1, by rw [HV.out, ← HB.out.2]; exact hcap, hmax, HO.out⟩
    · obtain rfl := h1 g
      clear h0 h1
      have hk : (((n : Nat) : Int) == 0) = false := beq_eq_false_iff_ne.2 (by omega)
      have HV : Aside (kb n 0 = kt n) := by
        show kb n 0 = kt n
        unfold kb
        rw [if_neg g]
      clear g
      go_enter Tryd.func8, Tryd.ntmps8
      go_wp2_with fail
      refine (K.out _).mono ?_
      rintro _ w1 ⟨rfl, s1⟩
      have HA := ((At2.new w (n : Int) 0).stays s1)
      have hlt := HA.lt
      obtain ⟨c0, c1, _, _⟩ := HA.cells
      have HS : Aside (Stp [] w [] w1) := (Stp.alloc [] w _).trans s1
      have kc := ((HT.out.stays HS.out).kin n hn).2
      rw [Nat.mul_comm] at kc
      clear HA s1
      obtain ⟨a, cap, w2, hcv, hb2, hc2, hm2, s2⟩ := conv_st w1 (kt n) (by have := kt_len n hn; omega)
      have HB : Aside (Bts w2 a (kt n) ∧ (kt n).length ≤ cap ∧ cap ≤ maxLen ∧ Stp [] w [] w2) := ⟨hb2, hc2, hm2, HS.out.trans s2⟩
      clear hb2 hc2 hm2 s2 HS
      generalize st (kt n) = x0 at *
      go_wp2
      go_ret2
      exact ⟨a, cap, by rw [HV.out]; rfl, by rw [HV.out]; exact HB.out.1, by rw [HV.out]; exact HB.out.2.1, HB.out.2.2.1, HB.out.2.2.2⟩
  · have e : kbs k c = [] := by unfold kbs; rw [if_neg h]
    have hz : ((chk k c : Int) == 0) = false := beq_eq_false_iff_ne.2 (by omega)
    rw [e]
    generalize chk k c = q at *
    clear e h hT
    go_enter Tryd.func8, Tryd.ntmps8
    go_wp2_with (go_at_call 22; refine (K.out _).mono ?_; rintro _ w1 ⟨rfl, s1⟩)
    go_ret2
    exact ⟨none, 0, rfl, Bts.nil _ _, Nat.le_refl _, by unfold maxLen; omega, (Stp.alloc _ _ _).trans s1⟩
end Go.Proofs.YtngbpkbojjipgaaDoor
