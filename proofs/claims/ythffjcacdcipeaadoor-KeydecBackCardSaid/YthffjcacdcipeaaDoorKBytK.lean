/-
  keys.Bytes: what a key is told by, or why there is nothing.
-/
import Derived.Test.YthffjcacdcipeaaDoorKChk
import Derived.Test.YthffjcacdcipeaaDoorNx
namespace Go.Proofs.YthffjcacdcipeaaDoor.K
open Go.RowKit Go.Lib
set_option linter.unusedVariables false

/-- The kinds' table while a call runs. -/
structure Kinds (w : World) : Prop where
  kin : ∀ i, i < 16 → w.cell? ⟨0, 2 * i, none⟩ = some (.string (st (kn i))) ∧ w.cell? ⟨0, 2 * i + 1, none⟩ = some (.string (st (kt i)))
theorem Kinds.stays {w w' : World} {F : List Nat} (h : Kinds w) (hs : Stp [] w F w') : Kinds w' := ⟨fun i hi => ⟨hs.keeps rfl (h.kin i hi).1, hs.keeps rfl (h.kin i hi).2⟩⟩
/-- What a key is told by, or nothing. -/
def kbs (k c : Int) : List UInt8 := if chk k c = 0 then kb k.toNat c.toNat else []
/-- A text's bytes in a block that is new. -/
theorem conv_st3 (W : World) (l : List UInt8) (hl : l.length ≤ 1000000) : ∃ c w', (convert 9 29 (.string (st l))).run Tryd.prog W = .ok (.slice (some ⟨W.heap.size, 0, none⟩) l.length c) w' ∧ Bts w' (some ⟨W.heap.size, 0, none⟩) l ∧ l.length ≤ c ∧ c ≤ maxLen ∧ Stp [] W [] w' := by
  have h := Go.Lib.run_convert_string_bytes (P := Tryd.prog) W 9 29 5 (st l) Tryd.underlying9 Tryd.underlying29 Tryd.underlying5
  rw [st_size] at h
  refine ⟨_, _, h, ?_, ?_, ?_, ?_⟩
  · intro _
    refine ⟨W.heap.size, 0, rfl, fun i hi => ?_⟩
    rw [Nat.zero_add, bytesWorld_cell W _ _ i (by rw [st_size]; exact hi), st_data, getElem!_pos l i hi]
    simp [bval, List.getD, hi]
  · exact grownCap_ge _ _ _ _
  · exact grownCap_le_maxLen _ _ _ _ (by unfold maxLen; omega)
  · exact ⟨rfl, rfl, rfl, by rw [bytesWorld_size]; omega, fun k hk _ => bytesWorld_at_old W _ _ k hk, fun _ h => .inl h⟩
/-- Bytes and a code are told. -/
def Told (l : List UInt8) (q : Int) (w : World) (e : Ending) (w' : World) : Prop := ∃ a cap, e = .returned (.tuple #[.slice a l.length cap, .int .i64 q]) ∧ Bts w' a l ∧ l.length ≤ cap ∧ cap ≤ maxLen ∧ (∀ ad, a = some ad → w.heap.size ≤ ad.block) ∧ Stp [] w [] w'
set_option maxHeartbeats 1000000 in
set_option maxRecDepth 100000 in
theorem bytes_run (k c : Int) (w : World) (hT : Kinds w) : Calls Tryd.prog 27 #[kv k c] w (Told (kbs k c) (chk k c : Int) w) := by
  have K : Hid (∀ W, Calls Tryd.prog 41 #[.agg #[.int .i64 k, .int .i64 c]] W (Tells (.int .i64 (chk k c : Int)) W)) := Lib.hid fun W => check_run k c W
  have HT : Aside (Kinds w) := hT
  unfold kv
  by_cases h : chk k c = 0
  · obtain ⟨n, m, rfl, rfl, hn, h0, h1⟩ := chk_zero h
    have e : kbs (n : Int) (m : Int) = kb n m := by unfold kbs; rw [if_pos h]; simp
    rw [e, h]
    rw [h] at K
    clear e h hT
    by_cases g : n = 0
    · subst g
      have hm := (h0 rfl).2
      have KP : Hid (∀ W, Calls Tryd.prog 42 #[.int .i64 (m : Int)] W (U.Puts m W)) := Lib.hid fun W => U.put_yes m W (by
        have := of_decide_eq_true (h0 rfl).1
        simp [U.isCh]
        omega)
      have HV : Aside (kb 0 m = enc8 m) := rfl
      clear h0 h1 hn
      go_enter Tryd.func27, Tryd.ntmps27
      go_wp2_with fail
      refine (K.out _).mono ?_
      rintro _ w1 ⟨rfl, s1⟩
      have HA := ((At2.new w 0 (m : Int)).stays s1)
      have hlt := HA.lt
      obtain ⟨c0, c1, _, _⟩ := HA.cells
      have HS : Aside (Stp [] w [] w1) := (Stp.alloc [] w _).trans s1
      clear HA s1
      go_wp2_with fail
      refine (KP.out _).mono ?_
      rintro _ w2 ⟨v, rfl, ho, hb⟩
      have HO : Aside (Stp [] w [] w2) := HS.out.trans (Stp.of_below hb)
      have hnw := World.ownsRow.lt ho
      obtain ⟨a, cap, rfl, hbt, hcap, hmax, _⟩ := ho.bts (U.enc_lt m hm)
      have HW : Aside (∀ ad, a = some ad → w.heap.size ≤ ad.block) := fun ad e => by
        subst e
        have h1 := (hnw ad.block rfl).1
        have h2 := HS.out.size
        omega
      clear hnw
      have HB : Aside (Bts w2 a (enc8 m) ∧ (U.enc m).length = (enc8 m).length) := ⟨bts_of_U hbt, by unfold enc8; simp⟩
      clear hbt ho hb HS
      generalize (U.enc m).length = L at *
      go_wp2
      go_ret2
      exact ⟨a, cap, by rw [HV.out, ← HB.out.2]; rfl, by rw [HV.out]; exact HB.out.1, by rw [HV.out, ← HB.out.2]; exact hcap, hmax, HW.out, HO.out⟩
    · obtain rfl := h1 g
      clear h0 h1
      have hk : (((n : Nat) : Int) == 0) = false := beq_eq_false_iff_ne.2 (by omega)
      have HV : Aside (kb n 0 = kt n) := by
        show kb n 0 = kt n
        unfold kb
        rw [if_neg g]
      clear g
      go_enter Tryd.func27, Tryd.ntmps27
      go_wp2_with fail
      refine (K.out _).mono ?_
      rintro _ w1 ⟨rfl, s1⟩
      have HA := ((At2.new w (n : Int) 0).stays s1)
      have hlt := HA.lt
      obtain ⟨c0, c1, _, _⟩ := HA.cells
      have HS : Aside (Stp [] w [] w1) := (Stp.alloc [] w _).trans s1
      have kc := ((HT.out.stays HS.out).kin n hn).2
      rw [Nat.mul_comm] at kc
      clear HA s1
      obtain ⟨cap, w2, hcv, hb2, hc2, hm2, s2⟩ := conv_st3 w1 (kt n) (by have := kt_len n hn; omega)
      have HW : Aside (w.heap.size ≤ w1.heap.size) := HS.out.size
      have HB : Aside (Bts w2 (some ⟨w1.heap.size, 0, none⟩) (kt n) ∧ (kt n).length ≤ cap ∧ cap ≤ maxLen ∧ Stp [] w [] w2) := ⟨hb2, hc2, hm2, HS.out.trans s2⟩
      clear hb2 hc2 hm2 s2 HS
      generalize st (kt n) = x0 at *
      go_wp2
      go_ret2
      exact ⟨some ⟨w1.heap.size, 0, none⟩, cap, by rw [HV.out]; rfl, by rw [HV.out]; exact HB.out.1, by rw [HV.out]; exact HB.out.2.1, HB.out.2.2.1, (fun ad e => by cases e; exact HW.out), HB.out.2.2.2⟩
  · have e : kbs k c = [] := by unfold kbs; rw [if_neg h]
    have hz : ((chk k c : Int) == 0) = false := beq_eq_false_iff_ne.2 (by omega)
    rw [e]
    generalize chk k c = q at *
    clear e h hT
    go_enter Tryd.func27, Tryd.ntmps27
    go_wp2_with (go_at_call 41; refine (K.out _).mono ?_; rintro _ w1 ⟨rfl, s1⟩)
    go_ret2
    exact ⟨none, 0, rfl, Bts.nil _ _, Nat.le_refl _, by unfold maxLen; omega, (fun ad e => by cases e), (Stp.alloc _ _ _).trans s1⟩
end Go.Proofs.YthffjcacdcipeaaDoor.K
