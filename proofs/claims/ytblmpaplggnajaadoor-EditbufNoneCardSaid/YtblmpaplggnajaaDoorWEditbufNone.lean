/-
  The walk of EditbufNone: of no buffer, and no arena, nothing is told; a new buffer's arena is wiped.
-/
import Derived.Test.YtblmpaplggnajaaDoorBufI
namespace Go.Proofs.YtblmpaplggnajaaDoor
open Go.RowKit Go.Lib
set_option linter.unusedVariables false

theorem bput_nil (c : Int) (W : World) : Calls Tryd.prog 15 #[.pointer none, .int .i64 c] W (Gives (.int .i64 1) W) := by
  go_enter Tryd.func15, Tryd.ntmps15
  go_wp2
  go_ret
  exact ⟨rfl, rfl⟩
set_option maxHeartbeats 1000000 in
set_option maxRecDepth 100000 in
theorem none_walk (k c : Int) (hk : (Lit.int .i64 k).wf = true) (a1 : Option Addr) (cap1 n : Nat) (t : List UInt8) (w : World) (hb : Bts w a1 t) (hn : n = t.length) (hcap : n ≤ cap1) (hm : cap1 ≤ maxLen) (hT : U.Tabs w) :
    Calls Tryd.prog 4 #[.agg #[.int .i64 k, .int .i64 c], .slice a1 n cap1] w (Tells (.bool true) w) := by
  have HT : Aside (Bts w a1 t ∧ n = t.length ∧ n ≤ cap1) := ⟨hb, hn, hcap⟩
  have KD := Lib.hid (fun W => do_nil (.agg #[.int .i64 k, .int .i64 c]) W k c rfl)
  have K1 := Lib.hid clearB_nil
  have K2 := Lib.hid bput_nil
  have K3 := Lib.hid ins_nil
  have K4 := Lib.hid bcount_nil
  have K5 := Lib.hid bat_nil
  have K6 := Lib.hid blen_nil
  have K7 := Lib.hid bcopy_nil
  have KN := Lib.hid enew_nil
  obtain ⟨o, ho, hmk⟩ := make_obj 3 (by omega)
  replace hmk : ∀ w : World, (Instr.makeSlice 36 (.int .i64 3) (.int .i64 3)).run Tryd.prog w = .ok (.slice (some ⟨w.heap.size, 0, none⟩) 3 3) (w.alloc o) := fun w => hmk w .i64 .i64
  have KA : ∀ W, Calls Tryd.prog 29 #[.int .i64 50] W (Newed W 50) := fun W => new_run 50 W (by omega) (by omega)
  have KA := Lib.hid KA
  clear hb hn hcap hm hT hk
  go_enter Tryd.func4, Tryd.ntmps4
  go_wp2_with (first
    | (go_at_call 19; refine (K1.out _).mono ?_; rintro _ w1 ⟨rfl, rfl⟩)
    | (go_at_call 13; refine (KD.out _).mono ?_; rintro _ w1 ⟨rfl, s1⟩)
    | (go_at_call 15; refine (K2.out _ _).mono ?_; rintro _ w1 ⟨rfl, rfl⟩)
    | (go_at_call 17; refine (K3.out _ _).mono ?_; rintro _ w1 ⟨rfl, rfl⟩)
    | (go_at_call 23; refine (K4.out _).mono ?_; rintro _ w1 ⟨rfl, rfl⟩)
    | (go_at_call 24; refine (K5.out _).mono ?_; rintro _ w1 ⟨rfl, rfl⟩)
    | (go_at_call 22; refine (K6.out _).mono ?_; rintro _ w1 ⟨rfl, rfl⟩)
    | (go_at_call 27; refine (K7.out _ _).mono ?_; rintro _ w1 ⟨rfl, rfl⟩))
  refine (KN.out _).mono ?_
  rintro _ w2 ⟨rfl, rfl⟩
  have S1 : Aside (Stp [] w [] (w1.alloc o)) := ((Stp.alloc [] w _).trans s1).trans (Stp.alloc [] w1 o)
  clear s1
  go_wp2_with fail
  refine (KA.out _).mono ?_
  rintro _ w3 ⟨b, g, rfl, hb, hg, ha, s3⟩
  have S3 : Aside (Ar w3 b g 50 [] ∧ Stp [] w [] w3 ∧ w.heap.size ≤ b ∧ w.heap.size ≤ g) := ⟨ha, S1.out.trans s3.none, by have := S1.out.size; omega, by have := S1.out.size; omega⟩
  clear ho hmk KA KN K1 K2 K3 K4 K5 K6 K7 KD hb hg ha s3 S1
  go_wp2_with fail
  refine (alive_run _).mono ?_
  rintro _ w4 ⟨rfl, s4⟩
  have S4 : Aside (Ar w4 b g 50 [] ∧ Stp [] w [] w4 ∧ w.heap.size ≤ b ∧ w.heap.size ≤ g) := ⟨S3.out.1.stays s4, S3.out.2.1.trans s4, S3.out.2.2⟩
  clear s4 S3
  by_cases hc : (50 : Int) < (n : Int)
  · have hcm : 50 ≤ n := by omega
    have KI := Lib.hid (insert_run S4.out.1 0 a1 (t.take 50) 50 cap1 ((show Bts w a1 (t.take 50) from by
      have h0 := HT.out.1
      intro hne
      obtain ⟨bb, off, e1, e2⟩ := h0 (by intro e; subst e; simp at hne)
      refine ⟨bb, off, e1, fun i hi => ?_⟩
      simp at hi
      rw [e2 i (by omega), getElem!_pos t i (by omega), getElem!_pos _ i (by simp; omega)]
      simp).stays S4.out.2.1) (fun hne ad e => by
      obtain ⟨bb, off, e2, hlt⟩ := HT.out.1.blk (by intro e; subst e; simp at hne)
      rw [e2] at e
      cases e
      have := S4.out.2.2
      show bb ≠ g
      omega) (by have := HT.out.2.1; simp <;> omega) (by simp) (by simp <;> omega))
    have hc2 := HT.out.2.2
    go_wp2_with fail
    refine KI.out.mono ?_
    rintro _ w5 ⟨rfl, h5, s5⟩
    have S5 : Aside (Ar w5 b g 50 ([].take 0 ++ t.take 50 ++ [].drop 0) ∧ Stp [] w [] w5 ∧ w.heap.size ≤ b ∧ w.heap.size ≤ g) := ⟨h5, (S4.out.2.1.fresh s5 (fun i hi => by have := S4.out.2.2; simp at hi; omega)).none, S4.out.2.2⟩
    clear h5 s5 KI S4
    have KN := Lib.hid (enew_run S5.out.1)
    go_wp2_with fail
    refine KN.out.mono ?_
    rintro _ w6 ⟨e, rfl, he, hb6, s6⟩
    have S6 : Aside (Eb w w6 e b g 50 [] []) := ⟨hb6, (S5.out.2.1.fresh (s6.more (F' := [e, b, g]) (G := [b, g]) (fun k hk => hk)) (fun i hi => by have := S5.out.2.2; simp at hi; omega)).none, by have := S5.out.2.1.size; omega, S5.out.2.2⟩
    have KZ := Lib.hid (zero_run hb6.ar)
    have e0 : zeros (fl ([] ++ [])) = true := rfl
    rw [e0] at KZ
    clear hb6 s6 he KN e0
    go_wp2_with fail
    refine KZ.out.mono ?_
    rintro _ w7 ⟨rfl, q, hw⟩
    have S7 : Aside (Eb w w7 e b g 50 [] []) := by rw [hw]; exact S6.out.stays (Stp.drewN _ _ _)
    have KL : Calls Tryd.prog 22 #[.pointer (some ⟨e, 0, none⟩)] w7 (Gives (.int .i64 0) w7) := blen_run S7.out.bu
    have KL := Lib.hid KL
    have KT : Calls Tryd.prog 24 #[.pointer (some ⟨e, 0, none⟩)] w7 (Gives (.int .i64 0) w7) := bat_run S7.out.bu
    have KT := Lib.hid KT
    clear hw KZ S6
    go_wp2_with fail
    refine KL.out.mono ?_
    rintro _ _ ⟨rfl, rfl⟩
    go_wp2_with fail
    refine KT.out.mono ?_
    rintro _ _ ⟨rfl, rfl⟩
    go_wp2
    go_ret
    exact ⟨rfl, S7.out.stp⟩
  · have hcm : n ≤ 50 := by omega
    have KI := Lib.hid (insert_run S4.out.1 0 a1 (t.take n) n cap1 ((show Bts w a1 (t.take n) from by
      have h0 := HT.out.1
      intro hne
      obtain ⟨bb, off, e1, e2⟩ := h0 (by intro e; subst e; simp at hne)
      refine ⟨bb, off, e1, fun i hi => ?_⟩
      simp at hi
      rw [e2 i (by omega), getElem!_pos t i (by omega), getElem!_pos _ i (by simp; omega)]
      simp).stays S4.out.2.1) (fun hne ad e => by
      obtain ⟨bb, off, e2, hlt⟩ := HT.out.1.blk (by intro e; subst e; simp at hne)
      rw [e2] at e
      cases e
      have := S4.out.2.2
      show bb ≠ g
      omega) (by have := HT.out.2.1; simp <;> omega) (by simp) (by simp <;> omega))
    have hc2 := HT.out.2.2
    go_wp2_with fail
    refine KI.out.mono ?_
    rintro _ w5 ⟨rfl, h5, s5⟩
    have S5 : Aside (Ar w5 b g 50 ([].take 0 ++ t.take n ++ [].drop 0) ∧ Stp [] w [] w5 ∧ w.heap.size ≤ b ∧ w.heap.size ≤ g) := ⟨h5, (S4.out.2.1.fresh s5 (fun i hi => by have := S4.out.2.2; simp at hi; omega)).none, S4.out.2.2⟩
    clear h5 s5 KI S4
    have KN := Lib.hid (enew_run S5.out.1)
    go_wp2_with fail
    refine KN.out.mono ?_
    rintro _ w6 ⟨e, rfl, he, hb6, s6⟩
    have S6 : Aside (Eb w w6 e b g 50 [] []) := ⟨hb6, (S5.out.2.1.fresh (s6.more (F' := [e, b, g]) (G := [b, g]) (fun k hk => hk)) (fun i hi => by have := S5.out.2.2; simp at hi; omega)).none, by have := S5.out.2.1.size; omega, S5.out.2.2⟩
    have KZ := Lib.hid (zero_run hb6.ar)
    have e0 : zeros (fl ([] ++ [])) = true := rfl
    rw [e0] at KZ
    clear hb6 s6 he KN e0
    go_wp2_with fail
    refine KZ.out.mono ?_
    rintro _ w7 ⟨rfl, q, hw⟩
    have S7 : Aside (Eb w w7 e b g 50 [] []) := by rw [hw]; exact S6.out.stays (Stp.drewN _ _ _)
    have KL : Calls Tryd.prog 22 #[.pointer (some ⟨e, 0, none⟩)] w7 (Gives (.int .i64 0) w7) := blen_run S7.out.bu
    have KL := Lib.hid KL
    have KT : Calls Tryd.prog 24 #[.pointer (some ⟨e, 0, none⟩)] w7 (Gives (.int .i64 0) w7) := bat_run S7.out.bu
    have KT := Lib.hid KT
    clear hw KZ S6
    go_wp2_with fail
    refine KL.out.mono ?_
    rintro _ _ ⟨rfl, rfl⟩
    go_wp2_with fail
    refine KT.out.mono ?_
    rintro _ _ ⟨rfl, rfl⟩
    go_wp2
    go_ret
    exact ⟨rfl, S7.out.stp⟩
end Go.Proofs.YtblmpaplggnajaaDoor
