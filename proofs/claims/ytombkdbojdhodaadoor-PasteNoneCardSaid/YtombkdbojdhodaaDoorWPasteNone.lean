/-
  The walk of PasteNone: of no stage, and no arena, nothing is told; without a buffer a paste is lost.
-/
import Derived.Test.YtombkdbojdhodaaDoorLw
namespace Go.Proofs.YtombkdbojdhodaaDoor
open Go.RowKit Go.Lib
set_option linter.unusedVariables false

theorem adS_bg (N : Nat) (c : Int) (t : Sv) (h : t.bg = true) : (adS N c t).2.bg = true := by
  unfold adS
  rw [if_pos h]
  (repeat' split) <;> first | rfl | exact h
/-- A stage that is new since w. -/
structure Sw (w W : World) (s b g N : Nat) (t : Sv) : Prop where
  sg : Sg W s b g N t
  stp : Stp [] w [] W
  new : w.heap.size ≤ s ∧ w.heap.size ≤ b ∧ w.heap.size ≤ g
theorem Sw.stays {w W W' : World} {s b g N : Nat} {t : Sv} {F : List Nat} (h : Sw w W s b g N t) (hs : Stp [] W F W') : Sw w W' s b g N t := ⟨h.sg.stays hs, h.stp.trans hs.none, h.new⟩
theorem Sw.act {w W W' : World} {s b g N : Nat} {t t' : Sv} (h : Sw w W s b g N t) (hg : Sg W' s b g N t') (hs : Stp [s, b, g] W [s, b, g] W') : Sw w W' s b g N t' :=
  ⟨hg, (h.stp.fresh hs (fun i hi => by have := h.new; simp at hi; omega)).none, h.new⟩
set_option maxHeartbeats 1000000 in
set_option maxRecDepth 100000 in
theorem none_walk (c : Int) (a1 : Option Addr) (cap1 n : Nat) (t : List UInt8) (w : World) (hb : Bts w a1 t) (hn : n = t.length) (hcap : n ≤ cap1) (hm : cap1 ≤ maxLen) (hT : U.Tabs w) :
    Calls Tryd.prog 4 #[.int .i64 c, .slice a1 n cap1] w (Tells (.bool true) w) := by
  have HT : Aside (Bts w a1 t ∧ n = t.length ∧ n ≤ cap1 ∧ U.Tabs w) := ⟨hb, hn, hcap, hT⟩
  have K1 := Lib.hid drop_nil
  have K2 := Lib.hid start_nil
  have K3 := Lib.hid add_nil
  have K4 := Lib.hid end_nil
  have K5 := Lib.hid begun_nil
  have K6 := Lib.hid over_nil
  have K7 := Lib.hid slen_nil
  have KN := Lib.hid snew_nil
  have KA : ∀ W, Calls Tryd.prog 33 #[.int .i64 50] W (Newed W 50) := fun W => new_run 50 W (by omega) (by omega)
  have KA := Lib.hid KA
  obtain ⟨k, hk, hmn⟩ : ∃ k, k = min n 50 ∧ ∀ (w : World) (ts : Array TypeId) (t : TypeId), (Builtin.min_ ts t #[.int .i64 (n : Int), .int .i64 50]).run Tryd.prog w = .ok (.int .i64 (k : Int)) w := by
    rcases Nat.le_total n 50 with h | h
    · exact ⟨n, by omega, min_fst n 50 h⟩
    · exact ⟨50, by omega, min_snd n 50 h⟩
  have s1 := cut_h a1 n cap1 k (by omega)
  have HK : Aside (k ≤ 50 ∧ k ≤ t.length) := ⟨by omega, by omega⟩
  clear hb hn hcap hm hT hk
  go_enter Tryd.func4, Tryd.ntmps4
  go_wp2_with (first
    | (go_at_call 17; refine (K1.out _).mono ?_; rintro _ w1 ⟨rfl, rfl⟩)
    | (go_at_call 11; refine (K2.out _).mono ?_; rintro _ w1 ⟨rfl, rfl⟩)
    | (go_at_call 13; refine (K3.out _ _).mono ?_; rintro _ w1 ⟨rfl, rfl⟩)
    | (go_at_call 15; refine (K4.out _ _).mono ?_; rintro _ w1 ⟨rfl, rfl⟩)
    | (go_at_call 24; refine (K5.out _).mono ?_; rintro _ w1 ⟨rfl, rfl⟩)
    | (go_at_call 25; refine (K6.out _).mono ?_; rintro _ w1 ⟨rfl, rfl⟩)
    | (go_at_call 26; refine (K7.out _).mono ?_; rintro _ w1 ⟨rfl, rfl⟩))
  refine (KN.out _).mono ?_
  rintro _ w2 ⟨rfl, rfl⟩
  obtain ⟨w, hw⟩ : ∃ w, w = w2 := ⟨_, rfl⟩
  subst hw
  go_wp2_with fail
  refine (KA.out _).mono ?_
  rintro _ w3 ⟨b, g, rfl, hb, hg, ha, s3⟩
  have H3 : Aside (Ar w3 b g 50 [] ∧ Stp [] w [] w3 ∧ w.heap.size ≤ b ∧ w.heap.size ≤ g) := ⟨ha, s3.none, hb, hg⟩
  have KV := Lib.hid (alive_run w3 (tabs_stays HT.out.2.2.2 s3))
  clear K1 K2 K3 K4 K5 K6 K7 KN KA ha hb hg s3
  go_wp2_with fail
  refine KV.out.mono ?_
  rintro _ w4 ⟨rfl, s4⟩
  have H4 : Aside (Ar w4 b g 50 [] ∧ Stp [] w [] w4 ∧ w.heap.size ≤ b ∧ w.heap.size ≤ g) := ⟨H3.out.1.stays s4, H3.out.2.1.trans s4, H3.out.2.2⟩
  have KI := Lib.hid (insert_run H4.out.1 0 a1 (t.take k) k cap1 ((show Bts w a1 (t.take k) from by
      have h0 := HT.out.1
      intro hne
      obtain ⟨bb, off, e1, e2⟩ := h0 (by intro e; subst e; simp at hne)
      refine ⟨bb, off, e1, fun i hi => ?_⟩
      simp at hi
      rw [e2 i (by omega), getElem!_pos t i (by omega), getElem!_pos _ i (by simp; omega)]
      simp).stays H4.out.2.1) (fun hne ad e => by
      obtain ⟨bb, off, e2, hlt⟩ := HT.out.1.blk (by intro e; subst e; simp at hne)
      rw [e2] at e
      cases e
      have := H4.out.2.2
      show bb ≠ g
      omega) (by have := HK.out; simp <;> omega) (by simp) (by have := HK.out; simp <;> omega))
  clear s4 KV H3
  go_wp2_with fail
  refine KI.out.mono ?_
  rintro _ w5 ⟨rfl, h5, s5⟩
  have H5 : Aside (Ar w5 b g 50 ([].take 0 ++ t.take k ++ [].drop 0) ∧ Stp [] w [] w5 ∧ w.heap.size ≤ b ∧ w.heap.size ≤ g) := ⟨h5, (H4.out.2.1.fresh s5 (fun i hi => by have := H4.out.2.2; simp at hi; omega)).none, H4.out.2.2⟩
  clear h5 s5 KI H4
  have KN := Lib.hid (snew_run H5.out.1)
  go_wp2_with fail
  refine KN.out.mono ?_
  rintro _ w6 ⟨s, rfl, he, hs6, s6⟩
  have H6 : Aside (Sw w w6 s b g 50 sv0) := ⟨hs6, (H5.out.2.1.fresh (s6.more (F' := [s, b, g]) (G := [b, g]) (fun k hk => hk)) (fun i hi => by have := H5.out.2.2; simp at hi; omega)).none, by have := H5.out.2.1.size; omega, H5.out.2.2⟩
  have KZ := Lib.hid (zero_run hs6.ar)
  have e0 : zeros (fl sv0.X) = true := rfl
  rw [e0] at KZ
  clear hs6 s6 he KN e0
  go_wp2_with fail
  refine KZ.out.mono ?_
  rintro _ w7 ⟨rfl, q, hw⟩
  have H7 : Aside (Sw w w7 s b g 50 sv0) := by rw [hw]; exact H6.out.stays (Stp.drewN _ _ _)
  have KG : Calls Tryd.prog 24 #[.pointer (some ⟨s, 0, none⟩)] w7 (Gives (.bool false) w7) := begun_run H7.out.sg
  have KG := Lib.hid KG
  clear hw KZ H6
  go_wp2_with fail
  refine KG.out.mono ?_
  rintro _ _ ⟨rfl, rfl⟩
  have KE := end_none H7.out.sg
  rw [show (if sv0.bg = true then (1 : Int) else 11) = 11 from rfl] at KE
  have KE := Lib.hid KE
  go_wp2_with fail
  refine KE.out.mono ?_
  rintro _ w8 ⟨rfl, h8, s8⟩
  have H8 : Aside (Sw w w8 s b g 50 sv0) := H7.out.act h8 s8
  have KS : Calls Tryd.prog 11 #[.pointer (some ⟨s, 0, none⟩)] w8 (SDid s b g 50 (0, ⟨[], true, false⟩) w8) := start_run H8.out.sg
  have KS := Lib.hid KS
  clear KE KG h8 s8 H7
  go_wp2_with fail
  refine KS.out.mono ?_
  rintro _ w9 ⟨rfl, h9, s9⟩
  have H9 : Aside (Sw w w9 s b g 50 ⟨[], true, false⟩) := H8.out.act h9 s9
  have KD := add_run H9.out.sg c
  have hbg := adS_bg 50 c ⟨[], true, false⟩ rfl
  have KD := Lib.hid KD
  have HB := Lib.hid hbg
  clear KS h9 s9 H8 hbg
  generalize adS 50 c ⟨[], true, false⟩ = r at *
  go_wp2_with fail
  refine KD.out.mono ?_
  rintro _ wa ⟨rfl, ha, sa⟩
  have HA : Aside (Sw w wa s b g 50 r.2) := H9.out.act ha sa
  have KE := end_none HA.out.sg
  rw [if_pos HB.out] at KE
  have KE := Lib.hid KE
  clear KD ha sa H9
  go_wp2_with fail
  refine KE.out.mono ?_
  rintro _ wb ⟨rfl, hb, sb⟩
  have HB : Aside (Sw w wb s b g 50 sv0) := HA.out.act hb sb
  have KZ := Lib.hid (zero_run hb.ar)
  have e0 : zeros (fl sv0.X) = true := rfl
  rw [e0] at KZ
  clear hb sb KE e0 HA
  go_wp2_with fail
  refine KZ.out.mono ?_
  rintro _ wc ⟨rfl, q, hw⟩
  have HC : Aside (Sw w wc s b g 50 sv0) := by rw [hw]; exact HB.out.stays (Stp.drewN _ _ _)
  have KG : Calls Tryd.prog 24 #[.pointer (some ⟨s, 0, none⟩)] wc (Gives (.bool false) wc) := begun_run HC.out.sg
  have KG := Lib.hid KG
  have KL : Calls Tryd.prog 26 #[.pointer (some ⟨s, 0, none⟩)] wc (Gives (.int .i64 0) wc) := slen_run HC.out.sg
  have KL := Lib.hid KL
  clear hw KZ HB
  go_wp2_with fail
  refine KG.out.mono ?_
  rintro _ _ ⟨rfl, rfl⟩
  go_wp2_with fail
  refine KL.out.mono ?_
  rintro _ _ ⟨rfl, rfl⟩
  go_wp2
  go_ret
  exact ⟨rfl, HC.out.stp⟩
end Go.Proofs.YtombkdbojdhodaaDoor
