/-
  The walk of EditbufVacates: whatever keys come, all cells behind the bytes are 0, the bytes are right.
-/
import Derived.Test.YtblmpaplggnajaaDoorGreatE
import Derived.Test.YtblmpaplggnajaaDoorWEditbufFull
import Derived.Deep.RegionHeld3
namespace Go.Proofs.YtblmpaplggnajaaDoor
open Go.RowKit Go.Lib
set_option linter.unusedVariables false

theorem great_at (a : Option Addr) (cap n : Nat) (l : List Ac) (w : World) (hU : As w a l) (hn : n = l.length) (hl : n ≤ 9223372036854775807) (g : Bool) (hg : Great l = g) :
    ∀ W, Stp [] w [] W → Calls Tryd.prog 12 #[.slice a n cap] W (Tells (.bool g) W) := fun W hs => by
  subst hg
  refine great_run a cap n l W (fun hne => ?_) hn hl
  obtain ⟨b, off, h1, hb, h2⟩ := hU hne
  refine ⟨b, off, h1, Nat.lt_of_lt_of_le hb hs.size, fun i hi => ?_⟩
  obtain ⟨c0, c1, c2, c3, c4, c5⟩ := h2 i hi
  have hn : b ∉ ([] : List Nat) := fun h => by cases h
  exact ⟨(hs.cell (a := ⟨b, _, none⟩) hb hn).trans c0, (hs.cell (a := ⟨b, _, none⟩) hb hn).trans c1, (hs.cell (a := ⟨b, _, none⟩) hb hn).trans c2, (hs.cell (a := ⟨b, _, none⟩) hb hn).trans c3, c4.stays hs, c5⟩
/-- Put at a buffer that is new since w. -/
theorem put_eb {w W : World} {e b g N : Nat} {A B : List Nat} (h : Eb w W e b g N A B) (c : Int) : ∀ W', Stp [] W [] W' →
    Calls Tryd.prog 15 #[.pointer (some ⟨e, 0, none⟩), .int .i64 c] W' fun en w' => en = .returned (.int .i64 (putS N c A B).e) ∧ Eb w w' e b g N (putS N c A B).A (putS N c A B).B ∧ Stp [e, b, g] W [e, b, g] w' := fun W' hs =>
  (bput_run (h.bu.stays hs) c).mono fun _ _ ⟨h1, h2, h3⟩ => ⟨h1, (h.stays hs).act h2 h3, (hs.more (fun k hk => by cases hk)).trans h3⟩
set_option maxHeartbeats 4000000 in
set_option maxRecDepth 100000 in
theorem vacates_walk (pn : Int) (a1 : Option Addr) (cap1 n : Nat) (l : List Ac) (w : World) (hb : As w a1 l) (hn : n = l.length) (hnn : n ≤ 9223372036854775807) (hT : U.Tabs w) :
    Calls Tryd.prog 5 #[.int .i64 pn, .slice a1 n cap1] w (Tells (.bool true) w) := by
  have HT : Aside (As w a1 l ∧ n = l.length ∧ U.Tabs w) := ⟨hb, hn, hT⟩
  have KS := Lib.hid (fun W => size_run pn W)
  obtain ⟨hN1, hN2⟩ := sizeN_bounds pn
  obtain ⟨N, eN⟩ : ∃ N, N = sizeN pn := ⟨_, rfl⟩
  rw [← eN] at KS hN1 hN2
  have KB : ∀ W, Calls Tryd.prog 9 #[.int .i64 (N : Int)] W (Begun N W) := fun W => begin_run N W hN1 (by omega)
  have KB := Lib.hid KB
  have KG := Lib.hid (great_at a1 cap1 n l w hb hn hnn (Great l) rfl)
  clear hb hn hT eN
  go_enter Tryd.func5, Tryd.ntmps5
  go_wp2_with fail
  refine (KS.out _).mono ?_
  rintro _ w ⟨rfl, rfl⟩
  go_wp2_with fail
  refine (KB.out _).mono ?_
  rintro _ w1 ⟨e, b, g, rfl, h1⟩
  have H1 : Aside (Eb w w1 e b g N [] []) := h1
  clear h1 KB
  go_wp2_with fail
  refine (alive_run w1).mono ?_
  rintro _ w3 ⟨rfl, s3⟩
  have H3 : Aside (Eb w w3 e b g N [] []) := H1.out.stays s3
  clear H1 s3
  have KG := Lib.hid (KG.out w3 H3.out.stp)
  go_wp2_with fail
  refine KG.out.mono ?_
  rintro _ w4 ⟨rfl, s4⟩
  have H4 : Aside (Eb w w4 e b g N [] []) := H3.out.stays s4
  clear s4 KG H3
  cases hG : Great l with
  | true =>
    go_wp2_with fail
    refine (alive_run w4).mono ?_
    rintro _ w5 ⟨rfl, s5⟩
    have H5 : Aside (Stp [] w [] w5) := H4.out.stp.trans s5
    clear H4 s5
    go_wp2
    go_ret
    exact ⟨rfl, H5.out⟩
  | false =>
    have hn200 : n ≤ 200 := by
      have h1 := HT.out.2.1
      unfold Great at hG
      rw [Bool.or_eq_false_iff] at hG
      have := of_decide_eq_false hG.1
      omega
    clear hG
    go_wp2_with fail
    go_loopg [32] n (fun gk vi wr => ∃ i : Nat, vi = .int .i64 (i : Int) ∧ i ≤ n ∧ n - i ≤ gk ∧ Aside (∃ A B, Eb w wr e b g N A B))
    case atStart => exact ⟨0, rfl, Nat.zero_le _, by omega, [], [], H4.out⟩
    case round =>
      obtain ⟨i, rfl, hi, hg, HS⟩ := hrel
      obtain ⟨A, B, hA⟩ : ∃ A B, Eb w wr e b g N A B := HS.out
      have HA := Lib.hid hA
      clear hA HS
      by_cases hlt : i < n
      · have hltz : (i : Int) < (n : Int) := by omega
        obtain ⟨lb, off, rfl, c0, c1, c2, c3, hbx, _, hxc, hxm, hkw⟩ := HT.out.1.at HA.out.stp (i := i) (by have := HT.out.2.1; omega)
        generalize l[i]! = y at *
        obtain ⟨k, ka, kb, p, cap, x⟩ := y
        dsimp only at c0 c1 c2 c3 hbx hxc hxm hkw
        obtain ⟨nx, hnx⟩ : ∃ nx, nx = x.length := ⟨_, rfl⟩
        rw [← hnx] at c3 hxc
        have HI : Aside (i < n) := hlt
        have KD := Lib.hid (do_eb HA.out ka kb hkw)
        have KP := Lib.hid (put_eb HA.out kb)
        have KI := Lib.hid (ins_eb2 HA.out HT.out.2.2 p nx cap x hbx hnx hxc hxm)
        clear hbx hnx hxc hxm hlt hkw
        by_cases hk0 : k = 0
        · subst hk0
          go_wp2_with fail
          refine (KD.out _ (Stp.alloc [] wr _)).mono ?_
          rintro _ w6 ⟨rfl, h6, s6⟩
          have H6 : Aside (∃ A B, Eb w w6 e b g N A B) := ⟨_, _, h6⟩
          clear h6 s6 KD KP KI
          obtain ⟨C, D, hCD⟩ : ∃ A B, Eb w w6 e b g N A B := H6.out
          have HCD := Lib.hid hCD
          have KT := Lib.hid (text_run hCD.bu)
          obtain ⟨T, hTT⟩ : ∃ T, T = fl (C ++ D) := ⟨_, rfl⟩
          rw [← hTT] at KT
          have HTT := Lib.hid (And.intro hTT (show T.length ≤ N by rw [hTT]; exact hCD.bu.lens.2.1))
          clear hCD hTT H6
          go_wp2_with fail
          refine KT.out.mono ?_
          rintro _ w7 ⟨rfl, s7⟩
          obtain ⟨at8, ct8, w8, hcv, hbt8, hcc8, hcm8, s8⟩ := conv_st w7 T (by have := HTT.out.2; omega)
          have H8 : Aside (Eb w w8 e b g N C D ∧ Bts w8 at8 T) := ⟨(HCD.out.stays s7).stays s8, hbt8⟩
          obtain ⟨tl, htl⟩ : ∃ tl, tl = T.length := ⟨_, rfl⟩
          rw [← htl] at hcv hcc8
          have htlN : tl ≤ N := by have := HTT.out.2; omega
          have HTL := Lib.hid (And.intro htl (And.intro hcc8 hcm8))
          have hfi : fiB T = true := (fi_iff T).2 ⟨C ++ D, HCD.out.bu.pr, HTT.out.1⟩
          have KF := rfine_run at8 tl ct8 T w8 H8.out.2 htl hcc8 hcm8
          rw [hfi] at KF
          have KF := Lib.hid KF
          clear hbt8 s7 s8 KT htl hcc8 hcm8 hfi
          go_wp2_with fail
          refine KF.out.mono ?_
          rintro _ w9 ⟨rfl, s9⟩
          have H9 : Aside (Eb w w9 e b g N C D ∧ Bts w9 at8 T) := ⟨H8.out.1.stays s9, H8.out.2.stays s9⟩
          have hch : (chs T).length = (C ++ D).length := by rw [HTT.out.1, chs_fl HCD.out.bu.pr]
          have KU := count8 at8 tl ct8 T w9 H9.out.2 HTL.out.1 HTL.out.2.1 HTL.out.2.2 (by omega) (tabs_stays HT.out.2.2 H9.out.1.stp)
          rw [hch] at KU
          have hal : C.length ≤ (C ++ D).length := by simp
          obtain ⟨cn, hcn⟩ : ∃ cn, cn = (C ++ D).length := ⟨_, rfl⟩
          obtain ⟨al, hal2⟩ : ∃ al, al = C.length := ⟨_, rfl⟩
          rw [← hcn, ← hal2] at hal
          rw [← hcn] at KU
          have HN := Lib.hid (And.intro hcn hal2)
          have KU := Lib.hid KU
          have hsf : ((cn : Int) != (cn : Int)) = false := by simp
          have hsl : ((tl : Int) != (tl : Int)) = false := by simp
          have ha0 : decide ((al : Int) < 0) = false := decide_eq_false (by omega)
          have hac : decide ((cn : Int) < (al : Int)) = false := decide_eq_false (by omega)
          have hac2 : decide (cn < al) = false := decide_eq_false (by omega)
          clear s9 KF H8 hch hcn hal2 hal hcv
          go_wp2_with fail
          refine KU.out.mono ?_
          rintro _ w10 ⟨rfl, s10⟩
          have H10 : Aside (Eb w w10 e b g N C D) := H9.out.1.stays s10
          have KC := bcount_run H10.out.bu
          rw [← HN.out.1] at KC
          have KC := Lib.hid KC
          have KA := bat_run H10.out.bu
          rw [← HN.out.2] at KA
          have KA := Lib.hid KA
          have KL := len_cl H10.out.bu.ar
          rw [← HTT.out.1, ← HTL.out.1] at KL
          have KL := Lib.hid KL
          clear s10 KU H9
          go_wp2_with fail
          refine KC.out.mono ?_
          rintro _ w10 ⟨rfl, rfl⟩
          go_wp2_with fail
          refine KA.out.mono ?_
          rintro _ w10 ⟨rfl, rfl⟩
          go_wp2_with fail
          refine KA.out.mono ?_
          rintro _ w10 ⟨rfl, rfl⟩
          go_wp2_with fail
          refine KC.out.mono ?_
          rintro _ w10 ⟨rfl, rfl⟩
          go_wp2_with fail
          refine KL.out.mono ?_
          rintro _ w10 ⟨rfl, rfl⟩
          have HC10 : Aside (∀ j : Nat, tl ≤ j → j < N → Calls Tryd.prog 34 #[.pointer (some ⟨b, 0, none⟩), .int .i64 (j : Int)] w10 (Gives (.tuple #[.int .u8 0, .int .i64 0]) w10)) := fun j h1 h2 => by
            have h := cell_run H10.out.bu.ar j h2
            rw [pad_zero (by rw [← HTT.out.1, ← HTL.out.1]; exact h1) h2] at h
            exact h
          clear KC KA KL
          go_wp2_with fail
          rename_i wz
          go_loopg [10] (N + 1) (fun gk vi wr => ∃ j : Nat, vi = .int .i64 (j : Int) ∧ tl ≤ j ∧ j ≤ N ∧ N - j ≤ gk ∧ Aside (wr = w10))
          case atStart => exact ⟨tl, rfl, Nat.le_refl _, htlN, by omega, rfl⟩
          case round =>
            obtain ⟨j, rfl, hj1, hj2, hg3, HW⟩ := hrel
            obtain rfl := HW.out
            by_cases hlt : j < N
            · have hltz2 : (j : Int) < (N : Int) := by omega
              have KX := Lib.hid (HC10.out j hj1 hlt)
              go_wp2_with fail
              refine (KS.out _).mono ?_
              rintro _ w10 ⟨rfl, rfl⟩
              go_wp2_with fail
              refine KX.out.mono ?_
              rintro _ w10 ⟨rfl, rfl⟩
              go_wp2
              go_roundg (N - (j + 1))
              case measure => omega
              case rel => exact ⟨j + 1, by go_num, by omega, by omega, by omega, rfl⟩
            · have hltz2 : ¬ (j : Int) < (N : Int) := by omega
              go_wp2_with fail
              refine (KS.out _).mono ?_
              rintro _ w10 ⟨rfl, rfl⟩
              go_wp2
              go_roundg (n - (i + 1))
              case measure => have := HI.out; omega
              case rel => exact ⟨i + 1, by go_num, by have := HI.out; omega, by omega, C, D, H10.out⟩
        by_cases hk1 : k = 1
        · subst hk1
          go_wp2_with fail
          refine (KP.out _ (Stp.alloc [] wr _)).mono ?_
          rintro _ w6 ⟨rfl, h6, s6⟩
          have H6 : Aside (∃ A B, Eb w w6 e b g N A B) := ⟨_, _, h6⟩
          clear h6 s6 KD KP KI hk0
          obtain ⟨C, D, hCD⟩ : ∃ A B, Eb w w6 e b g N A B := H6.out
          have HCD := Lib.hid hCD
          have KT := Lib.hid (text_run hCD.bu)
          obtain ⟨T, hTT⟩ : ∃ T, T = fl (C ++ D) := ⟨_, rfl⟩
          rw [← hTT] at KT
          have HTT := Lib.hid (And.intro hTT (show T.length ≤ N by rw [hTT]; exact hCD.bu.lens.2.1))
          clear hCD hTT H6
          go_wp2_with fail
          refine KT.out.mono ?_
          rintro _ w7 ⟨rfl, s7⟩
          obtain ⟨at8, ct8, w8, hcv, hbt8, hcc8, hcm8, s8⟩ := conv_st w7 T (by have := HTT.out.2; omega)
          have H8 : Aside (Eb w w8 e b g N C D ∧ Bts w8 at8 T) := ⟨(HCD.out.stays s7).stays s8, hbt8⟩
          obtain ⟨tl, htl⟩ : ∃ tl, tl = T.length := ⟨_, rfl⟩
          rw [← htl] at hcv hcc8
          have htlN : tl ≤ N := by have := HTT.out.2; omega
          have HTL := Lib.hid (And.intro htl (And.intro hcc8 hcm8))
          have hfi : fiB T = true := (fi_iff T).2 ⟨C ++ D, HCD.out.bu.pr, HTT.out.1⟩
          have KF := rfine_run at8 tl ct8 T w8 H8.out.2 htl hcc8 hcm8
          rw [hfi] at KF
          have KF := Lib.hid KF
          clear hbt8 s7 s8 KT htl hcc8 hcm8 hfi
          go_wp2_with fail
          refine KF.out.mono ?_
          rintro _ w9 ⟨rfl, s9⟩
          have H9 : Aside (Eb w w9 e b g N C D ∧ Bts w9 at8 T) := ⟨H8.out.1.stays s9, H8.out.2.stays s9⟩
          have hch : (chs T).length = (C ++ D).length := by rw [HTT.out.1, chs_fl HCD.out.bu.pr]
          have KU := count8 at8 tl ct8 T w9 H9.out.2 HTL.out.1 HTL.out.2.1 HTL.out.2.2 (by omega) (tabs_stays HT.out.2.2 H9.out.1.stp)
          rw [hch] at KU
          have hal : C.length ≤ (C ++ D).length := by simp
          obtain ⟨cn, hcn⟩ : ∃ cn, cn = (C ++ D).length := ⟨_, rfl⟩
          obtain ⟨al, hal2⟩ : ∃ al, al = C.length := ⟨_, rfl⟩
          rw [← hcn, ← hal2] at hal
          rw [← hcn] at KU
          have HN := Lib.hid (And.intro hcn hal2)
          have KU := Lib.hid KU
          have hsf : ((cn : Int) != (cn : Int)) = false := by simp
          have hsl : ((tl : Int) != (tl : Int)) = false := by simp
          have ha0 : decide ((al : Int) < 0) = false := decide_eq_false (by omega)
          have hac : decide ((cn : Int) < (al : Int)) = false := decide_eq_false (by omega)
          have hac2 : decide (cn < al) = false := decide_eq_false (by omega)
          clear s9 KF H8 hch hcn hal2 hal hcv
          go_wp2_with fail
          refine KU.out.mono ?_
          rintro _ w10 ⟨rfl, s10⟩
          have H10 : Aside (Eb w w10 e b g N C D) := H9.out.1.stays s10
          have KC := bcount_run H10.out.bu
          rw [← HN.out.1] at KC
          have KC := Lib.hid KC
          have KA := bat_run H10.out.bu
          rw [← HN.out.2] at KA
          have KA := Lib.hid KA
          have KL := len_cl H10.out.bu.ar
          rw [← HTT.out.1, ← HTL.out.1] at KL
          have KL := Lib.hid KL
          clear s10 KU H9
          go_wp2_with fail
          refine KC.out.mono ?_
          rintro _ w10 ⟨rfl, rfl⟩
          go_wp2_with fail
          refine KA.out.mono ?_
          rintro _ w10 ⟨rfl, rfl⟩
          go_wp2_with fail
          refine KA.out.mono ?_
          rintro _ w10 ⟨rfl, rfl⟩
          go_wp2_with fail
          refine KC.out.mono ?_
          rintro _ w10 ⟨rfl, rfl⟩
          go_wp2_with fail
          refine KL.out.mono ?_
          rintro _ w10 ⟨rfl, rfl⟩
          have HC10 : Aside (∀ j : Nat, tl ≤ j → j < N → Calls Tryd.prog 34 #[.pointer (some ⟨b, 0, none⟩), .int .i64 (j : Int)] w10 (Gives (.tuple #[.int .u8 0, .int .i64 0]) w10)) := fun j h1 h2 => by
            have h := cell_run H10.out.bu.ar j h2
            rw [pad_zero (by rw [← HTT.out.1, ← HTL.out.1]; exact h1) h2] at h
            exact h
          clear KC KA KL
          go_wp2_with fail
          rename_i wz
          go_loopg [10] (N + 1) (fun gk vi wr => ∃ j : Nat, vi = .int .i64 (j : Int) ∧ tl ≤ j ∧ j ≤ N ∧ N - j ≤ gk ∧ Aside (wr = w10))
          case atStart => exact ⟨tl, rfl, Nat.le_refl _, htlN, by omega, rfl⟩
          case round =>
            obtain ⟨j, rfl, hj1, hj2, hg3, HW⟩ := hrel
            obtain rfl := HW.out
            by_cases hlt : j < N
            · have hltz2 : (j : Int) < (N : Int) := by omega
              have KX := Lib.hid (HC10.out j hj1 hlt)
              go_wp2_with fail
              refine (KS.out _).mono ?_
              rintro _ w10 ⟨rfl, rfl⟩
              go_wp2_with fail
              refine KX.out.mono ?_
              rintro _ w10 ⟨rfl, rfl⟩
              go_wp2
              go_roundg (N - (j + 1))
              case measure => omega
              case rel => exact ⟨j + 1, by go_num, by omega, by omega, by omega, rfl⟩
            · have hltz2 : ¬ (j : Int) < (N : Int) := by omega
              go_wp2_with fail
              refine (KS.out _).mono ?_
              rintro _ w10 ⟨rfl, rfl⟩
              go_wp2
              go_roundg (n - (i + 1))
              case measure => have := HI.out; omega
              case rel => exact ⟨i + 1, by go_num, by have := HI.out; omega, by omega, C, D, H10.out⟩
        by_cases hk2 : k = 2
        · subst hk2
          go_wp2_with fail
          refine (KI.out _ (Stp.alloc [] wr _)).mono ?_
          rintro _ w6 ⟨rfl, h6, s6⟩
          have H6 : Aside (∃ A B, Eb w w6 e b g N A B) := ⟨_, _, h6⟩
          clear h6 s6 KD KP KI hk0 hk1
          obtain ⟨C, D, hCD⟩ : ∃ A B, Eb w w6 e b g N A B := H6.out
          have HCD := Lib.hid hCD
          have KT := Lib.hid (text_run hCD.bu)
          obtain ⟨T, hTT⟩ : ∃ T, T = fl (C ++ D) := ⟨_, rfl⟩
          rw [← hTT] at KT
          have HTT := Lib.hid (And.intro hTT (show T.length ≤ N by rw [hTT]; exact hCD.bu.lens.2.1))
          clear hCD hTT H6
          go_wp2_with fail
          refine KT.out.mono ?_
          rintro _ w7 ⟨rfl, s7⟩
          obtain ⟨at8, ct8, w8, hcv, hbt8, hcc8, hcm8, s8⟩ := conv_st w7 T (by have := HTT.out.2; omega)
          have H8 : Aside (Eb w w8 e b g N C D ∧ Bts w8 at8 T) := ⟨(HCD.out.stays s7).stays s8, hbt8⟩
          obtain ⟨tl, htl⟩ : ∃ tl, tl = T.length := ⟨_, rfl⟩
          rw [← htl] at hcv hcc8
          have htlN : tl ≤ N := by have := HTT.out.2; omega
          have HTL := Lib.hid (And.intro htl (And.intro hcc8 hcm8))
          have hfi : fiB T = true := (fi_iff T).2 ⟨C ++ D, HCD.out.bu.pr, HTT.out.1⟩
          have KF := rfine_run at8 tl ct8 T w8 H8.out.2 htl hcc8 hcm8
          rw [hfi] at KF
          have KF := Lib.hid KF
          clear hbt8 s7 s8 KT htl hcc8 hcm8 hfi
          go_wp2_with fail
          refine KF.out.mono ?_
          rintro _ w9 ⟨rfl, s9⟩
          have H9 : Aside (Eb w w9 e b g N C D ∧ Bts w9 at8 T) := ⟨H8.out.1.stays s9, H8.out.2.stays s9⟩
          have hch : (chs T).length = (C ++ D).length := by rw [HTT.out.1, chs_fl HCD.out.bu.pr]
          have KU := count8 at8 tl ct8 T w9 H9.out.2 HTL.out.1 HTL.out.2.1 HTL.out.2.2 (by omega) (tabs_stays HT.out.2.2 H9.out.1.stp)
          rw [hch] at KU
          have hal : C.length ≤ (C ++ D).length := by simp
          obtain ⟨cn, hcn⟩ : ∃ cn, cn = (C ++ D).length := ⟨_, rfl⟩
          obtain ⟨al, hal2⟩ : ∃ al, al = C.length := ⟨_, rfl⟩
          rw [← hcn, ← hal2] at hal
          rw [← hcn] at KU
          have HN := Lib.hid (And.intro hcn hal2)
          have KU := Lib.hid KU
          have hsf : ((cn : Int) != (cn : Int)) = false := by simp
          have hsl : ((tl : Int) != (tl : Int)) = false := by simp
          have ha0 : decide ((al : Int) < 0) = false := decide_eq_false (by omega)
          have hac : decide ((cn : Int) < (al : Int)) = false := decide_eq_false (by omega)
          have hac2 : decide (cn < al) = false := decide_eq_false (by omega)
          clear s9 KF H8 hch hcn hal2 hal hcv
          go_wp2_with fail
          refine KU.out.mono ?_
          rintro _ w10 ⟨rfl, s10⟩
          have H10 : Aside (Eb w w10 e b g N C D) := H9.out.1.stays s10
          have KC := bcount_run H10.out.bu
          rw [← HN.out.1] at KC
          have KC := Lib.hid KC
          have KA := bat_run H10.out.bu
          rw [← HN.out.2] at KA
          have KA := Lib.hid KA
          have KL := len_cl H10.out.bu.ar
          rw [← HTT.out.1, ← HTL.out.1] at KL
          have KL := Lib.hid KL
          clear s10 KU H9
          go_wp2_with fail
          refine KC.out.mono ?_
          rintro _ w10 ⟨rfl, rfl⟩
          go_wp2_with fail
          refine KA.out.mono ?_
          rintro _ w10 ⟨rfl, rfl⟩
          go_wp2_with fail
          refine KA.out.mono ?_
          rintro _ w10 ⟨rfl, rfl⟩
          go_wp2_with fail
          refine KC.out.mono ?_
          rintro _ w10 ⟨rfl, rfl⟩
          go_wp2_with fail
          refine KL.out.mono ?_
          rintro _ w10 ⟨rfl, rfl⟩
          have HC10 : Aside (∀ j : Nat, tl ≤ j → j < N → Calls Tryd.prog 34 #[.pointer (some ⟨b, 0, none⟩), .int .i64 (j : Int)] w10 (Gives (.tuple #[.int .u8 0, .int .i64 0]) w10)) := fun j h1 h2 => by
            have h := cell_run H10.out.bu.ar j h2
            rw [pad_zero (by rw [← HTT.out.1, ← HTL.out.1]; exact h1) h2] at h
            exact h
          clear KC KA KL
          go_wp2_with fail
          rename_i wz
          go_loopg [10] (N + 1) (fun gk vi wr => ∃ j : Nat, vi = .int .i64 (j : Int) ∧ tl ≤ j ∧ j ≤ N ∧ N - j ≤ gk ∧ Aside (wr = w10))
          case atStart => exact ⟨tl, rfl, Nat.le_refl _, htlN, by omega, rfl⟩
          case round =>
            obtain ⟨j, rfl, hj1, hj2, hg3, HW⟩ := hrel
            obtain rfl := HW.out
            by_cases hlt : j < N
            · have hltz2 : (j : Int) < (N : Int) := by omega
              have KX := Lib.hid (HC10.out j hj1 hlt)
              go_wp2_with fail
              refine (KS.out _).mono ?_
              rintro _ w10 ⟨rfl, rfl⟩
              go_wp2_with fail
              refine KX.out.mono ?_
              rintro _ w10 ⟨rfl, rfl⟩
              go_wp2
              go_roundg (N - (j + 1))
              case measure => omega
              case rel => exact ⟨j + 1, by go_num, by omega, by omega, by omega, rfl⟩
            · have hltz2 : ¬ (j : Int) < (N : Int) := by omega
              go_wp2_with fail
              refine (KS.out _).mono ?_
              rintro _ w10 ⟨rfl, rfl⟩
              go_wp2
              go_roundg (n - (i + 1))
              case measure => have := HI.out; omega
              case rel => exact ⟨i + 1, by go_num, by have := HI.out; omega, by omega, C, D, H10.out⟩
        · have H6 : Aside (∀ o, ∃ A B, Eb w (wr.alloc o) e b g N A B) := fun o => ⟨_, _, HA.out.stays (Stp.alloc [] wr o)⟩
          clear KD KP KI
          go_wp2_with fail
          obtain ⟨w6, hw6⟩ : ∃ w6, w6 = wr.alloc (.cells #[.int .i64 k, .int .i64 ka, .int .i64 kb, .slice p nx cap] 38) := ⟨_, rfl⟩
          rw [← hw6]
          have H6 : Aside (∃ A B, Eb w w6 e b g N A B) := by rw [hw6]; exact H6.out _
          clear hw6 hk0 hk1 hk2
          obtain ⟨C, D, hCD⟩ : ∃ A B, Eb w w6 e b g N A B := H6.out
          have HCD := Lib.hid hCD
          have KT := Lib.hid (text_run hCD.bu)
          obtain ⟨T, hTT⟩ : ∃ T, T = fl (C ++ D) := ⟨_, rfl⟩
          rw [← hTT] at KT
          have HTT := Lib.hid (And.intro hTT (show T.length ≤ N by rw [hTT]; exact hCD.bu.lens.2.1))
          clear hCD hTT H6
          refine KT.out.mono ?_
          rintro _ w7 ⟨rfl, s7⟩
          obtain ⟨at8, ct8, w8, hcv, hbt8, hcc8, hcm8, s8⟩ := conv_st w7 T (by have := HTT.out.2; omega)
          have H8 : Aside (Eb w w8 e b g N C D ∧ Bts w8 at8 T) := ⟨(HCD.out.stays s7).stays s8, hbt8⟩
          obtain ⟨tl, htl⟩ : ∃ tl, tl = T.length := ⟨_, rfl⟩
          rw [← htl] at hcv hcc8
          have htlN : tl ≤ N := by have := HTT.out.2; omega
          have HTL := Lib.hid (And.intro htl (And.intro hcc8 hcm8))
          have hfi : fiB T = true := (fi_iff T).2 ⟨C ++ D, HCD.out.bu.pr, HTT.out.1⟩
          have KF := rfine_run at8 tl ct8 T w8 H8.out.2 htl hcc8 hcm8
          rw [hfi] at KF
          have KF := Lib.hid KF
          clear hbt8 s7 s8 KT htl hcc8 hcm8 hfi
          go_wp2_with fail
          refine KF.out.mono ?_
          rintro _ w9 ⟨rfl, s9⟩
          have H9 : Aside (Eb w w9 e b g N C D ∧ Bts w9 at8 T) := ⟨H8.out.1.stays s9, H8.out.2.stays s9⟩
          have hch : (chs T).length = (C ++ D).length := by rw [HTT.out.1, chs_fl HCD.out.bu.pr]
          have KU := count8 at8 tl ct8 T w9 H9.out.2 HTL.out.1 HTL.out.2.1 HTL.out.2.2 (by omega) (tabs_stays HT.out.2.2 H9.out.1.stp)
          rw [hch] at KU
          have hal : C.length ≤ (C ++ D).length := by simp
          obtain ⟨cn, hcn⟩ : ∃ cn, cn = (C ++ D).length := ⟨_, rfl⟩
          obtain ⟨al, hal2⟩ : ∃ al, al = C.length := ⟨_, rfl⟩
          rw [← hcn, ← hal2] at hal
          rw [← hcn] at KU
          have HN := Lib.hid (And.intro hcn hal2)
          have KU := Lib.hid KU
          have hsf : ((cn : Int) != (cn : Int)) = false := by simp
          have hsl : ((tl : Int) != (tl : Int)) = false := by simp
          have ha0 : decide ((al : Int) < 0) = false := decide_eq_false (by omega)
          have hac : decide ((cn : Int) < (al : Int)) = false := decide_eq_false (by omega)
          have hac2 : decide (cn < al) = false := decide_eq_false (by omega)
          clear s9 KF H8 hch hcn hal2 hal hcv
          go_wp2_with fail
          refine KU.out.mono ?_
          rintro _ w10 ⟨rfl, s10⟩
          have H10 : Aside (Eb w w10 e b g N C D) := H9.out.1.stays s10
          have KC := bcount_run H10.out.bu
          rw [← HN.out.1] at KC
          have KC := Lib.hid KC
          have KA := bat_run H10.out.bu
          rw [← HN.out.2] at KA
          have KA := Lib.hid KA
          have KL := len_cl H10.out.bu.ar
          rw [← HTT.out.1, ← HTL.out.1] at KL
          have KL := Lib.hid KL
          clear s10 KU H9
          go_wp2_with fail
          refine KC.out.mono ?_
          rintro _ w10 ⟨rfl, rfl⟩
          go_wp2_with fail
          refine KA.out.mono ?_
          rintro _ w10 ⟨rfl, rfl⟩
          go_wp2_with fail
          refine KA.out.mono ?_
          rintro _ w10 ⟨rfl, rfl⟩
          go_wp2_with fail
          refine KC.out.mono ?_
          rintro _ w10 ⟨rfl, rfl⟩
          go_wp2_with fail
          refine KL.out.mono ?_
          rintro _ w10 ⟨rfl, rfl⟩
          have HC10 : Aside (∀ j : Nat, tl ≤ j → j < N → Calls Tryd.prog 34 #[.pointer (some ⟨b, 0, none⟩), .int .i64 (j : Int)] w10 (Gives (.tuple #[.int .u8 0, .int .i64 0]) w10)) := fun j h1 h2 => by
            have h := cell_run H10.out.bu.ar j h2
            rw [pad_zero (by rw [← HTT.out.1, ← HTL.out.1]; exact h1) h2] at h
            exact h
          clear KC KA KL
          go_wp2_with fail
          rename_i wz
          go_loopg [10] (N + 1) (fun gk vi wr => ∃ j : Nat, vi = .int .i64 (j : Int) ∧ tl ≤ j ∧ j ≤ N ∧ N - j ≤ gk ∧ Aside (wr = w10))
          case atStart => exact ⟨tl, rfl, Nat.le_refl _, htlN, by omega, rfl⟩
          case round =>
            obtain ⟨j, rfl, hj1, hj2, hg3, HW⟩ := hrel
            obtain rfl := HW.out
            by_cases hlt : j < N
            · have hltz2 : (j : Int) < (N : Int) := by omega
              have KX := Lib.hid (HC10.out j hj1 hlt)
              go_wp2_with fail
              refine (KS.out _).mono ?_
              rintro _ w10 ⟨rfl, rfl⟩
              go_wp2_with fail
              refine KX.out.mono ?_
              rintro _ w10 ⟨rfl, rfl⟩
              go_wp2
              go_roundg (N - (j + 1))
              case measure => omega
              case rel => exact ⟨j + 1, by go_num, by omega, by omega, by omega, rfl⟩
            · have hltz2 : ¬ (j : Int) < (N : Int) := by omega
              go_wp2_with fail
              refine (KS.out _).mono ?_
              rintro _ w10 ⟨rfl, rfl⟩
              go_wp2
              go_roundg (n - (i + 1))
              case measure => have := HI.out; omega
              case rel => exact ⟨i + 1, by go_num, by have := HI.out; omega, by omega, C, D, H10.out⟩
      · have hltz : ¬ (i : Int) < (n : Int) := by omega
        have KC := Lib.hid (clearB_run HA.out.bu)
        go_wp2_with fail
        refine KC.out.mono ?_
        rintro _ w6 ⟨rfl, h6, s6⟩
        have H6 : Aside (Eb w w6 e b g N [] []) := HA.out.act h6 s6
        have KZ := Lib.hid (zero_run h6.ar)
        have e0 : zeros (fl ([] ++ [])) = true := rfl
        rw [e0] at KZ
        clear h6 s6 KC e0
        go_wp2_with fail
        refine KZ.out.mono ?_
        rintro _ w7 ⟨rfl, q7, hw7⟩
        have S7 : Aside (Eb w w7 e b g N [] []) := by rw [hw7]; exact H6.out.stays (Stp.drewN _ _ _)
        have KL : Calls Tryd.prog 22 #[.pointer (some ⟨e, 0, none⟩)] w7 (Gives (.int .i64 0) w7) := blen_run S7.out.bu
        have KL := Lib.hid KL
        have KU : Calls Tryd.prog 23 #[.pointer (some ⟨e, 0, none⟩)] w7 (Gives (.int .i64 0) w7) := bcount_run S7.out.bu
        have KU := Lib.hid KU
        have KT : Calls Tryd.prog 24 #[.pointer (some ⟨e, 0, none⟩)] w7 (Gives (.int .i64 0) w7) := bat_run S7.out.bu
        have KT := Lib.hid KT
        clear hw7 KZ H6
        go_wp2_with fail
        refine KL.out.mono ?_
        rintro _ _ ⟨rfl, rfl⟩
        go_wp2_with fail
        refine KU.out.mono ?_
        rintro _ _ ⟨rfl, rfl⟩
        go_wp2_with fail
        refine KT.out.mono ?_
        rintro _ _ ⟨rfl, rfl⟩
        go_wp2
        go_ret
        exact ⟨rfl, S7.out.stp⟩
end Go.Proofs.YtblmpaplggnajaaDoor
