/-
  The walk of PasteDrops: a paste that is dropped leaves nothing; the next one is its own.
-/
import Derived.Test.YtombkdbojdhodaaDoorNum
namespace Go.Proofs.YtombkdbojdhodaaDoor
open Go.RowKit Go.Lib
set_option linter.unusedVariables false

set_option maxHeartbeats 1000000 in
set_option maxRecDepth 100000 in
theorem drops_walk (a0 : Option Addr) (cap0 n0 : Nat) (l0 : List Int) (a1 : Option Addr) (cap1 n1 : Nat) (l1 : List Int) (w : World) (hb0 : Is w a0 l0) (hn0 : n0 = l0.length) (hm0 : n0 ≤ 9223372036854775807) (hb1 : Is w a1 l1) (hn1 : n1 = l1.length) (hm1 : n1 ≤ 9223372036854775807) (hT : U.Tabs w) :
    Calls Tryd.prog 6 #[.slice a0 n0 cap0, .slice a1 n1 cap1] w (Tells (.bool true) w) := by
  have HT : Aside (Is w a0 l0 ∧ n0 = l0.length ∧ Is w a1 l1 ∧ n1 = l1.length ∧ U.Tabs w) := ⟨hb0, hn0, hb1, hn1, hT⟩
  have KB : ∀ W, Calls Tryd.prog 8 #[.int .i64 100, .int .i64 200] W (Begun 100 200 W) := fun W => begin_run 100 200 W (by omega) (by omega) (by omega) (by omega)
  have KB := Lib.hid KB
  clear hb0 hn0 hb1 hn1 hT
  have HD0 : (decide (100 < (n0 : Int)) = true ∨ decide (100 < (n0 : Int)) = false) := by cases decide (100 < (n0 : Int)) <;> simp
  have HD1 : (decide (100 < (n1 : Int)) = true ∨ decide (100 < (n1 : Int)) = false) := by cases decide (100 < (n1 : Int)) <;> simp
  go_enter Tryd.func6, Tryd.ntmps6
  go_wp2_with fail
  refine (KB.out _).mono ?_
  rintro _ w1 ⟨s, b, g, e, c, q, rfl, h1⟩
  have H1 : Aside (SB w w1 s b g 100 sv0 e c q 200 [] []) := h1
  have KV := Lib.hid (alive_run w1 (tabs_stays HT.out.2.2.2.2 h1.eb.stp))
  clear h1 KB
  go_wp2_with fail
  refine KV.out.mono ?_
  rintro _ w3 ⟨rfl, s3⟩
  have H3 : Aside (SB w w3 s b g 100 sv0 e c q 200 [] []) := H1.out.stays s3
  clear H1 s3 KV
  rcases HD0 with hd | hd
  · have KV := Lib.hid (alive_run w3 (tabs_stays HT.out.2.2.2.2 H3.out.eb.stp))
    go_wp2_with fail
    refine KV.out.mono ?_
    rintro _ w4 ⟨rfl, s4⟩
    have H4 : Aside (Stp [] w [] w4) := H3.out.eb.stp.trans s4
    clear H3 s4
    go_wp2
    go_ret
    exact ⟨rfl, H4.out⟩
  rcases HD1 with hd1 | hd1
  · have KV := Lib.hid (alive_run w3 (tabs_stays HT.out.2.2.2.2 H3.out.eb.stp))
    go_wp2_with fail
    refine KV.out.mono ?_
    rintro _ w4 ⟨rfl, s4⟩
    have H4 : Aside (Stp [] w [] w4) := H3.out.eb.stp.trans s4
    clear H3 s4
    go_wp2
    go_ret
    exact ⟨rfl, H4.out⟩
  have hn0 : n0 ≤ 100 := by have := of_decide_eq_false hd; omega
  have hn1 : n1 ≤ 100 := by have := of_decide_eq_false hd1; omega
  have KS : Calls Tryd.prog 11 #[.pointer (some ⟨s, 0, none⟩)] w3 fun en w' => en = .returned (.int .i64 0) ∧ SB w w' s b g 100 ⟨[], true, false⟩ e c q 200 [] [] ∧ Stp [s, b, g] w3 [s, b, g] w' := start_sb H3.out _ (Stp.refl _ _)
  have KS := Lib.hid KS
  go_wp2_with fail
  refine KS.out.mono ?_
  rintro _ w4 ⟨rfl, h4, _⟩
  have H4 : Aside (SB w w4 s b g 100 ⟨[], true, false⟩ e c q 200 [] []) := h4
  clear h4 KS H3
  go_wp2_with fail
  go_loopg [48] n0 (fun gk vi wr => ∃ i : Nat, vi = .int .i64 (i : Int) ∧ i ≤ n0 ∧ n0 - i ≤ gk ∧ Aside (∃ X ov, SB w wr s b g 100 ⟨X, true, ov⟩ e c q 200 [] []))
  case atStart => exact ⟨0, rfl, Nat.zero_le _, by omega, [], false, H4.out⟩
  case round =>
    obtain ⟨i, rfl, hi, hg, HS⟩ := hrel
    obtain ⟨X, ov, hA⟩ : ∃ X ov, SB w wr s b g 100 ⟨X, true, ov⟩ e c q 200 [] [] := HS.out
    have HA := Lib.hid hA
    clear hA HS H4
    by_cases hlt : i < n0
    · have hltz : (i : Int) < (n0 : Int) := by omega
      obtain ⟨lb, off, rfl, c0⟩ := HT.out.1.at HA.out.eb.stp (i := i) (by have := HT.out.2.1; omega)
      generalize l0[i]! = x at *
      have HI : Aside (i < n0) := hlt
      obtain ⟨r, X', ov', er⟩ := adS_form 100 x X ov
      have KD := add_sb HA.out x _ (Stp.refl _ _)
      rw [er] at KD
      have KD := Lib.hid KD
      clear er hlt HA
      go_wp2_with fail
      refine KD.out.mono ?_
      rintro _ w5 ⟨rfl, h5, _⟩
      have H5 : Aside (SB w w5 s b g 100 ⟨X', true, ov'⟩ e c q 200 [] []) := h5
      clear h5 KD
      go_wp2
      go_roundg (n0 - (i + 1))
      case measure => have := HI.out; omega
      case rel => exact ⟨i + 1, by go_num, by have := HI.out; omega, by omega, X', ov', H5.out⟩
    · have hltz : ¬ (i : Int) < (n0 : Int) := by omega
      have KR := Lib.hid (drop_sb HA.out _ (Stp.refl _ _))
      clear hlt
      go_wp2_with fail
      refine KR.out.mono ?_
      rintro _ w5 ⟨rfl, h5, _⟩
      have H5 : Aside (SB w w5 s b g 100 sv0 e c q 200 [] []) := h5
      have KZ := Lib.hid (zero_run h5.sg.ar)
      have e0 : zeros (fl sv0.X) = true := rfl
      rw [e0] at KZ
      clear h5 KR HA e0
      go_wp2_with fail
      refine KZ.out.mono ?_
      rintro _ w6 ⟨rfl, qz, hw⟩
      have H6 : Aside (SB w w6 s b g 100 sv0 e c q 200 [] []) := by rw [hw]; exact H5.out.stays (Stp.drewN _ _ _)
      have KG : Calls Tryd.prog 24 #[.pointer (some ⟨s, 0, none⟩)] w6 (Gives (.bool false) w6) := begun_run H6.out.sg
      have KG := Lib.hid KG
      have KO : Calls Tryd.prog 25 #[.pointer (some ⟨s, 0, none⟩)] w6 (Gives (.bool false) w6) := over_run H6.out.sg
      have KO := Lib.hid KO
      have KL : Calls Tryd.prog 26 #[.pointer (some ⟨s, 0, none⟩)] w6 (Gives (.int .i64 0) w6) := slen_run H6.out.sg
      have KL := Lib.hid KL
      have KM : Calls Tryd.prog 40 #[.pointer (some ⟨e, 0, none⟩)] w6 (Gives (.int .i64 0) w6) := blen_run H6.out.eb.bu
      have KM := Lib.hid KM
      have KD : Calls Tryd.prog 13 #[.pointer (some ⟨s, 0, none⟩), .int .i64 97] w6 fun en w' => en = .returned (.int .i64 11) ∧ SB w w' s b g 100 sv0 e c q 200 [] [] ∧ Stp [s, b, g] w6 [s, b, g] w' := add_sb H6.out 97 _ (Stp.refl _ _)
      have KD := Lib.hid KD
      clear hw KZ H5
      go_wp2_with fail
      refine KG.out.mono ?_
      rintro _ _ ⟨rfl, rfl⟩
      go_wp2_with fail
      refine KO.out.mono ?_
      rintro _ _ ⟨rfl, rfl⟩
      go_wp2_with fail
      refine KL.out.mono ?_
      rintro _ _ ⟨rfl, rfl⟩
      go_wp2_with fail
      refine KM.out.mono ?_
      rintro _ _ ⟨rfl, rfl⟩
      go_wp2_with fail
      refine KD.out.mono ?_
      rintro _ w7 ⟨rfl, h7, _⟩
      have KS : Calls Tryd.prog 11 #[.pointer (some ⟨s, 0, none⟩)] w7 fun en w' => en = .returned (.int .i64 0) ∧ SB w w' s b g 100 ⟨[], true, false⟩ e c q 200 [] [] ∧ Stp [s, b, g] w7 [s, b, g] w' := start_sb h7 _ (Stp.refl _ _)
      have KS := Lib.hid KS
      clear KG KO KL KM KD h7 H6
      go_wp2_with fail
      refine KS.out.mono ?_
      rintro _ w8 ⟨rfl, h8, _⟩
      have KS2 : Calls Tryd.prog 11 #[.pointer (some ⟨s, 0, none⟩)] w8 fun en w' => en = .returned (.int .i64 11) ∧ SB w w' s b g 100 ⟨[], true, false⟩ e c q 200 [] [] ∧ Stp [s, b, g] w8 [s, b, g] w' := start_sb h8 _ (Stp.refl _ _)
      have KS2 := Lib.hid KS2
      clear KS h8
      go_wp2_with fail
      refine KS2.out.mono ?_
      rintro _ w9 ⟨rfl, h9, _⟩
      have H9 : Aside (SB w w9 s b g 100 ⟨[], true, false⟩ e c q 200 [] []) := h9
      clear KS2 h9
      go_wp2_with fail
      go_loopg [10, 96] n1 (fun gk v10 vi wr => ∃ (i : Nat) (X : List Nat), vi = .int .i64 (i : Int) ∧ v10 = .string (st (fl X)) ∧ i ≤ n1 ∧ n1 - i ≤ gk ∧ Aside (∃ ov, SB w wr s b g 100 ⟨X, true, ov⟩ e c q 200 [] []))
      case atStart => exact ⟨0, [], rfl, rfl, Nat.zero_le _, by omega, false, H9.out⟩
      case round =>
        obtain ⟨i, X, rfl, rfl, hi, hg, HS⟩ := hrel
        obtain ⟨ov, hA⟩ : ∃ ov, SB w wr s b g 100 ⟨X, true, ov⟩ e c q 200 [] [] := HS.out
        have HA := Lib.hid hA
        clear hA HS H9
        by_cases hlt : i < n1
        · have hltz : (i : Int) < (n1 : Int) := by omega
          obtain ⟨lb, off, rfl, c0⟩ := HT.out.2.2.1.at HA.out.eb.stp (i := i) (by have := HT.out.2.2.2.1; omega)
          generalize l1[i]! = x at *
          have HI : Aside (i < n1) := hlt
          have KD := add_sb HA.out x _ (Stp.refl _ _)
          clear hlt
          rcases adS_cases 100 x X ov with ⟨m, rfl, hp, rfl, hf, er⟩ | ⟨_, er⟩ | ⟨m, rfl, _, _, er⟩
          · rw [er] at KD
            have KD := Lib.hid KD
            have KU := Lib.hid (fun W => rput8 m W (pr_ch hp).2)
            have HX := Lib.hid hf
            clear er hp hf
            go_wp2_with fail
            refine KD.out.mono ?_
            rintro _ w5 ⟨rfl, h5, _⟩
            have H5 : Aside (SB w w5 s b g 100 ⟨X ++ [m], true, false⟩ e c q 200 [] []) := h5
            clear h5 KD
            go_wp2_with fail
            refine (KU.out _).mono ?_
            rintro _ w6 ⟨au, cu, rfl, hbu, s6⟩
            have cv := conv_bts cu _ hbu rfl
            have H6 : Aside (SB w w6 s b g 100 ⟨X ++ [m], true, false⟩ e c q 200 [] []) := H5.out.stays s6
            have hr1 : ¬ 9223372036854775807 < (st (fl X)).size + (st (enc8 m)).size := by
              have h1 := HX.out
              rw [st_size, st_size]
              omega
            clear hbu s6 H5 KU
            go_wp2
            go_roundg (n1 - (i + 1))
            case measure => have := HI.out; omega
            case rel => exact ⟨i + 1, X ++ [m], by go_num, by rw [fl_app, fl_one, st_append], by have := HI.out; omega, by omega, false, H6.out⟩
          · rw [er] at KD
            have KD := Lib.hid KD
            clear er
            go_wp2_with fail
            refine KD.out.mono ?_
            rintro _ w5 ⟨rfl, h5, _⟩
            have H5 : Aside (SB w w5 s b g 100 ⟨X, true, ov⟩ e c q 200 [] []) := h5
            clear h5 KD
            go_wp2
            go_roundg (n1 - (i + 1))
            case measure => have := HI.out; omega
            case rel => exact ⟨i + 1, X, by go_num, rfl, by have := HI.out; omega, by omega, ov, H5.out⟩
          · rw [er] at KD
            have KD := Lib.hid KD
            clear er
            go_wp2_with fail
            refine KD.out.mono ?_
            rintro _ w5 ⟨rfl, h5, _⟩
            have H5 : Aside (SB w w5 s b g 100 ⟨X, true, true⟩ e c q 200 [] []) := h5
            clear h5 KD
            go_wp2
            go_roundg (n1 - (i + 1))
            case measure => have := HI.out; omega
            case rel => exact ⟨i + 1, X, by go_num, rfl, by have := HI.out; omega, by omega, true, H5.out⟩
        · have hltz : ¬ (i : Int) < (n1 : Int) := by omega
          clear hlt
          have KO := over_run HA.out.sg
          have KE := end_sb HA.out HT.out.2.2.2.2 _ (Stp.refl _ _)
          cases ov with
          | true =>
            have KO := Lib.hid (show Calls Tryd.prog 25 #[.pointer (some ⟨s, 0, none⟩)] wr (Gives (.bool true) wr) from KO)
            rw [show enS 200 ⟨X, true, true⟩ [] [] = ⟨4, [], []⟩ from rfl] at KE
            have KE := Lib.hid KE
            go_wp2_with fail
            refine KO.out.mono ?_
            rintro _ _ ⟨rfl, rfl⟩
            go_wp2_with fail
            refine KE.out.mono ?_
            rintro _ w5 ⟨rfl, h5, _⟩
            have H5 : Aside (SB w w5 s b g 100 sv0 e c q 200 [] []) := h5
            have KZ := Lib.hid (zero_run h5.sg.ar)
            have e0 : zeros (fl sv0.X) = true := rfl
            rw [e0] at KZ
            clear h5 KE KO HA e0
            go_wp2_with fail
            refine KZ.out.mono ?_
            rintro _ w6 ⟨rfl, qz, hw⟩
            have H6 : Aside (SB w w6 s b g 100 sv0 e c q 200 [] []) := by rw [hw]; exact H5.out.stays (Stp.drewN _ _ _)
            have KM : Calls Tryd.prog 40 #[.pointer (some ⟨e, 0, none⟩)] w6 (Gives (.int .i64 0) w6) := blen_run H6.out.eb.bu
            have KM := Lib.hid KM
            clear hw KZ H5
            go_wp2_with fail
            refine KM.out.mono ?_
            rintro _ _ ⟨rfl, rfl⟩
            go_wp2
            go_ret
            exact ⟨rfl, H6.out.eb.stp⟩
          | false =>
            have KO := Lib.hid (show Calls Tryd.prog 25 #[.pointer (some ⟨s, 0, none⟩)] wr (Gives (.bool false) wr) from KO)
            have hle : (fl X).length ≤ 100 := HA.out.sg.lens.1
            rw [show enS 200 ⟨X, true, false⟩ [] [] = ⟨0, X, []⟩ from (show enS 200 ⟨X, true, false⟩ [] [] = layS 200 X [] [] from rfl).trans (if_pos (by rw [List.append_nil, fl_nil, List.length_nil]; omega))] at KE
            have KE := Lib.hid KE
            clear hle
            go_wp2_with fail
            refine KO.out.mono ?_
            rintro _ _ ⟨rfl, rfl⟩
            go_wp2_with fail
            refine KE.out.mono ?_
            rintro _ w5 ⟨rfl, h5, _⟩
            have H5 : Aside (SB w w5 s b g 100 sv0 e c q 200 X []) := h5
            have KZ := Lib.hid (zero_run h5.sg.ar)
            have e0 : zeros (fl sv0.X) = true := rfl
            rw [e0] at KZ
            clear h5 KE KO HA e0
            go_wp2_with fail
            refine KZ.out.mono ?_
            rintro _ w6 ⟨rfl, qz, hw⟩
            have H6 : Aside (SB w w6 s b g 100 sv0 e c q 200 X []) := by rw [hw]; exact H5.out.stays (Stp.drewN _ _ _)
            have KT := text_run H6.out.eb.bu
            rw [List.append_nil] at KT
            have KT := Lib.hid KT
            have ht := beq_self_eq_true (st (fl X)).toList
            clear hw KZ H5
            go_wp2_with fail
            refine KT.out.mono ?_
            rintro _ w7 ⟨rfl, s7⟩
            have H7 : Aside (Stp [] w [] w7) := H6.out.eb.stp.trans s7
            clear KT s7 H6
            go_wp2
            go_ret
            exact ⟨rfl, H7.out⟩
end Go.Proofs.YtombkdbojdhodaaDoor
