/-
  The walk of PasteWhole: a paste is in a buffer whole, at its place, or not at all; behind its end nothing of it is in any cell.
-/
import Derived.Test.YtombkdbojdhodaaDoorNum
import Derived.Test.YtombkdbojdhodaaDoorRefE
import Derived.Deep.RegionHeld3
namespace Go.Proofs.YtombkdbojdhodaaDoor
open Go.RowKit Go.Lib
set_option linter.unusedVariables false

theorem SB.base {w W W' : World} {s b g N e c q M : Nat} {t : Sv} {A B : List Nat} (h : SB W W' s b g N t e c q M A B) (hs : Stp [] w [] W) : SB w W' s b g N t e c q M A B := by
  have h1 := h.new
  have h2 := h.eb.new
  have h3 := hs.size
  exact ⟨h.sg, ⟨h.eb.bu, hs.trans h.eb.stp, by omega⟩, by omega, h.ap⟩
theorem cell_run {W : World} {b g N u : Nat} {C : List UInt8} (h : Cl W b g N u C) (i : Nat) (hi : i < N) : Calls Tryd.prog 38 #[.pointer (some ⟨b, 0, none⟩), .int .i64 (i : Int)] W (Gives (.tuple #[bval (C[i]!), .int .i64 0]) W) := by
  have K1 := Lib.hid (cap_cl h)
  have K2 := Lib.hid (look_run h i N hi (Nat.le_refl _))
  generalize bval (C[i]!) = z at *
  clear h hi
  go_enter Tryd.func38, Tryd.ntmps38
  go_wp2_with fail
  refine K1.out.mono ?_
  rintro _ _ ⟨rfl, rfl⟩
  go_wp2_with fail
  refine K2.out.mono ?_
  rintro _ _ ⟨rfl, rfl⟩
  go_wp2
  go_ret2
  exact ⟨rfl, rfl⟩
theorem cell_zero {W : World} {b g N : Nat} (h : Ar W b g N []) (i : Nat) (hi : i < N) : Calls Tryd.prog 38 #[.pointer (some ⟨b, 0, none⟩), .int .i64 (i : Int)] W (Gives (.tuple #[.int .u8 0, .int .i64 0]) W) := by
  have k := cell_run h i hi
  have e : bval ((pad N [])[i]!) = .int .u8 0 := by
    rw [getElem!_pos _ i (by simp [pad]; exact hi)]
    simp [pad, bval]
  rwa [e] at k
theorem rchars8 (a : Option Addr) (n cap : Nat) (l : List UInt8) (W : World) (h : Bts W a l) (hn : n = l.length) (hcap : n ≤ cap) (hm : cap ≤ maxLen) (hl : n ≤ 100000) : Calls Tryd.prog 39 #[.slice a n cap] W fun en w' => ∃ a' k, en = .returned (.slice a' (chs l).length k) ∧ Its w' a' (chs l) ∧ (chs l).length ≤ k ∧ Stp [] W [] w' := by
  have q := U.rchars_any a cap (l.map UInt8.toNat) W (bts_to_U h) (by simp; omega) hm (by simp; omega)
  rw [List.length_map, ← hn] at q
  refine q.mono fun e w' ⟨v, q1, q2, q3⟩ => ?_
  obtain ⟨a', k, rfl, hi, hz, hle, _⟩ := OwnI.its q2
  exact ⟨a', k, q1, hi, hle, Stp.of_below q3⟩
theorem scut_h (l m : List UInt8) (n : Nat) (hn : n = l.length) (W : World) : (Instr.slice 9 (.string (st (l ++ m))) none (some (.int .i64 (n : Int))) none).run Tryd.prog W = .ok (.string (st l)) W := by
  rw [run_slice_string_h W 9 (st (l ++ m)) Tryd.underlying9 .i64 n (by omega) (by rw [st_size, List.length_append]; omega)]
  have e : (st (l ++ m)).extract 0 (n : Int).toNat = st l := by
    rw [st_extract, Int.toNat_natCast, hn]
    simp
  rw [e]
theorem scut_l (l m : List UInt8) (n : Nat) (hn : n = l.length) (W : World) : (Instr.slice 9 (.string (st (l ++ m))) (some (.int .i64 (n : Int))) none none).run Tryd.prog W = .ok (.string (st m)) W := by
  rw [run_slice_string_l W 9 (st (l ++ m)) Tryd.underlying9 .i64 n (by omega) (by rw [st_size, List.length_append]; omega)]
  have e : (st (l ++ m)).extract (n : Int).toNat (st (l ++ m)).size = st m := by
    rw [st_size, st_extract, Int.toNat_natCast, hn]
    simp
  rw [e]
theorem scutA_h (l m : List UInt8) (n : Nat) (hn : n = l.length) (W : World) : (Instr.sliceAt 9 (.string (st (l ++ m))) none (some (.int .i64 (n : Int))) none).run Tryd.prog W = .ok (.string (st l)) W := by
  rw [run_sliceAt_string W 9 (.string (st (l ++ m))) _ _ _ Tryd.underlying9]
  exact scut_h l m n hn W
theorem scutA_l (l m : List UInt8) (n : Nat) (hn : n = l.length) (W : World) : (Instr.sliceAt 9 (.string (st (l ++ m))) (some (.int .i64 (n : Int))) none none).run Tryd.prog W = .ok (.string (st m)) W := by
  rw [run_sliceAt_string W 9 (.string (st (l ++ m))) _ _ _ Tryd.underlying9]
  exact scut_l l m n hn W

set_option maxHeartbeats 2000000 in
set_option maxRecDepth 100000 in
theorem whole_walk (x0 y0 : Int) (a1 : Option Addr) (cap1 n1 : Nat) (l1 : List Int) (a2 : Option Addr) (cap2 n2 : Nat) (l2 : List Int) (w : World) (hb1 : Is w a1 l1) (hn1 : n1 = l1.length) (hm1 : n1 ≤ 9223372036854775807) (hb2 : Is w a2 l2) (hn2 : n2 = l2.length) (hm2 : n2 ≤ 9223372036854775807) (hT : U.Tabs w) :
    Calls Tryd.prog 5 #[.agg #[.int .i64 x0, .int .i64 y0], .slice a1 n1 cap1, .slice a2 n2 cap2] w (Tells (.bool true) w) := by
  have HT : Aside (Is w a1 l1 ∧ n1 = l1.length ∧ Is w a2 l2 ∧ n2 = l2.length ∧ U.Tabs w) := ⟨hb1, hn1, hb2, hn2, hT⟩
  clear hb1 hn1 hb2 hn2 hT
  have HD1 : (decide (100 < (n1 : Int)) = true ∨ decide (100 < (n1 : Int)) = false) := by cases decide (100 < (n1 : Int)) <;> simp
  have HD2 : (decide (200 < (n2 : Int)) = true ∨ decide (200 < (n2 : Int)) = false) := by cases decide (200 < (n2 : Int)) <;> simp
  have KS := Lib.hid (fun z W => size_run z W)
  have hN0 := sizeN_bounds x0
  have hN1 := sizeN_bounds y0
  obtain ⟨w1, hw1⟩ : ∃ w1, w1 = w.alloc (.cells #[.int .i64 x0, .int .i64 y0] 61) := ⟨_, rfl⟩
  obtain ⟨k, hk⟩ : ∃ k, k = w.heap.size := ⟨_, rfl⟩
  have HW1 : Aside (Stp [] w [] w1) := by rw [hw1]; exact Stp.alloc [] w _
  have HBX : Aside (∀ W', Stp [] w1 [] W' → W'.cell? ⟨k, 0, none⟩ = some (.int .i64 x0) ∧ W'.cell? ⟨k, 1, none⟩ = some (.int .i64 y0)) := fun W' hs => by
    have hz : w1.heap.size = w.heap.size + 1 := by rw [hw1]; simp
    have ho : W'.heap[w.heap.size]? = some (.cells #[.int .i64 x0, .int .i64 y0] 61 (0, 0)) := (hs.block _ (by omega) (by simp)).trans (by rw [hw1]; exact heap_alloc_new w _)
    rw [hk]
    exact ⟨by rw [cell_of_row W' _ 0 _ _ _ ho]; rfl, by rw [cell_of_row W' _ 1 _ _ _ ho]; rfl⟩
  have KB : ∀ W', Stp [] w1 [] W' → Calls Tryd.prog 8 #[.int .i64 (sizeN x0 : Int), .int .i64 (sizeN y0 : Int)] W' fun en w' => ∃ s b g e c q, en = .returned (.tuple #[.pointer (some ⟨b, 0, none⟩), .pointer (some ⟨s, 0, none⟩), .pointer (some ⟨e, 0, none⟩)]) ∧ SB w1 w' s b g (sizeN x0) sv0 e c q (sizeN y0) [] [] := fun W' hs =>
    (begin_run (sizeN x0) (sizeN y0) W' hN0.1 (by omega) hN1.1 (by omega)).mono fun _ _ ⟨s, b, g, e, c, q, h1, h2⟩ => ⟨s, b, g, e, c, q, h1, h2.base hs⟩
  have KB := Lib.hid KB
  have HW := Lib.hid (And.intro hw1 hk)
  clear hw1 hk
  go_enter Tryd.func5, Tryd.ntmps5
  go_wp2_with fail
  rw [← HW.out.1, ← HW.out.2]
  have d0 := (HBX.out w1 (Stp.refl _ _)).1
  have d1 := (HBX.out w1 (Stp.refl _ _)).2
  have hcur : Stp [] w1 [] w1.drew := Stp.drew [] _
  clear HW
  go_region_held3 (fun W' => W'.cell? ⟨k, 0, none⟩ = some (.int .i64 x0) ∧ W'.cell? ⟨k, 1, none⟩ = some (.int .i64 y0))
    (first | exact HBX.out _ hcur | exact ⟨by assumption, by assumption⟩)
    (first
      | (go_at_call 9; refine (KS.out _ _).mono ?_; rintro _ w2 ⟨rfl, rfl⟩)
      | (go_at_call 8; refine (KB.out _ hcur).mono ?_; rintro _ w2 ⟨s, b, g, e, c, q, rfl, h2⟩; have H2 := Lib.hid h2; replace hcur := h2.eb.stp; clear h2))
  clear d0 d1 hcur KB
  have KV := Lib.hid (alive_run w2 (tabs_stays HT.out.2.2.2.2 (HW1.out.trans H2.out.eb.stp)))
  go_wp2_with fail
  refine KV.out.mono ?_
  rintro _ w3 ⟨rfl, s3⟩
  have H3 : Aside (SB w1 w3 s b g (sizeN x0) sv0 e c q (sizeN y0) [] []) := H2.out.stays s3
  clear H2 s3 KV
  rcases HD2 with hd | hd
  · have KV := Lib.hid (alive_run w3 (tabs_stays HT.out.2.2.2.2 (HW1.out.trans H3.out.eb.stp)))
    go_wp2_with fail
    refine KV.out.mono ?_
    rintro _ w4 ⟨rfl, s4⟩
    have H4 : Aside (Stp [] w [] w4) := HW1.out.trans (H3.out.eb.stp.trans s4)
    clear H3 s4
    go_wp2
    go_ret
    exact ⟨rfl, H4.out⟩
  rcases HD1 with hd1 | hd1
  · have KV := Lib.hid (alive_run w3 (tabs_stays HT.out.2.2.2.2 (HW1.out.trans H3.out.eb.stp)))
    go_wp2_with fail
    refine KV.out.mono ?_
    rintro _ w4 ⟨rfl, s4⟩
    have H4 : Aside (Stp [] w [] w4) := HW1.out.trans (H3.out.eb.stp.trans s4)
    clear H3 s4
    go_wp2
    go_ret
    exact ⟨rfl, H4.out⟩
  have hn1 : n1 ≤ 100 := by have := of_decide_eq_false hd1; omega
  have hn2 : n2 ≤ 200 := by have := of_decide_eq_false hd; omega
  go_wp2_with fail
  go_loopg [57] n1 (fun gk vi wr => ∃ i : Nat, vi = .int .i64 (i : Int) ∧ i ≤ n1 ∧ n1 - i ≤ gk ∧ Aside (∃ A B, SB w1 wr s b g (sizeN x0) sv0 e c q (sizeN y0) A B))
  case atStart => exact ⟨0, rfl, Nat.zero_le _, by omega, [], [], H3.out⟩
  case round =>
    obtain ⟨i, rfl, hi, hg, HS⟩ := hrel
    obtain ⟨A, B, hA⟩ : ∃ A B, SB w1 wr s b g (sizeN x0) sv0 e c q (sizeN y0) A B := HS.out
    have HA := Lib.hid hA
    clear hA HS H3
    by_cases hlt : i < n1
    · have hltz : (i : Int) < (n1 : Int) := by omega
      obtain ⟨lb, off, rfl, c0⟩ := HT.out.1.at (HW1.out.trans HA.out.eb.stp) (i := i) (by have := HT.out.2.1; omega)
      generalize l1[i]! = x at *
      have HI : Aside (i < n1) := hlt
      have K1 := Lib.hid (putb_sb HA.out x _ (Stp.refl _ _))
      clear hlt HA
      generalize putS (sizeN y0) x A B = r at *
      go_wp2_with fail
      refine K1.out.mono ?_
      rintro _ w5 ⟨rfl, h5, _⟩
      have H5 : Aside (SB w1 w5 s b g (sizeN x0) sv0 e c q (sizeN y0) r.A r.B) := h5
      clear h5 K1
      go_wp2
      go_roundg (n1 - (i + 1))
      case measure => have := HI.out; omega
      case rel => exact ⟨i + 1, by go_num, by have := HI.out; omega, by omega, r.A, r.B, H5.out⟩
    · have hltz : ¬ (i : Int) < (n1 : Int) := by omega
      have KD : Calls Tryd.prog 21 #[.pointer (some ⟨e, 0, none⟩), .agg #[.int .i64 4, .int .i64 0]] wr fun en w' => en = .returned (.tuple #[.bool (chg ⟨0, A.dropLast, lst A ++ B⟩ A B), .int .i64 0]) ∧ SB w1 w' s b g (sizeN x0) sv0 e c q (sizeN y0) A.dropLast (lst A ++ B) ∧ Stp [e, c, q] wr [e, c, q] w' := dob_sb HA.out 4 0 (by decide) _ (Stp.refl _ _)
      have KD := Lib.hid KD
      clear hlt HA
      generalize chg ⟨0, A.dropLast, lst A ++ B⟩ A B = cg at *
      generalize lst A ++ B = B2 at *
      generalize A.dropLast = A2 at *
      go_wp2_with fail
      refine KD.out.mono ?_
      rintro _ w5 ⟨rfl, h5, _⟩
      have H5 : Aside (SB w1 w5 s b g (sizeN x0) sv0 e c q (sizeN y0) A2 B2) := h5
      have KT := text_run H5.out.eb.bu
      obtain ⟨S0, hS0⟩ : ∃ S0, S0 = st (fl (A2 ++ B2)) := ⟨_, rfl⟩
      obtain ⟨La, hLa⟩ : ∃ La, La = A2.length := ⟨_, rfl⟩
      rw [← hS0] at KT
      have KT := Lib.hid KT
      have HSL := Lib.hid (And.intro hS0 hLa)
      clear h5 KD hS0 hLa
      go_wp2_with fail
      refine KT.out.mono ?_
      rintro _ w6 ⟨rfl, s6⟩
      have H6 : Aside (SB w1 w6 s b g (sizeN x0) sv0 e c q (sizeN y0) A2 B2) := H5.out.stays s6
      have KA := bat_run H6.out.eb.bu
      rw [← HSL.out.2] at KA
      have KA := Lib.hid KA
      have KG : Calls Tryd.prog 11 #[.pointer (some ⟨s, 0, none⟩)] w6 fun en w' => en = .returned (.int .i64 0) ∧ SB w1 w' s b g (sizeN x0) ⟨[], true, false⟩ e c q (sizeN y0) A2 B2 ∧ Stp [s, b, g] w6 [s, b, g] w' := start_sb H6.out _ (Stp.refl _ _)
      have KG := Lib.hid KG
      clear s6 KT H5
      go_wp2_with fail
      refine KA.out.mono ?_
      rintro _ _ ⟨rfl, rfl⟩
      go_wp2_with fail
      refine KG.out.mono ?_
      rintro _ w7 ⟨rfl, h7, _⟩
      have H7 : Aside (SB w1 w7 s b g (sizeN x0) ⟨[], true, false⟩ e c q (sizeN y0) A2 B2) := h7
      clear KA KG h7 H6
      go_wp2_with fail
      go_loopg [14, 15, 77] n2 (fun gk v14 v15 vi wr => ∃ (i : Nat) (Y : List Nat) (al : Bool), vi = .int .i64 (i : Int) ∧ v14 = .string (st (fl Y)) ∧ v15 = .bool al ∧ i ≤ n2 ∧ n2 - i ≤ gk ∧ Aside (∃ X, SB w1 wr s b g (sizeN x0) ⟨X, true, !al⟩ e c q (sizeN y0) A2 B2 ∧ (fl Y).length ≤ 4 * i ∧ (al = true → X = Y) ∧ (al = false → sizeN x0 < (fl Y).length)))
      case atStart => exact ⟨0, [], true, rfl, rfl, rfl, Nat.zero_le _, by omega, [], H7.out, Nat.le_refl _, fun _ => rfl, fun h => by cases h⟩
      case round =>
        obtain ⟨i, Y, al, rfl, rfl, rfl, hi, hg, HS⟩ := hrel
        obtain ⟨X, hA⟩ : ∃ X, SB w1 wr s b g (sizeN x0) ⟨X, true, !al⟩ e c q (sizeN y0) A2 B2 ∧ (fl Y).length ≤ 4 * i ∧ (al = true → X = Y) ∧ (al = false → sizeN x0 < (fl Y).length) := HS.out
        have HA := Lib.hid hA
        clear hA HS H7
        by_cases hlt : i < n2
        · have hltz : (i : Int) < (n2 : Int) := by omega
          obtain ⟨lb, off, rfl, c0⟩ := HT.out.2.2.1.at (HW1.out.trans HA.out.1.eb.stp) (i := i) (by have := HT.out.2.2.2.1; omega)
          generalize l2[i]! = x at *
          have HI : Aside (i < n2) := hlt
          have KD := add_sb HA.out.1 x
          have hyl := HA.out.2.1
          have hr0 : ∀ m : Nat, ¬ 9223372036854775807 < (st (fl Y)).size + (st (enc8 m)).size := fun m => by
            have h4 := (enc8_len m).2
            rw [st_size, st_size]
            omega
          clear hlt
          cases al with
          | true =>
            obtain rfl : X = Y := HA.out.2.2.1 rfl
            rcases adS_cases (sizeN x0) x X false with ⟨m, rfl, hp, _, hf, er⟩ | ⟨hp, er⟩ | ⟨m, rfl, hp, ho, er⟩
            · have KPQ := U.pr_any (m : Int) wr
              rw [hp] at KPQ
              have hr1 := hr0 m
              have KU := Lib.hid (rput8 m wr (pr_ch hp).2)
              have KD : ∀ W', Stp [] wr [] W' → Calls Tryd.prog 13 #[.pointer (some ⟨s, 0, none⟩), .int .i64 (m : Int)] W' fun en w' => en = .returned (.int .i64 0) ∧ SB w1 w' s b g (sizeN x0) ⟨X ++ [m], true, false⟩ e c q (sizeN y0) A2 B2 := fun W' hs => (KD W' hs).mono fun _ _ ⟨h1, h2, _⟩ => by
                have h1' := h1
                have h2' := h2
                simp only [Bool.not_true, er] at h1' h2'
                exact ⟨h1', h2'⟩
              have KD := Lib.hid KD
              have KPQ := Lib.hid KPQ
              have HY := HA
              clear er hp hr0 hyl HA
              go_wp2_with fail
              refine KPQ.out.mono ?_
              rintro _ w5 ⟨rfl, hw⟩
              obtain rfl : wr = w5 := hw.symm
              go_wp2_with fail
              refine KU.out.mono ?_
              rintro _ w6 ⟨au, cu, rfl, hbu, s6⟩
              have cv := conv_bts cu _ hbu rfl
              have KD := Lib.hid (KD.out w6 s6)
              clear hbu s6 KU
              go_wp2_with fail
              refine KD.out.mono ?_
              rintro _ w7 ⟨rfl, h7⟩
              have H7 : Aside (SB w1 w7 s b g (sizeN x0) ⟨X ++ [m], true, !true⟩ e c q (sizeN y0) A2 B2) := h7
              clear h7 KD
              go_wp2
              go_roundg (n2 - (i + 1))
              case measure => have := HI.out; omega
              case rel => exact ⟨i + 1, X ++ [m], true, by go_num, by rw [fl_app, fl_one, st_append], rfl, by have := HI.out; omega, by omega, X ++ [m], H7.out, by have h4 := (enc8_len m).2; have h5 := HY.out.2.1; rw [fl_app, fl_one, List.length_append]; omega, fun _ => rfl, fun h => by cases h⟩
            · have KPQ := U.pr_any x wr
              rw [hp] at KPQ
              have KD := KD wr (Stp.refl _ _)
              simp only [Bool.not_true, er] at KD
              have KD := Lib.hid KD
              have KPQ := Lib.hid KPQ
              have HY := HA
              clear er hp hr0 hyl HA
              go_wp2_with fail
              refine KPQ.out.mono ?_
              rintro _ w5 ⟨rfl, hw⟩
              obtain rfl : wr = w5 := hw.symm
              go_wp2_with fail
              refine KD.out.mono ?_
              rintro _ w7 ⟨rfl, h7, _⟩
              have H7 : Aside (SB w1 w7 s b g (sizeN x0) ⟨X, true, !true⟩ e c q (sizeN y0) A2 B2) := h7
              clear h7 KD
              go_wp2
              go_roundg (n2 - (i + 1))
              case measure => have := HI.out; omega
              case rel => exact ⟨i + 1, _, true, by go_num, rfl, rfl, by have := HI.out; omega, by omega, X, H7.out, by have h5 := HY.out.2.1; omega, fun _ => rfl, fun h => by cases h⟩
            · have KPQ := U.pr_any (m : Int) wr
              rw [hp] at KPQ
              have hr1 := hr0 m
              have KU := Lib.hid (rput8 m wr (pr_ch hp).2)
              have HO := Lib.hid (show sizeN x0 < (fl X).length + (enc8 m).length from by rcases ho with h | h; cases h; exact h)
              have KD : ∀ W', Stp [] wr [] W' → Calls Tryd.prog 13 #[.pointer (some ⟨s, 0, none⟩), .int .i64 (m : Int)] W' fun en w' => en = .returned (.int .i64 4) ∧ SB w1 w' s b g (sizeN x0) ⟨X, true, true⟩ e c q (sizeN y0) A2 B2 := fun W' hs => (KD W' hs).mono fun _ _ ⟨h1, h2, _⟩ => by
                have h1' := h1
                have h2' := h2
                simp only [Bool.not_true, er] at h1' h2'
                exact ⟨h1', h2'⟩
              have KD := Lib.hid KD
              have KPQ := Lib.hid KPQ
              have HY := HA
              clear er hp hr0 hyl HA
              go_wp2_with fail
              refine KPQ.out.mono ?_
              rintro _ w5 ⟨rfl, hw⟩
              obtain rfl : wr = w5 := hw.symm
              go_wp2_with fail
              refine KU.out.mono ?_
              rintro _ w6 ⟨au, cu, rfl, hbu, s6⟩
              have cv := conv_bts cu _ hbu rfl
              have KD := Lib.hid (KD.out w6 s6)
              clear hbu s6 KU
              go_wp2_with fail
              refine KD.out.mono ?_
              rintro _ w7 ⟨rfl, h7⟩
              have H7 : Aside (SB w1 w7 s b g (sizeN x0) ⟨X, true, !false⟩ e c q (sizeN y0) A2 B2) := h7
              clear h7 KD
              go_wp2
              go_roundg (n2 - (i + 1))
              case measure => have := HI.out; omega
              case rel => exact ⟨i + 1, X ++ [m], false, by go_num, by rw [fl_app, fl_one, st_append], rfl, by have := HI.out; omega, by omega, X, H7.out, by have h4 := (enc8_len m).2; have h5 := HY.out.2.1; rw [fl_app, fl_one, List.length_append]; omega, (fun h => by cases h), fun _ => by have := HO.out; rw [fl_app, fl_one, List.length_append]; omega⟩
          | false =>
            have HN := Lib.hid (HA.out.2.2.2 rfl)
            rcases adS_cases (sizeN x0) x X true with ⟨m, rfl, hp, h0, hf, er⟩ | ⟨hp, er⟩ | ⟨m, rfl, hp, _, er⟩
            · cases h0
            · have KPQ := U.pr_any x wr
              rw [hp] at KPQ
              have KD := KD wr (Stp.refl _ _)
              simp only [Bool.not_false, er] at KD
              have KD := Lib.hid KD
              have KPQ := Lib.hid KPQ
              have HY := HA
              clear er hp hr0 hyl HA
              go_wp2_with fail
              refine KPQ.out.mono ?_
              rintro _ w5 ⟨rfl, hw⟩
              obtain rfl : wr = w5 := hw.symm
              go_wp2_with fail
              refine KD.out.mono ?_
              rintro _ w7 ⟨rfl, h7, _⟩
              have H7 : Aside (SB w1 w7 s b g (sizeN x0) ⟨X, true, !false⟩ e c q (sizeN y0) A2 B2) := h7
              clear h7 KD
              go_wp2
              go_roundg (n2 - (i + 1))
              case measure => have := HI.out; omega
              case rel => exact ⟨i + 1, _, false, by go_num, rfl, rfl, by have := HI.out; omega, by omega, X, H7.out, by have h5 := HY.out.2.1; omega, (fun h => by cases h), fun _ => HN.out⟩
            · have KPQ := U.pr_any (m : Int) wr
              rw [hp] at KPQ
              have hr1 := hr0 m
              have KU := Lib.hid (rput8 m wr (pr_ch hp).2)
              have KD : ∀ W', Stp [] wr [] W' → Calls Tryd.prog 13 #[.pointer (some ⟨s, 0, none⟩), .int .i64 (m : Int)] W' fun en w' => en = .returned (.int .i64 4) ∧ SB w1 w' s b g (sizeN x0) ⟨X, true, true⟩ e c q (sizeN y0) A2 B2 := fun W' hs => (KD W' hs).mono fun _ _ ⟨h1, h2, _⟩ => by
                have h1' := h1
                have h2' := h2
                simp only [Bool.not_false, er] at h1' h2'
                exact ⟨h1', h2'⟩
              have KD := Lib.hid KD
              have KPQ := Lib.hid KPQ
              have HY := HA
              clear er hp hr0 hyl HA
              go_wp2_with fail
              refine KPQ.out.mono ?_
              rintro _ w5 ⟨rfl, hw⟩
              obtain rfl : wr = w5 := hw.symm
              go_wp2_with fail
              refine KU.out.mono ?_
              rintro _ w6 ⟨au, cu, rfl, hbu, s6⟩
              have cv := conv_bts cu _ hbu rfl
              have KD := Lib.hid (KD.out w6 s6)
              clear hbu s6 KU
              go_wp2_with fail
              refine KD.out.mono ?_
              rintro _ w7 ⟨rfl, h7⟩
              have H7 : Aside (SB w1 w7 s b g (sizeN x0) ⟨X, true, !false⟩ e c q (sizeN y0) A2 B2) := h7
              clear h7 KD
              go_wp2
              go_roundg (n2 - (i + 1))
              case measure => have := HI.out; omega
              case rel => exact ⟨i + 1, Y ++ [m], false, by go_num, by rw [fl_app, fl_one, st_append], rfl, by have := HI.out; omega, by omega, X, H7.out, by have h4 := (enc8_len m).2; have h5 := HY.out.2.1; rw [fl_app, fl_one, List.length_append]; omega, (fun h => by cases h), fun _ => by have := HN.out; rw [fl_app, fl_one, List.length_append]; omega⟩
        · have hltz : ¬ (i : Int) < (n2 : Int) := by omega
          clear hlt
          have KE := end_sb HA.out.1 (tabs_stays HT.out.2.2.2.2 HW1.out) _ (Stp.refl _ _)
          obtain ⟨r, hr⟩ : ∃ r, r = enS (sizeN y0) ⟨X, true, !al⟩ A2 B2 := ⟨_, rfl⟩
          rw [← hr] at KE
          have KE := Lib.hid KE
          have HR := Lib.hid (And.intro hr (And.intro HA.out.2 HA.out.1.sg.lens.1))
          have HP := Lib.hid (And.intro HA.out.1.eb.bu.pr (And.intro HA.out.1.sg.pr HA.out.1.eb.bu.lens))
          clear hr HA
          go_wp2_with fail
          refine KE.out.mono ?_
          rintro _ w8 ⟨rfl, h8, _⟩
          have H8 : Aside (SB w1 w8 s b g (sizeN x0) sv0 e c q (sizeN y0) r.A r.B) := h8
          have d0 := (HBX.out w8 h8.eb.stp).1
          have d1 := (HBX.out w8 h8.eb.stp).2
          clear h8 KE
          go_wp2_with fail
          refine (KS.out _ _).mono ?_
          rintro _ w8 ⟨rfl, rfl⟩
          go_wp2_with fail
          go_loopg [107] (sizeN x0) (fun gk vi wr => ∃ j : Nat, vi = .int .i64 (j : Int) ∧ j ≤ sizeN x0 ∧ sizeN x0 - j ≤ gk ∧ wr = w8)
          case atStart => exact ⟨0, rfl, Nat.zero_le _, by omega, rfl⟩
          case round =>
            obtain ⟨j, rfl, hj, hg, hwr⟩ := hrel
            obtain rfl : w8 = wr := hwr.symm
            by_cases hlt : j < sizeN x0
            · have hltz : (j : Int) < (sizeN x0 : Int) := by omega
              have KC := Lib.hid (cell_zero H8.out.sg.ar j hlt)
              have HI : Aside (j < sizeN x0) := hlt
              clear hlt
              go_wp2_with fail
              refine KC.out.mono ?_
              rintro _ w9 ⟨rfl, hw⟩
              obtain rfl : w8 = w9 := hw.symm
              go_wp2
              go_roundg (sizeN x0 - (j + 1))
              case measure => have := HI.out; omega
              case rel => exact ⟨j + 1, by go_num, by have := HI.out; omega, by omega, rfl⟩
            · have hltz : ¬ (j : Int) < (sizeN x0 : Int) := by omega
              clear hlt
              have hs0 : S0.size = (fl (A2 ++ B2)).length := by rw [HSL.out.1, st_size]
              have hsy : (st (fl Y)).size = (fl Y).length := st_size _
              have hl1 := HP.out.2.2.2
              have hl2 := HR.out.2.1.1
              have hsum : IntKind.i64.wrap ((S0.size : Int) + ((st (fl Y)).size : Int)) = ((S0.size + (st (fl Y)).size : Nat) : Int) := by rw [IntKind.wrap_i64]; omega
              by_cases hall : al = true ∧ (fl (A2 ++ B2)).length + (fl Y).length ≤ sizeN y0
              · obtain ⟨rfl, hroom⟩ := hall
                obtain rfl : X = Y := HR.out.2.1.2.1 rfl
                have er : r = ⟨0, A2 ++ X, B2⟩ := by rw [HR.out.1]; exact if_pos hroom
                have hc1 : ((st (fl X)).size : Int) ≤ (sizeN x0 : Int) := by have h1 : (fl X).length ≤ sizeN x0 := HR.out.2.2; omega
                have hc2 : ((S0.size + (st (fl X)).size : Nat) : Int) ≤ (sizeN y0 : Int) := by omega
                subst er
                dsimp only at H8
                have HZ := Lib.hid (And.intro hs0 (And.intro hsy (And.intro hl1 hl2)))
                clear hs0 hsy hl1 hl2 hroom
                obtain ⟨SY, hSY⟩ : ∃ SY, SY = st (fl X) := ⟨_, rfl⟩
                rw [← hSY] at hc1 hc2 hsum ⊢
                have HSY := Lib.hid hSY
                clear hSY
                obtain ⟨av, cv, w9, hcv, hbv, hlc, hcm, s9⟩ := conv_st w8 (fl (A2 ++ B2)) (by have := HZ.out.2.2.1; omega)
                rw [← HSL.out.1] at hcv
                have KCh := rchars8 av (fl (A2 ++ B2)).length cv (fl (A2 ++ B2)) w9 hbv rfl hlc hcm (by have := HZ.out.2.2.1; omega)
                rw [chs_fl HP.out.1] at KCh
                obtain ⟨nl, hnl⟩ : ∃ nl, nl = (fl (A2 ++ B2)).length := ⟨_, rfl⟩
                obtain ⟨nc, hnc⟩ : ∃ nc, nc = (A2 ++ B2).length := ⟨_, rfl⟩
                rw [← hnl] at hcv KCh
                rw [← hnc] at KCh
                have KCh := Lib.hid KCh
                have HN := Lib.hid (And.intro hnl (And.intro hnc s9))
                clear hnl hnc hbv hlc hcm s9
                go_wp2_with (first
                  | (go_at_call 9; refine (KS.out _ _).mono ?_; rintro _ w10 ⟨rfl, hw⟩; obtain rfl : w8 = w10 := hw.symm))
                refine KCh.out.mono ?_
                rintro _ w10 ⟨ac, kc, rfl, hi10, hle, s10⟩
                have hLz := HSL.out.2
                have hLn : La ≤ kc := by rw [hLz]; have h1 := HN.out.2.1; rw [List.length_append] at h1; omega
                have hci := cutI_h ac nc kc La hLn
                have hA4 : La ≤ 4096 := by have h1 := fl_len_ge A2; have h2 := HZ.out.2.2.1; rw [fl_app, List.length_append] at h2; omega
                have KBy := Lib.hid (rbytes_run ac La kc A2 w10 hi10.head hLz hA4 HP.out.1.left)
                have H10 : Aside (SB w1 w10 s b g (sizeN x0) sv0 e c q (sizeN y0) (A2 ++ X) B2) := H8.out.stays (HN.out.2.2.trans s10)
                clear hi10 hle s10 hLz hLn hA4 KCh hcv H8
                go_wp2_with fail
                refine KBy.out.mono ?_
                rintro _ w11 ⟨v11, rfl, ho11, s11⟩
                obtain ⟨a11, c11, rfl, _⟩ := ho11.bts
                have H11 : Aside (SB w1 w11 s b g (sizeN x0) sv0 e c q (sizeN y0) (A2 ++ X) B2) := H10.out.stays s11
                have e11 : st (fl ((A2 ++ X) ++ B2)) = st (fl A2) ++ SY ++ st (fl B2) := by rw [fl_app, fl_app, ← st_append, ← st_append, HSY.out]
                have eS : S0 = st (fl A2 ++ fl B2) := by rw [HSL.out.1, fl_app]
                obtain ⟨ma, hma⟩ : ∃ ma, ma = (fl A2).length := ⟨_, rfl⟩
                have z1 := scut_h (fl A2) (fl B2) ma hma
                have z2 := scut_l (fl A2) (fl B2) ma hma
                have z3 := scutA_h (fl A2) (fl B2) ma hma
                have z4 := scutA_l (fl A2) (fl B2) ma hma
                rw [← eS] at z1 z2 z3 z4
                have hq : (fl A2).length + (fl B2).length ≤ 4096 ∧ (fl X).length ≤ 4 * i := ⟨by have h2 := HZ.out.2.2.1; rw [fl_app, List.length_append] at h2; omega, HZ.out.2.2.2⟩
                have hr1 : ¬ 9223372036854775807 < (st (fl A2)).size + SY.size := by rw [HSY.out, st_size, st_size]; omega
                have hr2 : ¬ 9223372036854775807 < (st (fl A2) ++ SY).size + (st (fl B2)).size := by rw [HSY.out, st_append, st_size, st_size, List.length_append]; omega
                have hr3 : ¬ 9223372036854775807 < (st (fl A2)).size + SY.size + (st (fl B2)).size := by rw [HSY.out, st_size, st_size, st_size]; omega
                rw [← hma] at *
                have KT : ∀ W', Stp [] w11 [] W' → Calls Tryd.prog 28 #[.pointer (some ⟨e, 0, none⟩)] W' fun en w' => en = .returned (.string (st (fl A2) ++ SY ++ st (fl B2))) ∧ Stp [] w11 [] w' := fun W' hs => by
                  have h := text_run (H11.out.eb.bu.stays hs)
                  rw [e11] at h
                  exact h.mono fun _ _ ⟨h1, h2⟩ => ⟨h1, hs.trans h2⟩
                have KT := Lib.hid KT
                clear ho11 s11 KBy H10 e11 eS hma hq hci
                obtain ⟨SA, hSA⟩ : ∃ SA, SA = st (fl A2) := ⟨_, rfl⟩
                obtain ⟨SB0, hSB⟩ : ∃ SB0, SB0 = st (fl B2) := ⟨_, rfl⟩
                rw [← hSA] at z1 z3 hr1 hr2 hr3 KT
                rw [← hSB] at z2 z4 hr2 hr3 KT
                clear hSA hSB
                have ht := beq_self_eq_true (SA ++ SY ++ SB0).toList
                have hcur : Stp [] w11 [] w11.drew := Stp.drew [] _
                have e1 := (HBX.out w11 H11.out.eb.stp).1
                clear d0 d1
                go_wp2_with fail
                go_region_held3 (fun W' => W'.cell? ⟨k, 0, none⟩ = some (.int .i64 x0))
                  (first | exact (HBX.out _ (H11.out.eb.stp.trans hcur)).1 | assumption)
                  (first
                    | (go_at_call 28; refine (KT.out _ hcur).mono ?_; rintro _ w12 ⟨rfl, s12⟩; replace hcur := s12))
                all_goals
                  go_wp2
                  go_ret
                  exact ⟨rfl, HW1.out.trans (H11.out.eb.stp.trans hcur)⟩
              · have er : r = ⟨4, A2, B2⟩ := by
                  rw [HR.out.1]
                  cases al with
                  | false => rfl
                  | true =>
                    obtain rfl : X = Y := HR.out.2.1.2.1 rfl
                    exact if_neg (fun h => hall ⟨rfl, h⟩)
                subst er
                dsimp only at H8
                have HZ := Lib.hid (And.intro hs0 (And.intro hsy (And.intro hl1 (And.intro hl2 hall))))
                have KT := text_run H8.out.eb.bu
                have KA : ∀ W', Stp [] w8 [] W' → Calls Tryd.prog 30 #[.pointer (some ⟨e, 0, none⟩)] W' (Gives (.int .i64 (La : Int)) W') := fun W' hs => by
                  rw [HSL.out.2]
                  exact bat_run (H8.out.eb.bu.stays hs)
                rw [← HSL.out.1] at KT
                have KT := Lib.hid KT
                have KA := Lib.hid KA
                have ht := beq_self_eq_true S0.toList
                have ha := beq_self_eq_true (La : Int)
                clear hs0 hsy hl1 hl2 hall
                obtain ⟨SY, hSY⟩ : ∃ SY, SY = st (fl Y) := ⟨_, rfl⟩
                rw [← hSY] at hsum ⊢
                cases al with
                | true =>
                  have hc1 : ((SY).size : Int) ≤ (sizeN x0 : Int) := by
                    have h1 : (fl X).length ≤ sizeN x0 := HR.out.2.2
                    have h2 := HR.out.2.1.2.1 rfl
                    rw [hSY, st_size, ← h2]
                    omega
                  have hc2 : ¬ ((S0.size + SY.size : Nat) : Int) ≤ (sizeN y0 : Int) := fun h => HZ.out.2.2.2.2 ⟨rfl, by have h1 := HZ.out.1; have h2 := HZ.out.2.1; rw [← hSY] at h2; omega⟩
                  clear hSY
                  go_wp2_with (first
                    | (go_at_call 9; refine (KS.out _ _).mono ?_; rintro _ w10 ⟨rfl, hw⟩; obtain rfl : w8 = w10 := hw.symm))
                  refine KT.out.mono ?_
                  rintro _ w9 ⟨rfl, s9⟩
                  have KA := Lib.hid (KA.out w9 s9)
                  have S9 := Lib.hid s9
                  clear s9 KT
                  go_wp2_with fail
                  refine KA.out.mono ?_
                  rintro _ w10 ⟨rfl, hw⟩
                  obtain rfl : w9 = w10 := hw.symm
                  go_wp2
                  go_ret
                  exact ⟨rfl, HW1.out.trans (H8.out.eb.stp.trans S9.out)⟩
                | false =>
                  have hc1 : ¬ ((SY).size : Int) ≤ (sizeN x0 : Int) := by
                    have h2 := HR.out.2.1.2.2 rfl
                    rw [hSY, st_size]
                    omega
                  clear hSY
                  go_wp2_with (first
                    | (go_at_call 9; refine (KS.out _ _).mono ?_; rintro _ w10 ⟨rfl, hw⟩; obtain rfl : w8 = w10 := hw.symm))
                  refine KT.out.mono ?_
                  rintro _ w9 ⟨rfl, s9⟩
                  have KA := Lib.hid (KA.out w9 s9)
                  have S9 := Lib.hid s9
                  clear s9 KT
                  go_wp2_with fail
                  refine KA.out.mono ?_
                  rintro _ w10 ⟨rfl, hw⟩
                  obtain rfl : w9 = w10 := hw.symm
                  go_wp2
                  go_ret
                  exact ⟨rfl, HW1.out.trans (H8.out.eb.stp.trans S9.out)⟩
end Go.Proofs.YtombkdbojdhodaaDoor
