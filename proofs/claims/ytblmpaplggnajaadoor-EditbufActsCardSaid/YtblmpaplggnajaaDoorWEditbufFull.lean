/-
  The walk of EditbufFull: a text is laid whole, or not at all.
-/
import Derived.Test.YtblmpaplggnajaaDoorRefF
import Derived.Test.YtblmpaplggnajaaDoorArgs
import Derived.Deep.RegionHeld3
namespace Go.Proofs.YtblmpaplggnajaaDoor
open Go.RowKit Go.Lib
set_option linter.unusedVariables false

theorem Ss.at {w wr : World} {a : Option Addr} {l : List Sb} (h : Ss w a l) {F : List Nat} (hs : Stp [] w F wr) {i : Nat} (hi : i < l.length) : ∃ b off, a = some ⟨b, off, none⟩ ∧ wr.cell? ⟨b, off + i, none⟩ = some (.slice (l[i]!).p (l[i]!).x.length (l[i]!).cap) ∧ Bts w (l[i]!).p (l[i]!).x ∧ (l[i]!).x.length ≤ (l[i]!).cap ∧ (l[i]!).cap ≤ maxLen := by
  obtain ⟨b, off, h1, hb, h2⟩ := h (by intro e; subst e; simp at hi)
  obtain ⟨c0, c1, c2, c3⟩ := h2 i hi
  exact ⟨b, off, h1, (hs.cell (a := ⟨b, off + i, none⟩) hb (by simp)).trans c0, c1, c2, c3⟩
/-- Insert at a buffer that is new since w, of bytes that were there. -/
theorem ins_eb2 {w W : World} {e b g N : Nat} {A B : List Nat} (h : Eb w W e b g N A B) (hT : U.Tabs w) (p : Option Addr) (n c : Nat) (l : List UInt8) (hb : Bts w p l) (hn : n = l.length) (hcap : n ≤ c) (hm : c ≤ maxLen) : ∀ W', Stp [] W [] W' →
    Calls Tryd.prog 17 #[.pointer (some ⟨e, 0, none⟩), .slice p n c] W' fun en w' => en = .returned (.int .i64 (insS N l A B).e) ∧ Eb w w' e b g N (insS N l A B).A (insS N l A B).B ∧ Stp [e, b, g] W [e, b, g] w' := fun W' hs =>
  (ins_run (h.bu.stays hs) (tabs_stays hT (h.stp.trans hs)) p n c l (hb.stays (h.stp.trans hs)) hn hcap hm (fun hne ad e => by
    obtain ⟨bb, off, e2, hlt⟩ := hb.blk hne
    rw [e2] at e
    cases e
    have := h.new
    show bb ≠ g
    omega)).mono fun _ _ ⟨h1, h2, h3⟩ => ⟨h1, (h.stays hs).act h2 h3, (hs.more (fun k hk => by cases hk)).trans h3⟩
set_option maxHeartbeats 1000000 in
set_option maxRecDepth 100000 in
theorem full_walk (pn : Int) (a1 : Option Addr) (cap1 n : Nat) (l : List Sb) (w : World) (hb : Ss w a1 l) (hn : n = l.length) (hnn : n ≤ 9223372036854775807) (hT : U.Tabs w) :
    Calls Tryd.prog 7 #[.int .i64 pn, .slice a1 n cap1] w (Tells (.bool true) w) := by
  have HT : Aside (Ss w a1 l ∧ n = l.length ∧ U.Tabs w) := ⟨hb, hn, hT⟩
  have KS := Lib.hid (fun W => size_run pn W)
  obtain ⟨hN1, hN2⟩ := sizeN_bounds pn
  obtain ⟨N, eN⟩ : ∃ N, N = sizeN pn := ⟨_, rfl⟩
  rw [← eN] at KS hN1 hN2
  have KB : ∀ W, Calls Tryd.prog 9 #[.int .i64 (N : Int)] W (Begun N W) := fun W => begin_run N W hN1 (by omega)
  have KB := Lib.hid KB
  clear hb hn hT eN
  have HD : (decide (60 < (n : Int)) = true ∨ decide (60 < (n : Int)) = false) := by cases decide (60 < (n : Int)) <;> simp
  go_enter Tryd.func7, Tryd.ntmps7
  go_wp2_with fail
  refine (KS.out _).mono ?_
  rintro _ w ⟨rfl, rfl⟩
  go_wp2_with fail
  refine (KB.out _).mono ?_
  rintro _ w1 ⟨e, b, g, rfl, h1⟩
  have H1 : Aside (Eb w w1 e b g N [] []) := h1
  clear h1 KB
  go_wp2_with fail
  refine (alive_run w1).mono ?_
  rintro _ w3 ⟨rfl, s3⟩
  have H3 : Aside (Eb w w3 e b g N [] []) := H1.out.stays s3
  clear H1 s3
  rcases HD with hd | hd
  · go_wp2_with fail
    refine (alive_run w3).mono ?_
    rintro _ w4 ⟨rfl, s4⟩
    have H4 : Aside (Stp [] w [] w4) := H3.out.stp.trans s4
    clear H3 s4
    go_wp2
    go_ret
    exact ⟨rfl, H4.out⟩
  have hn60 : n ≤ 60 := by have := of_decide_eq_false hd; omega
  go_wp2_with fail
  go_loopg [32] n (fun gk vi wr => ∃ i : Nat, vi = .int .i64 (i : Int) ∧ i ≤ n ∧ n - i ≤ gk ∧ Aside (∃ A, Eb w wr e b g N A []))
  case atStart => exact ⟨0, rfl, Nat.zero_le _, by omega, [], H3.out⟩
  case round =>
    obtain ⟨i, rfl, hi, hg, HS⟩ := hrel
    obtain ⟨A, hA⟩ : ∃ A, Eb w wr e b g N A [] := HS.out
    have HA := Lib.hid hA
    clear hA HS
    by_cases hlt : i < n
    · have hltz : (i : Int) < (n : Int) := by omega
      obtain ⟨lb, off, rfl, c0, hbx, hxc, hxm⟩ := HT.out.1.at HA.out.stp (i := i) (by have := HT.out.2.1; omega)
      generalize l[i]! = y at *
      obtain ⟨p, cap, x⟩ := y
      dsimp only at c0 hbx hxc hxm
      obtain ⟨nx, hnx⟩ : ∃ nx, nx = x.length := ⟨_, rfl⟩
      rw [← hnx] at c0 hxc
      have HX := Lib.hid (And.intro hbx (And.intro hnx (And.intro hxc (And.intro hxm hlt))))
      clear hbx hnx hxc hxm hlt
      by_cases h300 : 300 < nx
      · have h3z : (300 : Int) < (nx : Int) := by omega
        go_wp2
        go_ret
        exact ⟨rfl, HA.out.stp⟩
      have h3z : ¬ (300 : Int) < (nx : Int) := by omega
      have hn3 : nx ≤ 300 := by omega
      clear h300
      have KT := text_run HA.out.bu
      rw [List.append_nil] at KT
      obtain ⟨S, hS⟩ : ∃ S, S = st (fl A) := ⟨_, rfl⟩
      rw [← hS] at KT
      have KT := Lib.hid KT
      have hml : (fl A).length ≤ N := by have := HA.out.bu.lens; rw [List.append_nil] at this; omega
      have hSS : S.size = (fl A).length := by rw [hS, st_size]
      obtain ⟨m, hm⟩ : ∃ m, m = (fl A).length := ⟨_, rfl⟩
      rw [← hm] at hml hSS
      have HM := Lib.hid (And.intro hS (And.intro hm (And.intro hml hSS)))
      have hsum : IntKind.i64.wrap ((S.size : Int) + (nx : Int)) = ((m + nx : Nat) : Int) := by rw [hSS, IntKind.wrap_i64]; omega
      have hself : ∀ z : Int, (z != z) = false := fun z => by simp
      clear hS hm hml hSS
      go_wp2_with fail
      refine KT.out.mono ?_
      rintro _ w5 ⟨rfl, s5⟩
      have H5 : Aside (Eb w w5 e b g N A []) := HA.out.stays s5
      have KA := Lib.hid (bat_run H5.out.bu)
      clear s5 KT
      go_wp2_with fail
      refine KA.out.mono ?_
      rintro _ w5 ⟨rfl, rfl⟩
      have KI := ins_eb2 H5.out HT.out.2.2 p nx cap x HX.out.1 HX.out.2.1 HX.out.2.2.1 HX.out.2.2.2.1
      have KI := Lib.hid KI
      clear KA
      have ht := beq_self_eq_true S.toList
      by_cases hf : Fi x
      · have hfb := (fi_iff x).2 hf
        by_cases hN : N < m + nx
        · have hNz : (N : Int) < ((m + nx : Nat) : Int) := by omega
          have hr : insS N x A [] = ⟨4, A, []⟩ := by
            rw [insS_yes hf]
            unfold layS
            rw [hf.of.2, List.append_nil, if_neg (by have := HM.out.2.1; have := HX.out.2.1; omega)]
          rw [hr] at KI
          have HR := Lib.hid (And.intro hfb hr)
          have KI := Lib.hid KI
          clear hfb hr
          go_wp2_with fail
          refine (KI.out _ (Stp.refl _ _)).mono ?_
          rintro _ w6 ⟨rfl, h6, s6⟩
          have H6 : Aside (Eb w w6 e b g N A []) := h6
          have KF := rfine_run p nx cap x w6 (HX.out.1.stays H6.out.stp) HX.out.2.1 HX.out.2.2.1 HX.out.2.2.2.1
          rw [HR.out.1] at KF
          have KF := Lib.hid KF
          clear h6 s6 KI H5
          go_wp2_with fail
          refine KF.out.mono ?_
          rintro _ w7 ⟨rfl, s7⟩
          have H7 : Aside (Eb w w7 e b g N A []) := H6.out.stays s7
          clear s7 KF H6
          go_wp2_with fail
          refine (KS.out _).mono ?_
          rintro _ w7 ⟨rfl, rfl⟩
          have KT := text_run H7.out.bu
          rw [List.append_nil, ← HM.out.1] at KT
          have KT := Lib.hid KT
          go_wp2_with fail
          refine KT.out.mono ?_
          rintro _ w8 ⟨rfl, s8⟩
          have H8 : Aside (Eb w w8 e b g N A []) := H7.out.stays s8
          have KA := Lib.hid (bat_run H8.out.bu)
          have KC := Lib.hid (clean_run H8.out.bu.ar)
          have hsf := hself (A.length : Int)
          clear s8 KT H7
          go_wp2_with fail
          refine KA.out.mono ?_
          rintro _ w8 ⟨rfl, rfl⟩
          go_wp2_with fail
          refine KC.out.mono ?_
          rintro _ w9 ⟨rfl, q9, hw9⟩
          have H9 : Aside (Eb w w9 e b g N A []) := by rw [hw9]; exact H8.out.stays (Stp.drewN _ _ _)
          clear hw9 H8 KA KC
          go_wp2
          go_roundg (n - (i + 1))
          case measure => have := HX.out.2.2.2.2; omega
          case rel => exact ⟨i + 1, by go_num, by have := HX.out.2.2.2.2; omega, by omega, A, H9.out⟩
        · have hNz : ¬ (N : Int) < ((m + nx : Nat) : Int) := by omega
          have HFi := Lib.hid hf
          have hr : insS N x A [] = ⟨0, A ++ chs x, []⟩ := by
            rw [insS_yes hf]
            unfold layS
            rw [hf.of.2, List.append_nil, if_pos (by have := HM.out.2.1; have := HX.out.2.1; omega)]
          rw [hr] at KI
          have HR := Lib.hid (And.intro hfb hr)
          have KI := Lib.hid KI
          clear hfb hr
          go_wp2_with fail
          refine (KI.out _ (Stp.refl _ _)).mono ?_
          rintro _ w6 ⟨rfl, h6, s6⟩
          have H6 : Aside (Eb w w6 e b g N (A ++ chs x) []) := h6
          have KF := rfine_run p nx cap x w6 (HX.out.1.stays H6.out.stp) HX.out.2.1 HX.out.2.2.1 HX.out.2.2.2.1
          rw [HR.out.1] at KF
          have KF := Lib.hid KF
          clear h6 s6 KI H5
          go_wp2_with fail
          refine KF.out.mono ?_
          rintro _ w7 ⟨rfl, s7⟩
          have H7 : Aside (Eb w w7 e b g N (A ++ chs x) []) := H6.out.stays s7
          clear s7 KF H6
          have hx0 : fl (A ++ chs x) = fl A ++ x := by rw [fl_app, HFi.out.of.2]
          have KT : ∀ W', Stp [] w7 [] W' → Calls Tryd.prog 21 #[.pointer (some ⟨e, 0, none⟩)] W' fun en w' => en = .returned (.string (S ++ st x)) ∧ Stp [] w7 [] w' := fun W' hs => by
            have h := text_run (H7.out.bu.stays hs)
            rw [List.append_nil, hx0, ← st_append, ← HM.out.1] at h
            exact h.mono fun _ _ ⟨h1, h2⟩ => ⟨h1, hs.trans h2⟩
          have KT := Lib.hid KT
          have KA : ∀ W', Stp [] w7 [] W' → Calls Tryd.prog 24 #[.pointer (some ⟨e, 0, none⟩)] W' (Gives (.int .i64 ((A.length + (chs x).length : Nat) : Int)) W') := fun W' hs => by
            have h := bat_run (H7.out.bu.stays hs)
            rw [List.length_append] at h
            exact h
          have KA := Lib.hid KA
          have KU : ∀ W', Stp [] w7 [] W' → Calls Tryd.prog 33 #[.slice p nx cap] W' fun en w' => en = .returned (.int .i64 ((chs x).length : Int)) ∧ Stp [] w7 [] w' := fun W' hs =>
            (count8 p nx cap x W' (HX.out.1.stays (H7.out.stp.trans hs)) HX.out.2.1 HX.out.2.2.1 HX.out.2.2.2.1 (by omega) (tabs_stays HT.out.2.2 (H7.out.stp.trans hs))).mono fun _ _ ⟨h1, h2⟩ => ⟨h1, hs.trans h2⟩
          have KU := Lib.hid KU
          have CV : Aside (∀ W', Stp [] w7 [] W' → (convert 36 9 (.slice p nx cap)).run Tryd.prog W' = .ok (.string (st x)) W') := fun W' hs => conv_bts cap nx (HX.out.1.stays (H7.out.stp.trans hs)) HX.out.2.1
          have hr1 : ¬ 9223372036854775807 < S.size + (st x).size := by
            have h1 := HM.out.2.2
            have h2 := HX.out.2.1
            rw [st_size]
            omega
          have ht2 := beq_self_eq_true (S ++ st x).toList
          have hal : A.length + (chs x).length ≤ N := by
            have h1 := H7.out.bu.lens
            have h2 := fl_len_ge (A ++ chs x)
            rw [List.append_nil, List.length_append] at *
            omega
          have HAL := Lib.hid hal
          have hcur : Stp [] w7 [] w7.drew := Stp.drew _ _
          generalize A.length = al at *
          generalize (chs x).length = cl at *
          have hsum2 : IntKind.i64.wrap ((al : Int) + (cl : Int)) = ((al + cl : Nat) : Int) := by rw [IntKind.wrap_i64]; omega
          have hsf := hself ((al + cl : Nat) : Int)
          clear hx0 hal
          go_wp2_with fail
          refine (KS.out _).mono ?_
          rintro _ w7 ⟨rfl, rfl⟩
          go_wp2_with fail
          go_region_held3 (fun W' => (convert 36 9 (.slice p nx cap)).run Tryd.prog W' = .ok (.string (st x)) W')
            (first | exact CV.out _ hcur | assumption)
            (first
              | (go_at_call 21; refine (KT.out _ hcur).mono ?_; rintro _ w8 ⟨rfl, s8⟩; replace hcur := s8)
              | (go_at_call 24; refine (KA.out _ hcur).mono ?_; rintro _ w8 ⟨rfl, rfl⟩)
              | (go_at_call 33; refine (KU.out _ hcur).mono ?_; rintro _ w8 ⟨rfl, s8⟩; replace hcur := s8))
          all_goals
            have H8 : Aside (Eb w w8 e b g N (A ++ chs x) []) := H7.out.stays hcur
            have KC := Lib.hid (clean_run H8.out.bu.ar)
            clear hcur KT KA KU CV H7
            go_wp2_with fail
            refine KC.out.mono ?_
            rintro _ w9 ⟨rfl, q9, hw9⟩
            have H9 : Aside (Eb w w9 e b g N (A ++ chs x) []) := by rw [hw9]; exact H8.out.stays (Stp.drewN _ _ _)
            clear hw9 H8 KC
            go_wp2
            go_roundg (n - (i + 1))
            case measure => have := HX.out.2.2.2.2; omega
            case rel => exact ⟨i + 1, by go_num, by have := HX.out.2.2.2.2; omega, by omega, A ++ chs x, H9.out⟩
      · have hfb : fiB x = false := by
          cases hq : fiB x
          · rfl
          · exact absurd ((fi_iff x).1 hq) hf
        have hr : insS N x A [] = ⟨8, A, []⟩ := insS_no hf N A []
        rw [hr] at KI
        have HR := Lib.hid (And.intro hfb hr)
        have KI := Lib.hid KI
        clear hfb hr
        go_wp2_with fail
        refine (KI.out _ (Stp.refl _ _)).mono ?_
        rintro _ w6 ⟨rfl, h6, s6⟩
        have H6 : Aside (Eb w w6 e b g N A []) := h6
        have KF := rfine_run p nx cap x w6 (HX.out.1.stays H6.out.stp) HX.out.2.1 HX.out.2.2.1 HX.out.2.2.2.1
        rw [HR.out.1] at KF
        have KF := Lib.hid KF
        clear h6 s6 KI H5
        go_wp2_with fail
        refine KF.out.mono ?_
        rintro _ w7 ⟨rfl, s7⟩
        have H7 : Aside (Eb w w7 e b g N A []) := H6.out.stays s7
        clear s7 KF H6
        have KT := text_run H7.out.bu
        rw [List.append_nil, ← HM.out.1] at KT
        have KT := Lib.hid KT
        go_wp2_with fail
        refine KT.out.mono ?_
        rintro _ w8 ⟨rfl, s8⟩
        have H8 : Aside (Eb w w8 e b g N A []) := H7.out.stays s8
        have KA := Lib.hid (bat_run H8.out.bu)
        have KC := Lib.hid (clean_run H8.out.bu.ar)
        have hsf := hself (A.length : Int)
        clear s8 KT H7
        go_wp2_with fail
        refine KA.out.mono ?_
        rintro _ w8 ⟨rfl, rfl⟩
        go_wp2_with fail
        refine KC.out.mono ?_
        rintro _ w9 ⟨rfl, q9, hw9⟩
        have H9 : Aside (Eb w w9 e b g N A []) := by rw [hw9]; exact H8.out.stays (Stp.drewN _ _ _)
        clear hw9 H8 KA KC
        go_wp2
        go_roundg (n - (i + 1))
        case measure => have := HX.out.2.2.2.2; omega
        case rel => exact ⟨i + 1, by go_num, by have := HX.out.2.2.2.2; omega, by omega, A, H9.out⟩
    · have hltz : ¬ (i : Int) < (n : Int) := by omega
      go_wp2
      go_ret
      exact ⟨rfl, HA.out.stp⟩
end Go.Proofs.YtblmpaplggnajaaDoor
