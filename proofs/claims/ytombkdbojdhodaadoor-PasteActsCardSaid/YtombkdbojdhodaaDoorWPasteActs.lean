/-
  The walk of PasteActs: each answer, whether a paste is begun, and over, how much waits, and the buffer, are the document's.
-/
import Derived.Test.YtombkdbojdhodaaDoorTwoP
import Derived.Deep.RegionHeld3
import Derived.Deep.CutBlock
import Derived.Deep.DeepCutAuto
namespace Go.Proofs.YtombkdbojdhodaaDoor
open Go.RowKit Go.Lib
set_option linter.unusedVariables false

theorem As.at {w wr : World} {a : Option Addr} {l : List Ac} (h : As w a l) {F : List Nat} (hs : Stp [] w F wr) {i : Nat} (hi : i < l.length) : ∃ b off, a = some ⟨b, off, none⟩ ∧ wr.cell? ⟨b, off + i * 2, none⟩ = some (.int .i64 (l[i]!).1) ∧ wr.cell? ⟨b, off + i * 2 + 1, none⟩ = some (.int .i64 (l[i]!).2) := by
  obtain ⟨b, off, h1, hb, h2⟩ := h (by intro e; subst e; simp at hi)
  exact ⟨b, off, h1, (hs.cell (a := ⟨b, off + i * 2, none⟩) hb (by simp)).trans (h2 i hi).1, (hs.cell (a := ⟨b, off + i * 2 + 1, none⟩) hb (by simp)).trans (h2 i hi).2⟩
set_option maxHeartbeats 4000000 in
set_option maxRecDepth 100000 in
theorem acts_walk (p1 p2 : Int) (a1 : Option Addr) (cap1 n : Nat) (l : List Ac) (w : World) (hb : As w a1 l) (hn : n = l.length) (hnn : n ≤ 9223372036854775807) (hT : U.Tabs w) :
    Calls Tryd.prog 3 #[.int .i64 p1, .int .i64 p2, .slice a1 n cap1] w (Tells (.bool true) w) := by
  have HT : Aside (As w a1 l ∧ n = l.length ∧ U.Tabs w) := ⟨hb, hn, hT⟩
  have KS := Lib.hid (fun z W => size_run z W)
  have hN := sizeN_bounds p1
  have hM := sizeN_bounds p2
  have KB : ∀ W, Calls Tryd.prog 8 #[.int .i64 (sizeN p1 : Int), .int .i64 (sizeN p2 : Int)] W (Begun (sizeN p1) (sizeN p2) W) := fun W => begin_run _ _ W hN.1 (by omega) hM.1 (by omega)
  have KB := Lib.hid KB
  have hself : ∀ z : Int, (z != z) = false := fun z => by simp
  have HD : (decide (300 < (n : Int)) = true ∨ decide (300 < (n : Int)) = false) := by cases decide (300 < (n : Int)) <;> simp
  clear hb hn hT
  go_enter Tryd.func3, Tryd.ntmps3
  go_wp2_with (first
    | (go_at_call 9; refine (KS.out _ _).mono ?_; rintro _ w2 ⟨rfl, hw⟩; obtain rfl : w = w2 := hw.symm))
  refine (KB.out _).mono ?_
  rintro _ w1 ⟨s, b, g, e, c, q, rfl, h1⟩
  obtain ⟨N, eN⟩ : ∃ N, N = sizeN p1 := ⟨_, rfl⟩
  obtain ⟨M, eM⟩ : ∃ M, M = sizeN p2 := ⟨_, rfl⟩
  have K1 : ∀ W, Calls Tryd.prog 9 #[.int .i64 p1] W (Gives (.int .i64 (N : Int)) W) := fun W => by rw [eN]; exact KS.out p1 W
  have K2 : ∀ W, Calls Tryd.prog 9 #[.int .i64 p2] W (Gives (.int .i64 (M : Int)) W) := fun W => by rw [eM]; exact KS.out p2 W
  have KN1 := Lib.hid K1
  have KN2 := Lib.hid K2
  clear K1 K2
  rw [← eN, ← eM] at h1
  rw [← eN] at hN
  rw [← eM] at hM
  rw [← eN, ← eM]
  have H1 : Aside (SB w w1 s b g N sv0 e c q M [] []) := h1
  have KV := Lib.hid (alive_run w1 (tabs_stays HT.out.2.2 h1.eb.stp))
  clear h1 KB KS eN eM
  go_wp2_with fail
  refine KV.out.mono ?_
  rintro _ w3 ⟨rfl, s3⟩
  have H3 : Aside (SB w w3 s b g N sv0 e c q M [] []) := H1.out.stays s3
  clear H1 s3 KV
  rcases HD with hd | hd
  · have KV := Lib.hid (alive_run w3 (tabs_stays HT.out.2.2 H3.out.eb.stp))
    go_wp2_with fail
    refine KV.out.mono ?_
    rintro _ w4 ⟨rfl, s4⟩
    have H4 : Aside (Stp [] w [] w4) := H3.out.eb.stp.trans s4
    clear H3 s4
    go_wp2
    go_ret
    exact ⟨rfl, H4.out⟩
  have hn3 : n ≤ 300 := by have := of_decide_eq_false hd; omega
  have HNew := Lib.hid (new_two H3.out (by omega) (by omega))
  go_wp2_with fail
  refine (KN1.out _).mono ?_
  rintro _ w4 ⟨rfl, hw⟩
  obtain rfl : w3 = w4 := hw.symm
  go_wp2_with fail
  refine (KN2.out _).mono ?_
  rintro _ w4 ⟨rfl, hw⟩
  subst hw
  go_wp2_with fail
  obtain ⟨m, hm⟩ : ∃ m, m = w3.heap.size + 1 := ⟨_, rfl⟩
  obtain ⟨x, hx⟩ : ∃ x, x = w3.heap.size := ⟨_, rfl⟩
  obtain ⟨w5, hw5⟩ : ∃ w5, w5 = ((w3.alloc (.cells #[.slice none 0 0, .int .i64 (N : Int), .bool false, .bool false] 33)).alloc (.cells #[.slice none 0 0, .slice none 0 0, .int .i64 (M : Int)] 36)) := ⟨_, rfl⟩
  have H5 : Aside (Both w s b g N e c q M x m w5) := by rw [hm, hx, hw5]; exact HNew.out w3 (Stp.refl _ _)
  rw [← hm, ← hx, ← hw5]
  clear hm hx hw5 HNew KN1 KN2 H3
  go_loopg [52] n (fun gk vi wr => ∃ i : Nat, vi = .int .i64 (i : Int) ∧ i ≤ n ∧ n - i ≤ gk ∧ Aside (Both w s b g N e c q M x m wr))
  case atStart => exact ⟨0, rfl, Nat.zero_le _, by omega, H5.out⟩
  case round =>
    obtain ⟨i, rfl, hi, hg, HS⟩ := hrel
    obtain ⟨t, A, B, hA⟩ : Both w s b g N e c q M x m wr := HS.out
    have HA := Lib.hid hA
    clear hA HS H5
    by_cases hlt : i < n
    · have hltz : (i : Int) < (n : Int) := by omega
      obtain ⟨lb, off, rfl, c0, c1⟩ := HT.out.1.at HA.out.sb.eb.stp (i := i) (by have := HT.out.2.1; omega)
      generalize l[i]! = y at *
      obtain ⟨k, ka⟩ := y
      dsimp only at c0 c1
      have HI : Aside (i < n) := hlt
      obtain ⟨ee0, hee0, KD⟩ := start_two HA.out
      have KD0 := Lib.hid KD
      clear KD
      obtain ⟨ee1, hee1, KD⟩ := add_two HA.out ka
      have KD1 := Lib.hid KD
      clear KD
      obtain ⟨ee2, hee2, KD⟩ := end_two HA.out HT.out.2.2
      have KD2 := Lib.hid KD
      clear KD
      have KD3 := Lib.hid (drop_two HA.out)
      obtain ⟨ee4, hee4, KD⟩ := putb_two HA.out ka
      have KD4 := Lib.hid KD
      clear KD
      obtain ⟨cg5, KD⟩ := left_two HA.out
      have KD5 := Lib.hid KD
      clear KD
      have hl1 := HA.out.sb.sg.lt
      have hl2 := HA.out.sb.eb.bu.lt
      have hl3 : x < wr.heap.size := HA.out.tx.elim fun _ ⟨_, h⟩ => h.lt
      have hl4 : m < wr.heap.size := HA.out.rb.ex.elim fun _ ⟨_, _, _, h⟩ => h.lt
      have CX : Aside (∀ (G G' : List Nat), (∀ k ∈ G, k = s ∨ k = b ∨ k = g ∨ k = e ∨ k = c ∨ k = q) → ∀ w', Stp G (wr.alloc (.cells #[.int .i64 k, .int .i64 ka] 38)) G' w' → w'.cell? ⟨wr.heap.size, 1, none⟩ = some (.int .i64 ka)) := fun G G' hG w' hs =>
        copy_cells _ _ _ rfl (fun k hk => by rcases hG k hk with h | h | h | h | h | h <;> omega) w' hs 1 _ rfl
      have CY : Aside (∀ (w6 w7 : World) (G G' : List Nat) (v : Value), (∀ k ∈ G, k = x ∨ k = m) → Stp G w6 G' w7 → w6.cell? ⟨wr.heap.size, 1, none⟩ = some v → w7.cell? ⟨wr.heap.size, 1, none⟩ = some v) := fun w6 w7 G G' v hG hs hv =>
        (hs.cell (a := ⟨wr.heap.size, 1, none⟩) (block_lt_of_cell hv) (fun h => by have := hG _ h; simp at this; omega)).trans hv
      clear hlt hl1 hl2 hl3 hl4
      go_upto_block 2 with (fail)
      go_cut [14, 15] from 58 to 105 (fun v14 v15 wx => ∃ z : Int, v14 = .int .i64 z ∧ v15 = .int .i64 z ∧ Aside (Both w s b g N e c q M x m wx))
      case first =>
        by_cases hk0 : k = 0
        · subst hk0
          go_wp2_with fail
          refine (KD0.out _ (Stp.alloc [] wr _)).mono ?_
          rintro _ w6 ⟨rfl, S6, KR⟩
          clear S6
          go_wp2_with fail
          refine (KR.out _ (Stp.refl _ _)).mono ?_
          rintro _ w7 ⟨rfl, H7, _⟩
          clear KR
          go_wp2_with fail
          go_meet
          exact ⟨ee0, rfl, rfl, H7⟩
        by_cases hk1 : k = 1
        · subst hk1
          go_wp2_with fail
          have hst0 : Stp [] wr [] (wr.alloc (.cells #[.int .i64 1, .int .i64 ka] 38)).drew := (Stp.alloc [] wr _).trans (Stp.drew [] _)
          have hcx0 := CX.out [] [] (fun k hk => by cases hk) (wr.alloc (.cells #[.int .i64 1, .int .i64 ka] 38)).drew (Stp.drew _ _)
          clear c0 c1
          go_region_held3 (fun W' => W'.cell? ⟨wr.heap.size, 1, none⟩ = some (.int .i64 ka))
            (first | exact hcx0 | exact dd2 | exact dd)
            (first
              | (go_at_call 13; refine (KD1.out _ hst0).mono ?_; rintro _ w6 ⟨rfl, S6, KR⟩; have dd := CX.out _ _ (fun k hk => by simp at hk; omega) w6 (((Stp.drew _ _)).trans S6.out))
              | (go_at_call 14; refine (KR.out _ (Stp.refl _ _)).mono ?_; rintro _ w7 ⟨rfl, H7, S7⟩; have dd2 := CY.out _ _ _ _ _ (fun k hk => by simp at hk; omega) S7.out dd))
          all_goals
            go_wp2_with fail
            go_meet
            exact ⟨ee1, rfl, rfl, H7⟩
        by_cases hk2 : k = 2
        · subst hk2
          go_wp2_with fail
          refine (KD2.out _ (Stp.alloc [] wr _)).mono ?_
          rintro _ w6 ⟨rfl, S6, KR⟩
          clear S6
          go_wp2_with fail
          refine (KR.out _ (Stp.refl _ _)).mono ?_
          rintro _ w7 ⟨rfl, H7, _⟩
          clear KR
          go_wp2_with fail
          go_meet
          exact ⟨ee2, rfl, rfl, H7⟩
        by_cases hk3 : k = 3
        · subst hk3
          go_wp2_with fail
          refine (KD3.out _ (Stp.alloc [] wr _)).mono ?_
          rintro _ w6 ⟨rfl, S6, KR⟩
          clear S6
          go_wp2_with fail
          refine (KR.out _ (Stp.refl _ _)).mono ?_
          rintro _ w7 ⟨rfl, H7, _⟩
          clear KR
          go_wp2_with fail
          go_meet
          exact ⟨0, rfl, rfl, H7⟩
        by_cases hk4 : k = 4
        · subst hk4
          go_wp2_with fail
          have hst0 : Stp [] wr [] (wr.alloc (.cells #[.int .i64 4, .int .i64 ka] 38)).drew := (Stp.alloc [] wr _).trans (Stp.drew [] _)
          have hcx0 := CX.out [] [] (fun k hk => by cases hk) (wr.alloc (.cells #[.int .i64 4, .int .i64 ka] 38)).drew (Stp.drew _ _)
          clear c0 c1
          go_region_held3 (fun W' => W'.cell? ⟨wr.heap.size, 1, none⟩ = some (.int .i64 ka))
            (first | exact hcx0 | exact dd2 | exact dd)
            (first
              | (go_at_call 19; refine (KD4.out _ hst0).mono ?_; rintro _ w6 ⟨rfl, S6, KR⟩; have dd := CX.out _ _ (fun k hk => by simp at hk; omega) w6 (((Stp.drew _ _)).trans S6.out))
              | (go_at_call 20; refine (KR.out _ (Stp.refl _ _)).mono ?_; rintro _ w7 ⟨rfl, H7, S7⟩; have dd2 := CY.out _ _ _ _ _ (fun k hk => by simp at hk; omega) S7.out dd))
          all_goals
            go_wp2_with fail
            go_meet
            exact ⟨ee4, rfl, rfl, H7⟩
        by_cases hk5 : k = 5
        · subst hk5
          go_wp2_with fail
          refine (KD5.out _ (Stp.alloc [] wr _)).mono ?_
          rintro _ w6 ⟨rfl, S6, KR⟩
          clear S6
          go_wp2_with fail
          refine (KR.out _ (Stp.refl _ _)).mono ?_
          rintro _ w7 ⟨rfl, H7, _⟩
          clear KR
          go_wp2_with fail
          go_meet
          exact ⟨0, rfl, rfl, H7⟩
        · have HE : Aside (∀ o, Both w s b g N e c q M x m (wr.alloc o)) := fun o => ⟨_, _, _, HA.out.stays (Stp.alloc [] wr o)⟩
          go_wp2_with fail
          go_meet
          exact ⟨0, rfl, rfl, HE.out _⟩
      case rest =>
        obtain ⟨z, rfl, rfl, HB7⟩ := hcut
        obtain ⟨t7, C, D, h7⟩ : Both w s b g N e c q M x m wc := HB7.out
        obtain ⟨X, bg, ov⟩ := t7
        obtain ⟨px, cx, htc⟩ := h7.tx
        obtain ⟨pa, ca, pb, cb, hrc⟩ := h7.rb.ex
        have H7 := Lib.hid h7
        have e0 : wc.cell? ⟨x, 0, none⟩ = some (.slice px X.length cx) := htc.c0
        have KBy : Calls Tryd.prog 23 #[.slice px X.length cx] wc fun en w' => ∃ a k, en = .returned (.slice a (fl X).length k) ∧ Stp [] wc [] w' :=
          (rbytes_run px X.length cx X wc htc.ia rfl htc.len htc.pr).mono fun _ _ ⟨v, q1, q2, q3⟩ => by
            obtain ⟨a, k, rfl, _⟩ := q2.bts
            exact ⟨a, k, q1, q3⟩
        obtain ⟨xl, hxl⟩ : ∃ xl, xl = X.length := ⟨_, rfl⟩
        obtain ⟨wl, hwl⟩ : ∃ wl, wl = (fl X).length := ⟨_, rfl⟩
        rw [← hxl] at e0 KBy
        rw [← hwl] at KBy
        have KBN := Lib.hid KBy
        have HWL := Lib.hid (And.intro hwl htc)
        have HRC := Lib.hid hrc
        clear KBy hxl hwl htc hrc h7 HB7 KD0 KD1 KD2 KD3 KD4 KD5 CX CY c0 c1 hee0 hee1 hee2 hee4 HA
        go_wp2_with fail
        refine KBN.out.mono ?_
        rintro _ w8 ⟨a8, k8, rfl, s8⟩
        have H8 : Aside (PA w w8 s b g N e c q M x m ⟨X, bg, ov⟩ C D) := H7.out.stays s8
        have HRC8 := Lib.hid (HRC.out.stays s8)
        have HTC8 := Lib.hid (HWL.out.2.stays s8)
        clear s8 KBN H7 HRC e0
        obtain ⟨S, hS⟩ : ∃ S, S = st (fl (C ++ D)) := ⟨_, rfl⟩
        have KT : ∀ W', Stp [] w8 [] W' → Calls Tryd.prog 28 #[.pointer (some ⟨e, 0, none⟩)] W' fun en w' => en = .returned (.string S) ∧ Stp [] w8 [] w' := fun W' hs => by
          rw [hS]
          exact (text_run (H8.out.sb.eb.bu.stays hs)).mono fun _ _ ⟨h1, h2⟩ => ⟨h1, hs.trans h2⟩
        have KTN := Lib.hid KT
        obtain ⟨tl, htl⟩ : ∃ tl, tl = (fl (C ++ D)).length := ⟨_, rfl⟩
        have KM : ∀ W', Stp [] w8 [] W' → Calls Tryd.prog 29 #[.pointer (some ⟨m, 0, none⟩)] W' fun en w' => ∃ a k, en = .returned (.slice a tl k) ∧ Stp [] w8 [] w' ∧ (convert 50 9 (.slice a tl k)).run Tryd.prog w' = .ok (.string S) w' := fun W' hs =>
          (rtext_run (H8.out.rb.stays hs)).mono fun _ w' ⟨v, h1, h2, h3⟩ => by
            obtain ⟨a, k, e1, hb, _⟩ := h2.bts
            refine ⟨a, k, by rw [h1, e1, htl], hs.trans h3, ?_⟩
            rw [hS]
            exact conv_bts k _ hb htl
        have KMN := Lib.hid KM
        have KG : ∀ W', Stp [] w8 [] W' → Calls Tryd.prog 24 #[.pointer (some ⟨s, 0, none⟩)] W' (Gives (.bool bg) W') := fun W' hs => begun_run (H8.out.sb.sg.stays hs)
        have KGN := Lib.hid KG
        have KO : ∀ W', Stp [] w8 [] W' → Calls Tryd.prog 25 #[.pointer (some ⟨s, 0, none⟩)] W' (Gives (.bool ov) W') := fun W' hs => over_run (H8.out.sb.sg.stays hs)
        have KON := Lib.hid KO
        have KL : ∀ W', Stp [] w8 [] W' → Calls Tryd.prog 26 #[.pointer (some ⟨s, 0, none⟩)] W' (Gives (.int .i64 (wl : Int)) W') := fun W' hs => by
          rw [HWL.out.1]
          exact slen_run (H8.out.sb.sg.stays hs)
        have KLN := Lib.hid KL
        have KX : ∀ W', Stp [] w8 [] W' → Calls Tryd.prog 27 #[.pointer (some ⟨b, 0, none⟩)] W' (Gives (.int .i64 (wl : Int)) W') := fun W' hs => by
          rw [HWL.out.1]
          exact len_cl (H8.out.sb.sg.stays hs).ar
        have KXN := Lib.hid KX
        have KA : ∀ W', Stp [] w8 [] W' → Calls Tryd.prog 30 #[.pointer (some ⟨e, 0, none⟩)] W' (Gives (.int .i64 (C.length : Int)) W') := fun W' hs => bat_run (H8.out.sb.eb.bu.stays hs)
        have KAN := Lib.hid KA
        have KC : ∀ W', Stp [] w8 [] W' → Calls Tryd.prog 31 #[.pointer (some ⟨b, 0, none⟩)] W' fun en w' => en = .returned (.bool true) ∧ Stp [] w8 [] w' := fun W' hs =>
          (clean_run (H8.out.sb.sg.stays hs).ar).mono fun _ _ ⟨h1, q, h2⟩ => ⟨h1, by rw [h2]; exact hs.trans (Stp.drewN _ _ _)⟩
        have KCN := Lib.hid KC
        have HC : Aside (∀ W', Stp [] w8 [] W' → W'.cell? ⟨m, 0, none⟩ = some (.slice pa C.length ca) ∧ W'.cell? ⟨x, 2, none⟩ = some (.bool bg) ∧ W'.cell? ⟨x, 3, none⟩ = some (.bool ov)) := fun W' hs => ⟨(HRC8.out.stays hs).c0, (HTC8.out.stays hs).c2, (HTC8.out.stays hs).c3⟩
        have ht2 := beq_self_eq_true S.toList
        have hcur : Stp [] w8 [] w8.drew := Stp.drew _ _
        have hb0 : (bg != bg) = false := by cases bg <;> rfl
        have hb1 : (ov != ov) = false := by cases ov <;> rfl
        clear hS htl KT KM KG KO KL KX KA KC
        generalize C.length = al at *
        have hs1 := hself (al : Int)
        have hs2 := hself (wl : Int)
        have hs3 := hself z
        clear hself
        go_wp2_with fail
        go_region_held (fun W' => W'.cell? ⟨m, 0, none⟩ = some (.slice pa al ca) ∧ W'.cell? ⟨x, 2, none⟩ = some (.bool bg) ∧ W'.cell? ⟨x, 3, none⟩ = some (.bool ov))
          (first | exact HC.out _ hcur | exact ⟨by assumption, by assumption, by assumption⟩)
          (first
            | (go_at_call 28; refine (KTN.out _ hcur).mono ?_; rintro _ w9 ⟨rfl, s9⟩; replace hcur := s9)
            | (go_at_call 29; refine (KMN.out _ hcur).mono ?_; rintro _ w9 ⟨a9, k9, rfl, s9, cv9⟩; replace hcur := s9)
            | (go_at_call 24; refine (KGN.out _ hcur).mono ?_; rintro _ w9 ⟨rfl, rfl⟩)
            | (go_at_call 25; refine (KON.out _ hcur).mono ?_; rintro _ w9 ⟨rfl, rfl⟩)
            | (go_at_call 26; refine (KLN.out _ hcur).mono ?_; rintro _ w9 ⟨rfl, rfl⟩)
            | (go_at_call 27; refine (KXN.out _ hcur).mono ?_; rintro _ w9 ⟨rfl, rfl⟩)
            | (go_at_call 30; refine (KAN.out _ hcur).mono ?_; rintro _ w9 ⟨rfl, rfl⟩)
            | (go_at_call 31; refine (KCN.out _ hcur).mono ?_; rintro _ w9 ⟨rfl, s9⟩; replace hcur := s9))
        go_wp2
        go_roundg (n - (i + 1))
        case measure => have := HI.out; omega
        case rel => exact ⟨i + 1, by go_num, by have := HI.out; omega, by omega, _, _, _, H8.out.stays hcur⟩
    · have hltz : ¬ (i : Int) < (n : Int) := by omega
      go_wp2
      go_ret
      exact ⟨rfl, HA.out.sb.eb.stp⟩
end Go.Proofs.YtombkdbojdhodaaDoor
