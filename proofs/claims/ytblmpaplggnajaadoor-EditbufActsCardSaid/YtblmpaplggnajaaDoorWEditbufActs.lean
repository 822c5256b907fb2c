/-
  The walk of EditbufActs: each answer, the bytes, how many characters there are and where the place is are the document's.
-/
import Derived.Test.YtblmpaplggnajaaDoorTwo
namespace Go.Proofs.YtblmpaplggnajaaDoor
open Go.RowKit Go.Lib
set_option linter.unusedVariables false

set_option maxHeartbeats 4000000 in
set_option maxRecDepth 100000 in
theorem acts_walk0 (hDo : DoOK) (pn : Int) (a1 : Option Addr) (cap1 n : Nat) (l : List Ac) (w : World) (hb : As w a1 l) (hn : n = l.length) (hnn : n ≤ 9223372036854775807) (hT : U.Tabs w) :
    Calls Tryd.prog 3 #[.int .i64 pn, .slice a1 n cap1] w (Tells (.bool true) w) := by
  have HT : Aside (As w a1 l ∧ n = l.length ∧ U.Tabs w ∧ DoOK) := ⟨hb, hn, hT, hDo⟩
  have KS := Lib.hid (fun W => size_run pn W)
  obtain ⟨hN1, hN2⟩ := sizeN_bounds pn
  obtain ⟨N, eN⟩ : ∃ N, N = sizeN pn := ⟨_, rfl⟩
  rw [← eN] at KS hN1 hN2
  have KB : ∀ W, Calls Tryd.prog 9 #[.int .i64 (N : Int)] W (Begun N W) := fun W => begin_run N W hN1 (by omega)
  have KB := Lib.hid KB
  have KG := Lib.hid (great_at a1 cap1 n l w hb hn hnn (Great l) rfl)
  have hself : ∀ z : Int, (z != z) = false := fun z => by simp
  clear hb hn hT eN hDo
  go_enter Tryd.func3, Tryd.ntmps3
  go_wp2_with fail
  refine (KS.out _).mono ?_
  rintro _ w ⟨rfl, rfl⟩
  go_wp2_with fail
  refine (KB.out _).mono ?_
  rintro _ w1 ⟨e, b, g, rfl, h1⟩
  have H1 : Aside (Eb w w1 e b g N [] []) := h1
  clear h1 KB
  go_wp2_with fail
  refine (alive_run w1).mono ?_
  rintro _ w3 ⟨rfl, s3⟩
  have H3 : Aside (Eb w w3 e b g N [] []) := H1.out.stays s3
  clear H1 s3
  have KG := Lib.hid (KG.out w3 H3.out.stp)
  go_wp2_with fail
  refine KG.out.mono ?_
  rintro _ w4 ⟨rfl, s4⟩
  have H4 : Aside (Eb w w4 e b g N [] []) := H3.out.stays s4
  clear s4 KG H3
  cases hG : Great l with
  | true =>
    go_wp2_with fail
    refine (alive_run w4).mono ?_
    rintro _ w5 ⟨rfl, s5⟩
    have H5 : Aside (Stp [] w [] w5) := H4.out.stp.trans s5
    clear H4 s5
    go_wp2
    go_ret
    exact ⟨rfl, H5.out⟩
  | false =>
    have hn200 : n ≤ 200 ∧ total l ≤ 3000 := by
      have h1 := HT.out.2.1
      unfold Great at hG
      rw [Bool.or_eq_false_iff] at hG
      have h2 := of_decide_eq_false hG.1
      have h3 := of_decide_eq_false hG.2
      omega
    have HG := Lib.hid hn200
    obtain ⟨hn200, _⟩ := hn200
    clear hG
    have HNew : Aside (∀ W', Stp [] w4 [] W' → Both w e b g W'.heap.size N (W'.alloc (.cells #[.slice none 0 0, .slice none 0 0, .int .i64 (N : Int)] 33))) := new_two H4.out
    go_wp2_with fail
    refine (KS.out _).mono ?_
    rintro _ w4 ⟨rfl, rfl⟩
    go_wp2_with fail
    obtain ⟨m, hm⟩ : ∃ m, m = w4.heap.size := ⟨_, rfl⟩
    have H5 : Aside (Both w e b g m N (w4.alloc (.cells #[.slice none 0 0, .slice none 0 0, .int .i64 (N : Int)] 33))) := by rw [hm]; exact HNew.out w4 (Stp.refl _ _)
    rw [← hm]
    clear HNew H4 hm
    generalize w4.alloc (.cells #[.slice none 0 0, .slice none 0 0, .int .i64 (N : Int)] 33) = w5 at *
    go_loopg [38] n (fun gk vi wr => ∃ i : Nat, vi = .int .i64 (i : Int) ∧ i ≤ n ∧ n - i ≤ gk ∧ Aside (Both w e b g m N wr))
    case atStart => exact ⟨0, rfl, Nat.zero_le _, by omega, H5.out⟩
    case round =>
      obtain ⟨i, rfl, hi, hg, HS⟩ := hrel
      obtain ⟨A, B, hA⟩ : Both w e b g m N wr := HS.out
      have HA := Lib.hid hA
      clear hA HS H5
      by_cases hlt : i < n
      · have hltz : (i : Int) < (n : Int) := by omega
        obtain ⟨lb, off, rfl, c0, c1, c2, c3, hbx, _, hxc, hxm, hkw⟩ := HT.out.1.at HA.out.eb.stp (i := i) (by have := HT.out.2.1; omega)
        have hx4 : (l[i]!).x.length ≤ 4096 := by
          have h1 := total_take (l := l) (i := i) (by have := HT.out.2.1; omega)
          have h2 := total_take_le l (i + 1)
          have h3 := HG.out.2
          omega
        generalize l[i]! = y at *
        obtain ⟨k, ka, kb, p, cap, x⟩ := y
        dsimp only at c0 c1 c2 c3 hbx hxc hxm hkw hx4
        obtain ⟨nx, hnx⟩ : ∃ nx, nx = x.length := ⟨_, rfl⟩
        rw [← hnx] at c3 hxc hx4
        have HI : Aside (i < n) := hlt
        obtain ⟨cg, ee0, hee0, KD⟩ := do_two HT.out.2.2.2 (by omega) HA.out ka kb hkw
        have KD := Lib.hid KD
        obtain ⟨ee1, hee1, KP⟩ := put_two (by omega) HA.out kb
        have KP := Lib.hid KP
        obtain ⟨ee2, hee2, KI⟩ := ins_two (by omega) HA.out HT.out.2.2.1 p nx cap x hbx hnx hxc hxm hx4
        have KI := Lib.hid KI
        have KC := Lib.hid (clr_two HA.out)
        have CX : Aside (∀ w', Stp [e, b, g] (wr.alloc (.cells #[.int .i64 k, .int .i64 ka, .int .i64 kb, .slice p nx cap] 38)) [e, b, g] w' → w'.cell? ⟨wr.heap.size, 1, none⟩ = some (.int .i64 ka) ∧ w'.cell? ⟨wr.heap.size, 2, none⟩ = some (.int .i64 kb) ∧ w'.cell? ⟨wr.heap.size, 3, none⟩ = some (.slice p nx cap)) := fun w' hs => by
          have q := act_cells HA.out _ _ _ rfl w' hs
          exact ⟨q 1 _ rfl, q 2 _ rfl, q 3 _ rfl⟩
        have hmw : m < wr.heap.size := HA.out.rb.ex.elim fun _ ⟨_, _, _, h⟩ => h.lt
        have CY : Aside (∀ (w6 w7 : World) (i : Nat) (v : Value), Stp [m] w6 [m] w7 → w6.cell? ⟨wr.heap.size, i, none⟩ = some v → w7.cell? ⟨wr.heap.size, i, none⟩ = some v) := fun w6 w7 i v hs hv =>
          (hs.cell (a := ⟨wr.heap.size, i, none⟩) (block_lt_of_cell hv) (by simp; omega)).trans hv
        clear hmw
        have hb0 : (cg != cg) = false := by cases cg <;> rfl
        have hse0 := hself ee0
        have hse1 := hself ee1
        have hse2 := hself ee2
        clear hbx hnx hxc hxm hlt hkw hx4
        by_cases hk0 : k = 0
        · subst hk0
          go_wp2_with fail
          refine (KD.out _ (Stp.alloc [] wr _)).mono ?_
          rintro _ w6 ⟨rfl, S6, KR⟩
          obtain ⟨d1, d2, d3⟩ := CX.out w6 S6.out
          clear S6 c0 c1 c2 c3 CX KD KP KI KC
          go_wp2_with fail
          refine (KR.out _ (Stp.refl _ _)).mono ?_
          rintro _ w7 ⟨rfl, H7, _⟩
          clear KR d1 d2 d3
          obtain ⟨C, D, h7⟩ : Both w e b g m N w7 := H7.out
          have H7 : Aside (Two w w7 e b g m N C D) := h7
          have km := mtext_two h7
          obtain ⟨T, hTT⟩ : ∃ T, T = fl (C ++ D) := ⟨_, rfl⟩
          obtain ⟨S, hS⟩ : ∃ S, S = st T := ⟨_, rfl⟩
          obtain ⟨tl, htl⟩ : ∃ tl, tl = T.length := ⟨_, rfl⟩
          have hsz : S.size = tl := by rw [hS, st_size, htl]
          rw [← hTT] at km
          rw [← htl, ← hS] at km
          have KM := Lib.hid km
          have HTT := Lib.hid (And.intro hTT (And.intro hS htl))
          clear h7 km hTT hS htl
          go_wp2_with fail
          refine KM.out.mono ?_
          rintro _ w8 ⟨a8, c8, rfl, H8, CV⟩
          have cv1 := CV.out w8 (Stp.refl _ _)
          have cv2 := CV.out w8.drew (Stp.drew [] w8)
          have KT : ∀ W', Stp [] w8 [] W' → Calls Tryd.prog 21 #[.pointer (some ⟨e, 0, none⟩)] W' fun en w' => en = .returned (.string S) ∧ Stp [] w8 [] w' := fun W' hs => by
            have h := text_run (H8.out.eb.bu.stays hs)
            rw [show st (fl (C ++ D)) = S by rw [HTT.out.2.1, HTT.out.1]] at h
            exact h.mono fun _ _ ⟨h1, h2⟩ => ⟨h1, hs.trans h2⟩
          have KT := Lib.hid KT
          have KL : ∀ W', Stp [] w8 [] W' → Calls Tryd.prog 22 #[.pointer (some ⟨e, 0, none⟩)] W' (Gives (.int .i64 (tl : Int)) W') := fun W' hs => by
            have h := blen_run (H8.out.eb.bu.stays hs)
            rw [show (fl (C ++ D)).length = tl by rw [HTT.out.2.2, HTT.out.1]] at h
            exact h
          have KL := Lib.hid KL
          have KX : ∀ W', Stp [] w8 [] W' → Calls Tryd.prog 25 #[.pointer (some ⟨b, 0, none⟩)] W' (Gives (.int .i64 (tl : Int)) W') := fun W' hs => by
            have h := len_cl (H8.out.eb.bu.stays hs).ar
            rw [show (fl (C ++ D)).length = tl by rw [HTT.out.2.2, HTT.out.1]] at h
            exact h
          have KX := Lib.hid KX
          have KU : ∀ W', Stp [] w8 [] W' → Calls Tryd.prog 23 #[.pointer (some ⟨e, 0, none⟩)] W' (Gives (.int .i64 ((C.length + D.length : Nat) : Int)) W') := fun W' hs => by
            have h := bcount_run (H8.out.eb.bu.stays hs)
            rw [List.length_append] at h
            exact h
          have KU := Lib.hid KU
          have KA : ∀ W', Stp [] w8 [] W' → Calls Tryd.prog 24 #[.pointer (some ⟨e, 0, none⟩)] W' (Gives (.int .i64 (C.length : Int)) W') := fun W' hs => bat_run (H8.out.eb.bu.stays hs)
          have KA := Lib.hid KA
          have KN : ∀ W', Stp [] w8 [] W' → Calls Tryd.prog 26 #[.pointer (some ⟨b, 0, none⟩)] W' fun en w' => en = .returned (.bool true) ∧ Stp [] w8 [] w' := fun W' hs =>
            (clean_run (H8.out.eb.bu.stays hs).ar).mono fun _ _ ⟨h1, q, h2⟩ => ⟨h1, by rw [h2]; exact hs.trans (Stp.drewN _ _ _)⟩
          have KN := Lib.hid KN
          obtain ⟨pa, ca, pb, cb, hrc⟩ := H8.out.rb.ex
          have HC : Aside (∀ W', Stp [] w8 [] W' → W'.cell? ⟨m, 0, none⟩ = some (.slice pa C.length ca) ∧ W'.cell? ⟨m, 1, none⟩ = some (.slice pb D.length cb)) := fun W' hs => ⟨(hrc.stays hs).c0, (hrc.stays hs).c1⟩
          have hle := H8.out.rb.le
          rw [List.length_append] at hle
          have ht2 := beq_self_eq_true S.toList
          have hcur : Stp [] w8 [] w8.drew := Stp.drew _ _
          generalize C.length = al at *
          generalize D.length = bl at *
          have hsum2 : IntKind.i64.wrap ((al : Int) + (bl : Int)) = ((al + bl : Nat) : Int) := by rw [IntKind.wrap_i64]; omega
          have hs1 := hself ((al + bl : Nat) : Int)
          have hs2 := hself (al : Int)
          have hs3 := hself (tl : Int)
          clear hrc CV KM hle
          go_wp2_with fail
          go_region_held3 (fun W' => W'.cell? ⟨m, 0, none⟩ = some (.slice pa al ca) ∧ W'.cell? ⟨m, 1, none⟩ = some (.slice pb bl cb))
            (first | assumption | exact HC.out _ hcur)
            (first
              | (go_at_call 21; refine (KT.out _ hcur).mono ?_; rintro _ w9 ⟨rfl, s9⟩; replace hcur := s9)
              | (go_at_call 22; refine (KL.out _ hcur).mono ?_; rintro _ w9 ⟨rfl, rfl⟩)
              | (go_at_call 23; refine (KU.out _ hcur).mono ?_; rintro _ w9 ⟨rfl, rfl⟩)
              | (go_at_call 24; refine (KA.out _ hcur).mono ?_; rintro _ w9 ⟨rfl, rfl⟩)
              | (go_at_call 25; refine (KX.out _ hcur).mono ?_; rintro _ w9 ⟨rfl, rfl⟩)
              | (go_at_call 26; refine (KN.out _ hcur).mono ?_; rintro _ w9 ⟨rfl, s9⟩; replace hcur := s9))
          go_wp2
          go_roundg (n - (i + 1))
          case measure => have := HI.out; omega
          case rel => exact ⟨i + 1, by go_num, by have := HI.out; omega, by omega, C, D, H8.out.stays hcur⟩
        by_cases hk1 : k = 1
        · subst hk1
          go_wp2_with fail
          have hst0 : Stp [] wr [] (wr.alloc (.cells #[.int .i64 1, .int .i64 ka, .int .i64 kb, .slice p nx cap] 38)).drew := (Stp.alloc [] wr _).trans (Stp.drew [] _)
          have hcx0 := CX.out (wr.alloc (.cells #[.int .i64 1, .int .i64 ka, .int .i64 kb, .slice p nx cap] 38)).drew (Stp.drew _ _)
          clear c0 c1 c2 c3
          go_region_held3 (fun W' => W'.cell? ⟨wr.heap.size, 2, none⟩ = some (.int .i64 kb))
            (first | exact hcx0.2.1 | exact dd2 | exact dd)
            (first
              | (go_at_call 15; refine (KP.out _ hst0).mono ?_; rintro _ w6 ⟨rfl, S6, KR⟩; have dd := (CX.out w6 ((Stp.drew _ _).trans S6.out)).2.1)
              | (go_at_call 16; refine (KR.out _ (Stp.refl _ _)).mono ?_; rintro _ w7 ⟨rfl, H7, S7⟩; have dd2 := CY.out _ _ _ _ S7.out dd))
          clear CX KD KP KI KC hst0 hcx0
          obtain ⟨C, D, h7⟩ : Both w e b g m N w7 := H7.out
          have H7 : Aside (Two w w7 e b g m N C D) := h7
          have km := mtext_two h7
          obtain ⟨T, hTT⟩ : ∃ T, T = fl (C ++ D) := ⟨_, rfl⟩
          obtain ⟨S, hS⟩ : ∃ S, S = st T := ⟨_, rfl⟩
          obtain ⟨tl, htl⟩ : ∃ tl, tl = T.length := ⟨_, rfl⟩
          have hsz : S.size = tl := by rw [hS, st_size, htl]
          rw [← hTT] at km
          rw [← htl, ← hS] at km
          have KM := Lib.hid km
          have HTT := Lib.hid (And.intro hTT (And.intro hS htl))
          clear h7 km hTT hS htl
          go_wp2_with fail
          refine KM.out.mono ?_
          rintro _ w8 ⟨a8, c8, rfl, H8, CV⟩
          have cv1 := CV.out w8 (Stp.refl _ _)
          have cv2 := CV.out w8.drew (Stp.drew [] w8)
          have KT : ∀ W', Stp [] w8 [] W' → Calls Tryd.prog 21 #[.pointer (some ⟨e, 0, none⟩)] W' fun en w' => en = .returned (.string S) ∧ Stp [] w8 [] w' := fun W' hs => by
            have h := text_run (H8.out.eb.bu.stays hs)
            rw [show st (fl (C ++ D)) = S by rw [HTT.out.2.1, HTT.out.1]] at h
            exact h.mono fun _ _ ⟨h1, h2⟩ => ⟨h1, hs.trans h2⟩
          have KT := Lib.hid KT
          have KL : ∀ W', Stp [] w8 [] W' → Calls Tryd.prog 22 #[.pointer (some ⟨e, 0, none⟩)] W' (Gives (.int .i64 (tl : Int)) W') := fun W' hs => by
            have h := blen_run (H8.out.eb.bu.stays hs)
            rw [show (fl (C ++ D)).length = tl by rw [HTT.out.2.2, HTT.out.1]] at h
            exact h
          have KL := Lib.hid KL
          have KX : ∀ W', Stp [] w8 [] W' → Calls Tryd.prog 25 #[.pointer (some ⟨b, 0, none⟩)] W' (Gives (.int .i64 (tl : Int)) W') := fun W' hs => by
            have h := len_cl (H8.out.eb.bu.stays hs).ar
            rw [show (fl (C ++ D)).length = tl by rw [HTT.out.2.2, HTT.out.1]] at h
            exact h
          have KX := Lib.hid KX
          have KU : ∀ W', Stp [] w8 [] W' → Calls Tryd.prog 23 #[.pointer (some ⟨e, 0, none⟩)] W' (Gives (.int .i64 ((C.length + D.length : Nat) : Int)) W') := fun W' hs => by
            have h := bcount_run (H8.out.eb.bu.stays hs)
            rw [List.length_append] at h
            exact h
          have KU := Lib.hid KU
          have KA : ∀ W', Stp [] w8 [] W' → Calls Tryd.prog 24 #[.pointer (some ⟨e, 0, none⟩)] W' (Gives (.int .i64 (C.length : Int)) W') := fun W' hs => bat_run (H8.out.eb.bu.stays hs)
          have KA := Lib.hid KA
          have KN : ∀ W', Stp [] w8 [] W' → Calls Tryd.prog 26 #[.pointer (some ⟨b, 0, none⟩)] W' fun en w' => en = .returned (.bool true) ∧ Stp [] w8 [] w' := fun W' hs =>
            (clean_run (H8.out.eb.bu.stays hs).ar).mono fun _ _ ⟨h1, q, h2⟩ => ⟨h1, by rw [h2]; exact hs.trans (Stp.drewN _ _ _)⟩
          have KN := Lib.hid KN
          obtain ⟨pa, ca, pb, cb, hrc⟩ := H8.out.rb.ex
          have HC : Aside (∀ W', Stp [] w8 [] W' → W'.cell? ⟨m, 0, none⟩ = some (.slice pa C.length ca) ∧ W'.cell? ⟨m, 1, none⟩ = some (.slice pb D.length cb)) := fun W' hs => ⟨(hrc.stays hs).c0, (hrc.stays hs).c1⟩
          have hle := H8.out.rb.le
          rw [List.length_append] at hle
          have ht2 := beq_self_eq_true S.toList
          have hcur : Stp [] w8 [] w8.drew := Stp.drew _ _
          generalize C.length = al at *
          generalize D.length = bl at *
          have hsum2 : IntKind.i64.wrap ((al : Int) + (bl : Int)) = ((al + bl : Nat) : Int) := by rw [IntKind.wrap_i64]; omega
          have hs1 := hself ((al + bl : Nat) : Int)
          have hs2 := hself (al : Int)
          have hs3 := hself (tl : Int)
          clear hrc CV KM hle
          go_wp2_with fail
          go_region_held3 (fun W' => W'.cell? ⟨m, 0, none⟩ = some (.slice pa al ca) ∧ W'.cell? ⟨m, 1, none⟩ = some (.slice pb bl cb))
            (first | assumption | exact HC.out _ hcur)
            (first
              | (go_at_call 21; refine (KT.out _ hcur).mono ?_; rintro _ w9 ⟨rfl, s9⟩; replace hcur := s9)
              | (go_at_call 22; refine (KL.out _ hcur).mono ?_; rintro _ w9 ⟨rfl, rfl⟩)
              | (go_at_call 23; refine (KU.out _ hcur).mono ?_; rintro _ w9 ⟨rfl, rfl⟩)
              | (go_at_call 24; refine (KA.out _ hcur).mono ?_; rintro _ w9 ⟨rfl, rfl⟩)
              | (go_at_call 25; refine (KX.out _ hcur).mono ?_; rintro _ w9 ⟨rfl, rfl⟩)
              | (go_at_call 26; refine (KN.out _ hcur).mono ?_; rintro _ w9 ⟨rfl, s9⟩; replace hcur := s9))
          go_wp2
          go_roundg (n - (i + 1))
          case measure => have := HI.out; omega
          case rel => exact ⟨i + 1, by go_num, by have := HI.out; omega, by omega, C, D, H8.out.stays hcur⟩
        by_cases hk2 : k = 2
        · subst hk2
          go_wp2_with fail
          have hst0 : Stp [] wr [] (wr.alloc (.cells #[.int .i64 2, .int .i64 ka, .int .i64 kb, .slice p nx cap] 38)).drew := (Stp.alloc [] wr _).trans (Stp.drew [] _)
          have hcx0 := CX.out (wr.alloc (.cells #[.int .i64 2, .int .i64 ka, .int .i64 kb, .slice p nx cap] 38)).drew (Stp.drew _ _)
          clear c0 c1 c2 c3
          go_region_held3 (fun W' => W'.cell? ⟨wr.heap.size, 3, none⟩ = some (.slice p nx cap))
            (first | exact hcx0.2.2 | exact dd2 | exact dd)
            (first
              | (go_at_call 17; refine (KI.out _ hst0).mono ?_; rintro _ w6 ⟨rfl, S6, KR⟩; have dd := (CX.out w6 ((Stp.drew _ _).trans S6.out)).2.2)
              | (go_at_call 18; refine (KR.out _ (Stp.refl _ _)).mono ?_; rintro _ w7 ⟨rfl, H7, S7⟩; have dd2 := CY.out _ _ _ _ S7.out dd))
          clear CX KD KP KI KC hst0 hcx0
          obtain ⟨C, D, h7⟩ : Both w e b g m N w7 := H7.out
          have H7 : Aside (Two w w7 e b g m N C D) := h7
          have km := mtext_two h7
          obtain ⟨T, hTT⟩ : ∃ T, T = fl (C ++ D) := ⟨_, rfl⟩
          obtain ⟨S, hS⟩ : ∃ S, S = st T := ⟨_, rfl⟩
          obtain ⟨tl, htl⟩ : ∃ tl, tl = T.length := ⟨_, rfl⟩
          have hsz : S.size = tl := by rw [hS, st_size, htl]
          rw [← hTT] at km
          rw [← htl, ← hS] at km
          have KM := Lib.hid km
          have HTT := Lib.hid (And.intro hTT (And.intro hS htl))
          clear h7 km hTT hS htl
          go_wp2_with fail
          refine KM.out.mono ?_
          rintro _ w8 ⟨a8, c8, rfl, H8, CV⟩
          have cv1 := CV.out w8 (Stp.refl _ _)
          have cv2 := CV.out w8.drew (Stp.drew [] w8)
          have KT : ∀ W', Stp [] w8 [] W' → Calls Tryd.prog 21 #[.pointer (some ⟨e, 0, none⟩)] W' fun en w' => en = .returned (.string S) ∧ Stp [] w8 [] w' := fun W' hs => by
            have h := text_run (H8.out.eb.bu.stays hs)
            rw [show st (fl (C ++ D)) = S by rw [HTT.out.2.1, HTT.out.1]] at h
            exact h.mono fun _ _ ⟨h1, h2⟩ => ⟨h1, hs.trans h2⟩
          have KT := Lib.hid KT
          have KL : ∀ W', Stp [] w8 [] W' → Calls Tryd.prog 22 #[.pointer (some ⟨e, 0, none⟩)] W' (Gives (.int .i64 (tl : Int)) W') := fun W' hs => by
            have h := blen_run (H8.out.eb.bu.stays hs)
            rw [show (fl (C ++ D)).length = tl by rw [HTT.out.2.2, HTT.out.1]] at h
            exact h
          have KL := Lib.hid KL
          have KX : ∀ W', Stp [] w8 [] W' → Calls Tryd.prog 25 #[.pointer (some ⟨b, 0, none⟩)] W' (Gives (.int .i64 (tl : Int)) W') := fun W' hs => by
            have h := len_cl (H8.out.eb.bu.stays hs).ar
            rw [show (fl (C ++ D)).length = tl by rw [HTT.out.2.2, HTT.out.1]] at h
            exact h
          have KX := Lib.hid KX
          have KU : ∀ W', Stp [] w8 [] W' → Calls Tryd.prog 23 #[.pointer (some ⟨e, 0, none⟩)] W' (Gives (.int .i64 ((C.length + D.length : Nat) : Int)) W') := fun W' hs => by
            have h := bcount_run (H8.out.eb.bu.stays hs)
            rw [List.length_append] at h
            exact h
          have KU := Lib.hid KU
          have KA : ∀ W', Stp [] w8 [] W' → Calls Tryd.prog 24 #[.pointer (some ⟨e, 0, none⟩)] W' (Gives (.int .i64 (C.length : Int)) W') := fun W' hs => bat_run (H8.out.eb.bu.stays hs)
          have KA := Lib.hid KA
          have KN : ∀ W', Stp [] w8 [] W' → Calls Tryd.prog 26 #[.pointer (some ⟨b, 0, none⟩)] W' fun en w' => en = .returned (.bool true) ∧ Stp [] w8 [] w' := fun W' hs =>
            (clean_run (H8.out.eb.bu.stays hs).ar).mono fun _ _ ⟨h1, q, h2⟩ => ⟨h1, by rw [h2]; exact hs.trans (Stp.drewN _ _ _)⟩
          have KN := Lib.hid KN
          obtain ⟨pa, ca, pb, cb, hrc⟩ := H8.out.rb.ex
          have HC : Aside (∀ W', Stp [] w8 [] W' → W'.cell? ⟨m, 0, none⟩ = some (.slice pa C.length ca) ∧ W'.cell? ⟨m, 1, none⟩ = some (.slice pb D.length cb)) := fun W' hs => ⟨(hrc.stays hs).c0, (hrc.stays hs).c1⟩
          have hle := H8.out.rb.le
          rw [List.length_append] at hle
          have ht2 := beq_self_eq_true S.toList
          have hcur : Stp [] w8 [] w8.drew := Stp.drew _ _
          generalize C.length = al at *
          generalize D.length = bl at *
          have hsum2 : IntKind.i64.wrap ((al : Int) + (bl : Int)) = ((al + bl : Nat) : Int) := by rw [IntKind.wrap_i64]; omega
          have hs1 := hself ((al + bl : Nat) : Int)
          have hs2 := hself (al : Int)
          have hs3 := hself (tl : Int)
          clear hrc CV KM hle
          go_wp2_with fail
          go_region_held3 (fun W' => W'.cell? ⟨m, 0, none⟩ = some (.slice pa al ca) ∧ W'.cell? ⟨m, 1, none⟩ = some (.slice pb bl cb))
            (first | assumption | exact HC.out _ hcur)
            (first
              | (go_at_call 21; refine (KT.out _ hcur).mono ?_; rintro _ w9 ⟨rfl, s9⟩; replace hcur := s9)
              | (go_at_call 22; refine (KL.out _ hcur).mono ?_; rintro _ w9 ⟨rfl, rfl⟩)
              | (go_at_call 23; refine (KU.out _ hcur).mono ?_; rintro _ w9 ⟨rfl, rfl⟩)
              | (go_at_call 24; refine (KA.out _ hcur).mono ?_; rintro _ w9 ⟨rfl, rfl⟩)
              | (go_at_call 25; refine (KX.out _ hcur).mono ?_; rintro _ w9 ⟨rfl, rfl⟩)
              | (go_at_call 26; refine (KN.out _ hcur).mono ?_; rintro _ w9 ⟨rfl, s9⟩; replace hcur := s9))
          go_wp2
          go_roundg (n - (i + 1))
          case measure => have := HI.out; omega
          case rel => exact ⟨i + 1, by go_num, by have := HI.out; omega, by omega, C, D, H8.out.stays hcur⟩
        by_cases hk3 : k = 3
        · subst hk3
          go_wp2_with fail
          refine (KC.out _ (Stp.alloc [] wr _)).mono ?_
          rintro _ w6 ⟨rfl, HZ⟩
          obtain ⟨z1, z2, ⟨u1, z3⟩, ⟨u2, z4⟩, z5, ⟨u3, z6⟩, HZ1⟩ := HZ.out w6 (Stp.refl _ _)
          have HZ1 : Aside (Both w e b g m N ((w6.setCell ⟨m, 0, none⟩ (.slice none 0 0)).setCell ⟨m, 1, none⟩ (.slice none 0 0))) := HZ1
          clear HZ c0 c1 c2 c3 CX CY KD KP KI KC
          go_wp2_with fail
          generalize (w6.setCell ⟨m, 0, none⟩ (.slice none 0 0)).setCell ⟨m, 1, none⟩ (.slice none 0 0) = w7 at *
          have H7 := HZ1
          clear z1 z2 z3 z4 z5 z6 HZ1
          obtain ⟨C, D, h7⟩ : Both w e b g m N w7 := H7.out
          have H7 : Aside (Two w w7 e b g m N C D) := h7
          have km := mtext_two h7
          obtain ⟨T, hTT⟩ : ∃ T, T = fl (C ++ D) := ⟨_, rfl⟩
          obtain ⟨S, hS⟩ : ∃ S, S = st T := ⟨_, rfl⟩
          obtain ⟨tl, htl⟩ : ∃ tl, tl = T.length := ⟨_, rfl⟩
          have hsz : S.size = tl := by rw [hS, st_size, htl]
          rw [← hTT] at km
          rw [← htl, ← hS] at km
          have KM := Lib.hid km
          have HTT := Lib.hid (And.intro hTT (And.intro hS htl))
          clear h7 km hTT hS htl
          refine KM.out.mono ?_
          rintro _ w8 ⟨a8, c8, rfl, H8, CV⟩
          have cv1 := CV.out w8 (Stp.refl _ _)
          have cv2 := CV.out w8.drew (Stp.drew [] w8)
          have KT : ∀ W', Stp [] w8 [] W' → Calls Tryd.prog 21 #[.pointer (some ⟨e, 0, none⟩)] W' fun en w' => en = .returned (.string S) ∧ Stp [] w8 [] w' := fun W' hs => by
            have h := text_run (H8.out.eb.bu.stays hs)
            rw [show st (fl (C ++ D)) = S by rw [HTT.out.2.1, HTT.out.1]] at h
            exact h.mono fun _ _ ⟨h1, h2⟩ => ⟨h1, hs.trans h2⟩
          have KT := Lib.hid KT
          have KL : ∀ W', Stp [] w8 [] W' → Calls Tryd.prog 22 #[.pointer (some ⟨e, 0, none⟩)] W' (Gives (.int .i64 (tl : Int)) W') := fun W' hs => by
            have h := blen_run (H8.out.eb.bu.stays hs)
            rw [show (fl (C ++ D)).length = tl by rw [HTT.out.2.2, HTT.out.1]] at h
            exact h
          have KL := Lib.hid KL
          have KX : ∀ W', Stp [] w8 [] W' → Calls Tryd.prog 25 #[.pointer (some ⟨b, 0, none⟩)] W' (Gives (.int .i64 (tl : Int)) W') := fun W' hs => by
            have h := len_cl (H8.out.eb.bu.stays hs).ar
            rw [show (fl (C ++ D)).length = tl by rw [HTT.out.2.2, HTT.out.1]] at h
            exact h
          have KX := Lib.hid KX
          have KU : ∀ W', Stp [] w8 [] W' → Calls Tryd.prog 23 #[.pointer (some ⟨e, 0, none⟩)] W' (Gives (.int .i64 ((C.length + D.length : Nat) : Int)) W') := fun W' hs => by
            have h := bcount_run (H8.out.eb.bu.stays hs)
            rw [List.length_append] at h
            exact h
          have KU := Lib.hid KU
          have KA : ∀ W', Stp [] w8 [] W' → Calls Tryd.prog 24 #[.pointer (some ⟨e, 0, none⟩)] W' (Gives (.int .i64 (C.length : Int)) W') := fun W' hs => bat_run (H8.out.eb.bu.stays hs)
          have KA := Lib.hid KA
          have KN : ∀ W', Stp [] w8 [] W' → Calls Tryd.prog 26 #[.pointer (some ⟨b, 0, none⟩)] W' fun en w' => en = .returned (.bool true) ∧ Stp [] w8 [] w' := fun W' hs =>
            (clean_run (H8.out.eb.bu.stays hs).ar).mono fun _ _ ⟨h1, q, h2⟩ => ⟨h1, by rw [h2]; exact hs.trans (Stp.drewN _ _ _)⟩
          have KN := Lib.hid KN
          obtain ⟨pa, ca, pb, cb, hrc⟩ := H8.out.rb.ex
          have HC : Aside (∀ W', Stp [] w8 [] W' → W'.cell? ⟨m, 0, none⟩ = some (.slice pa C.length ca) ∧ W'.cell? ⟨m, 1, none⟩ = some (.slice pb D.length cb)) := fun W' hs => ⟨(hrc.stays hs).c0, (hrc.stays hs).c1⟩
          have hle := H8.out.rb.le
          rw [List.length_append] at hle
          have ht2 := beq_self_eq_true S.toList
          have hcur : Stp [] w8 [] w8.drew := Stp.drew _ _
          generalize C.length = al at *
          generalize D.length = bl at *
          have hsum2 : IntKind.i64.wrap ((al : Int) + (bl : Int)) = ((al + bl : Nat) : Int) := by rw [IntKind.wrap_i64]; omega
          have hs1 := hself ((al + bl : Nat) : Int)
          have hs2 := hself (al : Int)
          have hs3 := hself (tl : Int)
          clear hrc CV KM hle
          go_wp2_with fail
          go_region_held3 (fun W' => W'.cell? ⟨m, 0, none⟩ = some (.slice pa al ca) ∧ W'.cell? ⟨m, 1, none⟩ = some (.slice pb bl cb))
            (first | assumption | exact HC.out _ hcur)
            (first
              | (go_at_call 21; refine (KT.out _ hcur).mono ?_; rintro _ w9 ⟨rfl, s9⟩; replace hcur := s9)
              | (go_at_call 22; refine (KL.out _ hcur).mono ?_; rintro _ w9 ⟨rfl, rfl⟩)
              | (go_at_call 23; refine (KU.out _ hcur).mono ?_; rintro _ w9 ⟨rfl, rfl⟩)
              | (go_at_call 24; refine (KA.out _ hcur).mono ?_; rintro _ w9 ⟨rfl, rfl⟩)
              | (go_at_call 25; refine (KX.out _ hcur).mono ?_; rintro _ w9 ⟨rfl, rfl⟩)
              | (go_at_call 26; refine (KN.out _ hcur).mono ?_; rintro _ w9 ⟨rfl, s9⟩; replace hcur := s9))
          go_wp2
          go_roundg (n - (i + 1))
          case measure => have := HI.out; omega
          case rel => exact ⟨i + 1, by go_num, by have := HI.out; omega, by omega, C, D, H8.out.stays hcur⟩
        · have HELSE : Aside (∀ o, Two w (wr.alloc o) e b g m N A B) := fun o => HA.out.stays (Stp.alloc [] wr o)
          clear CX CY KD KP KI KC
          go_wp2_with fail
          have H7 : Aside (Both w e b g m N (wr.alloc (.cells #[.int .i64 k, .int .i64 ka, .int .i64 kb, .slice p nx cap] 38))) := ⟨_, _, HELSE.out _⟩
          clear HELSE
          obtain ⟨w7, hw7⟩ : ∃ w7, w7 = wr.alloc (.cells #[.int .i64 k, .int .i64 ka, .int .i64 kb, .slice p nx cap] 38) := ⟨_, rfl⟩
          rw [← hw7] at H7 ⊢
          clear hw7 c0 c1 c2 c3 hk0 hk1 hk2 hk3
          obtain ⟨C, D, h7⟩ : Both w e b g m N w7 := H7.out
          have H7 : Aside (Two w w7 e b g m N C D) := h7
          have km := mtext_two h7
          obtain ⟨T, hTT⟩ : ∃ T, T = fl (C ++ D) := ⟨_, rfl⟩
          obtain ⟨S, hS⟩ : ∃ S, S = st T := ⟨_, rfl⟩
          obtain ⟨tl, htl⟩ : ∃ tl, tl = T.length := ⟨_, rfl⟩
          have hsz : S.size = tl := by rw [hS, st_size, htl]
          rw [← hTT] at km
          rw [← htl, ← hS] at km
          have KM := Lib.hid km
          have HTT := Lib.hid (And.intro hTT (And.intro hS htl))
          clear h7 km hTT hS htl
          refine KM.out.mono ?_
          rintro _ w8 ⟨a8, c8, rfl, H8, CV⟩
          have cv1 := CV.out w8 (Stp.refl _ _)
          have cv2 := CV.out w8.drew (Stp.drew [] w8)
          have KT : ∀ W', Stp [] w8 [] W' → Calls Tryd.prog 21 #[.pointer (some ⟨e, 0, none⟩)] W' fun en w' => en = .returned (.string S) ∧ Stp [] w8 [] w' := fun W' hs => by
            have h := text_run (H8.out.eb.bu.stays hs)
            rw [show st (fl (C ++ D)) = S by rw [HTT.out.2.1, HTT.out.1]] at h
            exact h.mono fun _ _ ⟨h1, h2⟩ => ⟨h1, hs.trans h2⟩
          have KT := Lib.hid KT
          have KL : ∀ W', Stp [] w8 [] W' → Calls Tryd.prog 22 #[.pointer (some ⟨e, 0, none⟩)] W' (Gives (.int .i64 (tl : Int)) W') := fun W' hs => by
            have h := blen_run (H8.out.eb.bu.stays hs)
            rw [show (fl (C ++ D)).length = tl by rw [HTT.out.2.2, HTT.out.1]] at h
            exact h
          have KL := Lib.hid KL
          have KX : ∀ W', Stp [] w8 [] W' → Calls Tryd.prog 25 #[.pointer (some ⟨b, 0, none⟩)] W' (Gives (.int .i64 (tl : Int)) W') := fun W' hs => by
            have h := len_cl (H8.out.eb.bu.stays hs).ar
            rw [show (fl (C ++ D)).length = tl by rw [HTT.out.2.2, HTT.out.1]] at h
            exact h
          have KX := Lib.hid KX
          have KU : ∀ W', Stp [] w8 [] W' → Calls Tryd.prog 23 #[.pointer (some ⟨e, 0, none⟩)] W' (Gives (.int .i64 ((C.length + D.length : Nat) : Int)) W') := fun W' hs => by
            have h := bcount_run (H8.out.eb.bu.stays hs)
            rw [List.length_append] at h
            exact h
          have KU := Lib.hid KU
          have KA : ∀ W', Stp [] w8 [] W' → Calls Tryd.prog 24 #[.pointer (some ⟨e, 0, none⟩)] W' (Gives (.int .i64 (C.length : Int)) W') := fun W' hs => bat_run (H8.out.eb.bu.stays hs)
          have KA := Lib.hid KA
          have KN : ∀ W', Stp [] w8 [] W' → Calls Tryd.prog 26 #[.pointer (some ⟨b, 0, none⟩)] W' fun en w' => en = .returned (.bool true) ∧ Stp [] w8 [] w' := fun W' hs =>
            (clean_run (H8.out.eb.bu.stays hs).ar).mono fun _ _ ⟨h1, q, h2⟩ => ⟨h1, by rw [h2]; exact hs.trans (Stp.drewN _ _ _)⟩
          have KN := Lib.hid KN
          obtain ⟨pa, ca, pb, cb, hrc⟩ := H8.out.rb.ex
          have HC : Aside (∀ W', Stp [] w8 [] W' → W'.cell? ⟨m, 0, none⟩ = some (.slice pa C.length ca) ∧ W'.cell? ⟨m, 1, none⟩ = some (.slice pb D.length cb)) := fun W' hs => ⟨(hrc.stays hs).c0, (hrc.stays hs).c1⟩
          have hle := H8.out.rb.le
          rw [List.length_append] at hle
          have ht2 := beq_self_eq_true S.toList
          have hcur : Stp [] w8 [] w8.drew := Stp.drew _ _
          generalize C.length = al at *
          generalize D.length = bl at *
          have hsum2 : IntKind.i64.wrap ((al : Int) + (bl : Int)) = ((al + bl : Nat) : Int) := by rw [IntKind.wrap_i64]; omega
          have hs1 := hself ((al + bl : Nat) : Int)
          have hs2 := hself (al : Int)
          have hs3 := hself (tl : Int)
          clear hrc CV KM hle
          go_wp2_with fail
          go_region_held3 (fun W' => W'.cell? ⟨m, 0, none⟩ = some (.slice pa al ca) ∧ W'.cell? ⟨m, 1, none⟩ = some (.slice pb bl cb))
            (first | assumption | exact HC.out _ hcur)
            (first
              | (go_at_call 21; refine (KT.out _ hcur).mono ?_; rintro _ w9 ⟨rfl, s9⟩; replace hcur := s9)
              | (go_at_call 22; refine (KL.out _ hcur).mono ?_; rintro _ w9 ⟨rfl, rfl⟩)
              | (go_at_call 23; refine (KU.out _ hcur).mono ?_; rintro _ w9 ⟨rfl, rfl⟩)
              | (go_at_call 24; refine (KA.out _ hcur).mono ?_; rintro _ w9 ⟨rfl, rfl⟩)
              | (go_at_call 25; refine (KX.out _ hcur).mono ?_; rintro _ w9 ⟨rfl, rfl⟩)
              | (go_at_call 26; refine (KN.out _ hcur).mono ?_; rintro _ w9 ⟨rfl, s9⟩; replace hcur := s9))
          go_wp2
          go_roundg (n - (i + 1))
          case measure => have := HI.out; omega
          case rel => exact ⟨i + 1, by go_num, by have := HI.out; omega, by omega, C, D, H8.out.stays hcur⟩
      · have hltz : ¬ (i : Int) < (n : Int) := by omega
        go_wp2
        go_ret
        exact ⟨rfl, HA.out.eb.stp⟩
end Go.Proofs.YtblmpaplggnajaaDoor
