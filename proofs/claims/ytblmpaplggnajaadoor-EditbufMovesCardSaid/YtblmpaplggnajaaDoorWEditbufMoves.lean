/-
  The walk of EditbufMoves: keys that move alone change no character; Left and Right undo each other.
-/
import Derived.Test.YtblmpaplggnajaaDoorBufI
import Derived.Deep.RegionHeld3
namespace Go.Proofs.YtblmpaplggnajaaDoor
open Go.RowKit Go.Lib
set_option linter.unusedVariables false

/-- What a key that moves leaves. -/
structure Mv (k : Int) (r : Rs) (A B : List Nat) : Prop where
  e : r.e = 0
  ab : r.A ++ r.B = A ++ B
  c : chg r A B = decide (r.A.length ≠ A.length)
  l : k = 4 → r.A.length ≠ A.length → r.A.length + 1 = A.length
  r : k = 5 → r.A.length ≠ A.length → r.A.length = A.length + 1
theorem mv_all (N : Nat) (k c : Int) (A B : List Nat) (hk : k = 4 ∨ k = 5 ∨ k = 6 ∨ k = 7 ∨ k = 10) : Mv k (doS N k c A B) A B := by
  have hc : ∀ r : Rs, r.A ++ r.B = A ++ B → chg r A B = decide (r.A.length ≠ A.length) := fun r h => by
    have h2 := congrArg List.length h
    simp only [List.length_append] at h2
    unfold chg
    rw [Bool.eq_iff_iff]
    simp only [Bool.or_eq_true, decide_eq_true_eq]
    omega
  rcases hk with rfl | rfl | rfl | rfl | rfl
  · have h : doS N 4 c A B = ⟨0, A.dropLast, lst A ++ B⟩ := rfl
    rw [h]
    have hab : A.dropLast ++ (lst A ++ B) = A ++ B := by rw [← List.append_assoc, dl_lst]
    refine ⟨rfl, hab, hc ⟨0, A.dropLast, lst A ++ B⟩ hab, (fun _ hn => ?_), (fun h => by cases h)⟩
    simp only [List.length_dropLast] at hn ⊢
    omega
  · have h : doS N 5 c A B = ⟨0, A ++ B.take 1, B.drop 1⟩ := rfl
    rw [h]
    have hab : (A ++ B.take 1) ++ B.drop 1 = A ++ B := by rw [List.append_assoc, List.take_append_drop]
    refine ⟨rfl, hab, hc ⟨0, A ++ B.take 1, B.drop 1⟩ hab, (fun h => by cases h), (fun _ hn => ?_)⟩
    simp only [List.length_append, List.length_take] at hn ⊢
    omega
  · have h : doS N 6 c A B = ⟨0, [], A ++ B⟩ := rfl
    rw [h]
    exact ⟨rfl, rfl, hc ⟨0, [], A ++ B⟩ rfl, (fun h => by cases h), (fun h => by cases h)⟩
  · have h : doS N 7 c A B = ⟨0, A ++ B, []⟩ := rfl
    rw [h]
    exact ⟨rfl, by simp, hc ⟨0, A ++ B, []⟩ (by simp), (fun h => by cases h), (fun h => by cases h)⟩
  · have h : doS N 10 c A B = ⟨0, A, B⟩ := rfl
    rw [h]
    exact ⟨rfl, rfl, hc ⟨0, A, B⟩ rfl, (fun h => by cases h), (fun h => by cases h)⟩
set_option maxHeartbeats 1000000 in
set_option maxRecDepth 100000 in
theorem moves_walk (a0 : Option Addr) (cap0 n : Nat) (t : List UInt8) (a1 : Option Addr) (cap1 m : Nat) (l : List UInt8) (w : World) (hb : Bts w a0 t) (hn : n = t.length) (hcap : n ≤ cap0) (hm : cap0 ≤ maxLen) (hb1 : Bts w a1 l) (hm1 : m = l.length) (hT : U.Tabs w) :
    Calls Tryd.prog 8 #[.slice a0 n cap0, .slice a1 m cap1] w (Tells (.bool true) w) := by
  have HT : Aside (Bts w a0 t ∧ n = t.length ∧ Bts w a1 l ∧ m = l.length ∧ U.Tabs w ∧ n ≤ cap0 ∧ cap0 ≤ maxLen) := ⟨hb, hn, hb1, hm1, hT, hcap, hm⟩
  have KB : ∀ W, Calls Tryd.prog 9 #[.int .i64 1000] W (Begun 1000 W) := fun W => begin_run 1000 W (by omega) (by omega)
  have KB := Lib.hid KB
  clear hb hn hb1 hm1 hT hcap hm
  have HD : (decide (1000 < (n : Int)) = true ∨ decide (1000 < (n : Int)) = false) := by cases decide (1000 < (n : Int)) <;> simp
  have HE : (decide (200 < (m : Int)) = true ∨ decide (200 < (m : Int)) = false) := by cases decide (200 < (m : Int)) <;> simp
  go_enter Tryd.func8, Tryd.ntmps8
  go_wp2_with fail
  refine (KB.out _).mono ?_
  rintro _ w1 ⟨e, b, g, rfl, h1⟩
  have H1 : Aside (Eb w w1 e b g 1000 [] []) := h1
  clear h1 KB
  go_wp2_with fail
  refine (alive_run w1).mono ?_
  rintro _ w3 ⟨rfl, s3⟩
  have H3 : Aside (Eb w w3 e b g 1000 [] []) := H1.out.stays s3
  clear H1 s3
  rcases HD with hd | hd
  · go_wp2_with fail
    refine (alive_run w3).mono ?_
    rintro _ w4 ⟨rfl, s4⟩
    have H4 : Aside (Stp [] w [] w4) := H3.out.stp.trans s4
    clear H3 s4
    go_wp2
    go_ret
    exact ⟨rfl, H4.out⟩
  rcases HE with he | he
  · go_wp2_with fail
    refine (alive_run w3).mono ?_
    rintro _ w4 ⟨rfl, s4⟩
    have H4 : Aside (Stp [] w [] w4) := H3.out.stp.trans s4
    clear H3 s4
    go_wp2
    go_ret
    exact ⟨rfl, H4.out⟩
  have KI := ins_run H3.out.bu (tabs_stays HT.out.2.2.2.2.1 H3.out.stp) a0 n cap0 t (HT.out.1.stays H3.out.stp) HT.out.2.1 HT.out.2.2.2.2.2.1 HT.out.2.2.2.2.2.2 (fun hne ad e => by
    obtain ⟨bb, off, e2, hlt⟩ := HT.out.1.blk hne
    rw [e2] at e
    cases e
    have := H3.out.new
    show bb ≠ g
    omega)
  have hr : (insS 1000 t [] []).e = 8 ∨ ((insS 1000 t [] []).e = 0 ∧ Fi t ∧ (insS 1000 t [] []).A = chs t ∧ (insS 1000 t [] []).B = []) := by
    have hn2 : n ≤ 1000 := by have := of_decide_eq_false hd; omega
    by_cases hf : Fi t
    · refine .inr ?_
      rw [insS_yes hf]
      unfold layS
      rw [hf.of.2, if_pos (by simp [fl]; have := HT.out.2.1; omega)]
      exact ⟨rfl, hf, rfl, rfl⟩
    · refine .inl ?_
      rw [insS_no hf]
  have KI := Lib.hid KI
  have HR := Lib.hid hr
  clear hr
  obtain ⟨r, hrr⟩ : ∃ r, r = insS 1000 t [] [] := ⟨_, rfl⟩
  rw [← hrr] at KI HR
  clear hrr
  go_wp2_with fail
  refine KI.out.mono ?_
  rintro _ w4 ⟨rfl, h4, s4⟩
  have H4 : Aside (Eb w w4 e b g 1000 r.A r.B) := H3.out.act h4 s4
  clear h4 s4 KI H3
  obtain ⟨re, rA, rB⟩ := r
  dsimp only at H4 ⊢
  have HR : Hid (re = 8 ∨ (re = 0 ∧ Fi t ∧ rA = chs t ∧ rB = [])) := HR
  rcases HR.out with h8 | ⟨h0, hf, hA, hB⟩
  · subst h8
    clear HR
    go_wp2_with fail
    refine (alive_run w4).mono ?_
    rintro _ w5 ⟨rfl, s5⟩
    have H5 : Aside (Stp [] w [] w5) := H4.out.stp.trans s5
    clear H4 s5
    go_wp2
    go_ret
    exact ⟨rfl, H5.out⟩
  subst h0 hA hB
  have HF := Lib.hid hf
  clear HR hf
  have hm2 : m ≤ 200 := by have := of_decide_eq_false he; omega
  go_wp2_with fail
  have H5 : Aside (Eb w (w4.alloc (.cells #[.int .i64 4, .int .i64 5, .int .i64 6, .int .i64 7, .int .i64 10] 3)) e b g 1000 (chs t) [] ∧ (w4.alloc (.cells #[.int .i64 4, .int .i64 5, .int .i64 6, .int .i64 7, .int .i64 10] 3)).heap[w4.heap.size]? = some (.cells #[.int .i64 4, .int .i64 5, .int .i64 6, .int .i64 7, .int .i64 10] 3 (0, 0)) ∧ e < w4.heap.size ∧ b < w4.heap.size ∧ g < w4.heap.size) := ⟨H4.out.stays (Stp.alloc [] w4 _), heap_alloc_new w4 _, H4.out.bu.lt⟩
  generalize w4.alloc (.cells #[.int .i64 4, .int .i64 5, .int .i64 6, .int .i64 7, .int .i64 10] 3) = w5 at *
  generalize w4.heap.size = gq at *
  clear H4
  go_loopg [47] m (fun gh vi wr => ∃ i : Nat, vi = .int .i64 (i : Int) ∧ i ≤ m ∧ m - i ≤ gh ∧ Aside (∃ A B, Eb w wr e b g 1000 A B ∧ A ++ B = chs t ∧ wr.heap[gq]? = some (.cells #[.int .i64 4, .int .i64 5, .int .i64 6, .int .i64 7, .int .i64 10] 3 (0, 0))))
  case atStart => exact ⟨0, rfl, Nat.zero_le _, by omega, chs t, [], H5.out.1, by simp, H5.out.2.1⟩
  case round =>
    obtain ⟨i, rfl, hi, hg, HS⟩ := hrel
    obtain ⟨A, B, hAB⟩ : ∃ A B, Eb w wr e b g 1000 A B ∧ A ++ B = chs t ∧ wr.heap[gq]? = some (.cells #[.int .i64 4, .int .i64 5, .int .i64 6, .int .i64 7, .int .i64 10] 3 (0, 0)) := HS.out
    have HAB := Lib.hid hAB
    clear hAB HS
    by_cases hlt : i < m
    · have hltz : (i : Int) < (m : Int) := by omega
      obtain ⟨lb, off, rfl, c0⟩ := (HT.out.2.2.1.stays HAB.out.1.stp).at (i := i) (by have := HT.out.2.2.2.1; omega)
      unfold bval at c0
      have hx := (l[i]!).toNat_lt
      generalize (l[i]!).toNat = x at *
      have KA := Lib.hid (bat_run HAB.out.1.bu)
      have d0 : wr.cell? ⟨gq, 0, none⟩ = some (.int .i64 4) := by rw [cell_of_row wr gq _ _ _ _ HAB.out.2.2]; rfl
      have d1 : wr.cell? ⟨gq, 1, none⟩ = some (.int .i64 5) := by rw [cell_of_row wr gq _ _ _ _ HAB.out.2.2]; rfl
      have d2 : wr.cell? ⟨gq, 2, none⟩ = some (.int .i64 6) := by rw [cell_of_row wr gq _ _ _ _ HAB.out.2.2]; rfl
      have d3 : wr.cell? ⟨gq, 3, none⟩ = some (.int .i64 7) := by rw [cell_of_row wr gq _ _ _ _ HAB.out.2.2]; rfl
      have d4 : wr.cell? ⟨gq, 4, none⟩ = some (.int .i64 10) := by rw [cell_of_row wr gq _ _ _ _ HAB.out.2.2]; rfl
      have HI : Aside (i < m) := hlt
      clear hlt
      rcases (by omega : x % 5 = 0 ∨ x % 5 = 1 ∨ x % 5 = 2 ∨ x % 5 = 3 ∨ x % 5 = 4) with hx5 | hx5 | hx5 | hx5 | hx5
      · have hx6 : (x : Int) % 5 = 0 := by omega
        clear hx5
        have KD := do_eb HAB.out.1 4 0 (by decide)
        have hmv := mv_all 1000 4 0 A B (by omega)
        generalize doS 1000 4 0 A B = r at *
        rw [hmv.e, hmv.c] at KD
        obtain ⟨p', hp'⟩ : ∃ p', p' = r.A.length := ⟨_, rfl⟩
        obtain ⟨p, hp⟩ : ∃ p, p = A.length := ⟨_, rfl⟩
        rw [← hp', ← hp] at KD
        rw [← hp] at KA
        have HM := Lib.hid (And.intro hmv (And.intro hp' hp))
        have KD := Lib.hid KD
        clear hmv hp' hp
        have hq : p' = p ∨ p' ≠ p := by omega
        rcases hq with hq | hq
        · have hdc : decide (p' ≠ p) = false := decide_eq_false (by omega)
          rw [hdc] at KD
          have hne : ((p' : Int) != (p : Int)) = false := by simp [hq]
          clear hdc
          have HQ := Lib.hid hq
          clear hq
          go_wp2_with fail
          refine KA.out.mono ?_
          rintro _ _ ⟨rfl, rfl⟩
          go_wp2_with fail
          refine (KD.out _ (Stp.refl _ _)).mono ?_
          rintro _ w6 ⟨rfl, h6, s6⟩
          have H6 : Aside (Eb w w6 e b g 1000 r.A r.B ∧ r.A ++ r.B = chs t ∧ w6.heap[gq]? = some (.cells #[.int .i64 4, .int .i64 5, .int .i64 6, .int .i64 7, .int .i64 10] 3 (0, 0))) := ⟨h6, HM.out.1.ab.trans HAB.out.2.1, (s6.block gq (Array.getElem?_eq_some_iff.1 HAB.out.2.2).1 (by have := H5.out.2.2; simp; omega)).trans HAB.out.2.2⟩
          have KT : ∀ W', Stp [] w6 [] W' → Calls Tryd.prog 21 #[.pointer (some ⟨e, 0, none⟩)] W' fun en w' => en = .returned (.string (st t)) ∧ Stp [] w6 [] w' := fun W' hs => by
            have h := text_run (H6.out.1.bu.stays hs)
            rw [H6.out.2.1, HF.out.of.2] at h
            exact h.mono fun _ _ ⟨h1, h2⟩ => ⟨h1, hs.trans h2⟩
          have KT := Lib.hid KT
          have KA2 : ∀ W', Stp [] w6 [] W' → Calls Tryd.prog 24 #[.pointer (some ⟨e, 0, none⟩)] W' (Gives (.int .i64 (p' : Int)) W') := fun W' hs => by
            have h := bat_run (H6.out.1.bu.stays hs)
            rw [← HM.out.2.1] at h
            exact h
          have KA2 := Lib.hid KA2
          have CV : Aside (∀ W', Stp [] w6 [] W' → (convert 36 9 (.slice a0 n cap0)).run Tryd.prog W' = .ok (.string (st t)) W') := fun W' hs => conv_bts cap0 n (HT.out.1.stays (H6.out.1.stp.trans hs)) HT.out.2.1
          have ht := beq_self_eq_true ((st t).toList)
          have hcur : Stp [] w6 [] w6.drew := Stp.drew _ _
          clear h6 s6 KD KA
          go_wp2_with fail
          go_region_held3 (fun W' => (convert 36 9 (.slice a0 n cap0)).run Tryd.prog W' = .ok (.string (st t)) W')
            (first | exact CV.out _ hcur | assumption)
            (first
              | (go_at_call 21; refine (KT.out _ hcur).mono ?_; rintro _ w7 ⟨rfl, s7⟩; replace hcur := s7)
              | (go_at_call 24; refine (KA2.out _ hcur).mono ?_; rintro _ w8 ⟨rfl, rfl⟩))
          have H8 : Aside (Eb w w8 e b g 1000 r.A r.B ∧ r.A ++ r.B = chs t ∧ w8.heap[gq]? = some (.cells #[.int .i64 4, .int .i64 5, .int .i64 6, .int .i64 7, .int .i64 10] 3 (0, 0))) := ⟨H6.out.1.stays hcur, H6.out.2.1, (hcur.block gq (Array.getElem?_eq_some_iff.1 H6.out.2.2).1 (by simp)).trans H6.out.2.2⟩
          have KA3 := KA2.out w8 hcur
          have KA3 := Lib.hid KA3
          clear hcur KA2 KT CV H6 ht
          go_wp2_with fail
          go_roundg (m - (i + 1))
          case measure => have := HI.out; omega
          case rel => exact ⟨i + 1, by go_num, by have := HI.out; omega, by omega, r.A, r.B, H8.out⟩
        · have hdc : decide (p' ≠ p) = true := decide_eq_true hq
          rw [hdc] at KD
          have hne : ((p' : Int) != (p : Int)) = true := by rw [bne_iff_ne]; omega
          have hsb : IntKind.i64.wrap ((p : Int) - 1) = (p' : Int) := by
            have h1 := HM.out.1.l rfl (by rw [← HM.out.2.1, ← HM.out.2.2]; exact hq)
            have h2 := HAB.out.1.bu.lens
            have h3 := fl_len_ge A
            have h4 := HM.out.2
            rw [IntKind.wrap_i64]
            omega
          have hself : ((p' : Int) != (p' : Int)) = false := by simp
          clear hdc
          have HQ := Lib.hid hq
          clear hq
          go_wp2_with fail
          refine KA.out.mono ?_
          rintro _ _ ⟨rfl, rfl⟩
          go_wp2_with fail
          refine (KD.out _ (Stp.refl _ _)).mono ?_
          rintro _ w6 ⟨rfl, h6, s6⟩
          have H6 : Aside (Eb w w6 e b g 1000 r.A r.B ∧ r.A ++ r.B = chs t ∧ w6.heap[gq]? = some (.cells #[.int .i64 4, .int .i64 5, .int .i64 6, .int .i64 7, .int .i64 10] 3 (0, 0))) := ⟨h6, HM.out.1.ab.trans HAB.out.2.1, (s6.block gq (Array.getElem?_eq_some_iff.1 HAB.out.2.2).1 (by have := H5.out.2.2; simp; omega)).trans HAB.out.2.2⟩
          have KT : ∀ W', Stp [] w6 [] W' → Calls Tryd.prog 21 #[.pointer (some ⟨e, 0, none⟩)] W' fun en w' => en = .returned (.string (st t)) ∧ Stp [] w6 [] w' := fun W' hs => by
            have h := text_run (H6.out.1.bu.stays hs)
            rw [H6.out.2.1, HF.out.of.2] at h
            exact h.mono fun _ _ ⟨h1, h2⟩ => ⟨h1, hs.trans h2⟩
          have KT := Lib.hid KT
          have KA2 : ∀ W', Stp [] w6 [] W' → Calls Tryd.prog 24 #[.pointer (some ⟨e, 0, none⟩)] W' (Gives (.int .i64 (p' : Int)) W') := fun W' hs => by
            have h := bat_run (H6.out.1.bu.stays hs)
            rw [← HM.out.2.1] at h
            exact h
          have KA2 := Lib.hid KA2
          have CV : Aside (∀ W', Stp [] w6 [] W' → (convert 36 9 (.slice a0 n cap0)).run Tryd.prog W' = .ok (.string (st t)) W') := fun W' hs => conv_bts cap0 n (HT.out.1.stays (H6.out.1.stp.trans hs)) HT.out.2.1
          have ht := beq_self_eq_true ((st t).toList)
          have hcur : Stp [] w6 [] w6.drew := Stp.drew _ _
          clear h6 s6 KD KA
          go_wp2_with fail
          go_region_held3 (fun W' => (convert 36 9 (.slice a0 n cap0)).run Tryd.prog W' = .ok (.string (st t)) W')
            (first | exact CV.out _ hcur | assumption)
            (first
              | (go_at_call 21; refine (KT.out _ hcur).mono ?_; rintro _ w7 ⟨rfl, s7⟩; replace hcur := s7)
              | (go_at_call 24; refine (KA2.out _ hcur).mono ?_; rintro _ w8 ⟨rfl, rfl⟩))
          have H8 : Aside (Eb w w8 e b g 1000 r.A r.B ∧ r.A ++ r.B = chs t ∧ w8.heap[gq]? = some (.cells #[.int .i64 4, .int .i64 5, .int .i64 6, .int .i64 7, .int .i64 10] 3 (0, 0))) := ⟨H6.out.1.stays hcur, H6.out.2.1, (hcur.block gq (Array.getElem?_eq_some_iff.1 H6.out.2.2).1 (by simp)).trans H6.out.2.2⟩
          have KA3 := KA2.out w8 hcur
          have KA3 := Lib.hid KA3
          clear hcur KA2 KT CV H6 ht
          go_wp2_with fail
          refine KA3.out.mono ?_
          rintro _ _ ⟨rfl, rfl⟩
          go_wp2_with fail
          go_roundg (m - (i + 1))
          case measure => have := HI.out; omega
          case rel => exact ⟨i + 1, by go_num, by have := HI.out; omega, by omega, r.A, r.B, H8.out⟩
      · have hx6 : (x : Int) % 5 = 1 := by omega
        clear hx5
        have KD := do_eb HAB.out.1 5 0 (by decide)
        have hmv := mv_all 1000 5 0 A B (by omega)
        generalize doS 1000 5 0 A B = r at *
        rw [hmv.e, hmv.c] at KD
        obtain ⟨p', hp'⟩ : ∃ p', p' = r.A.length := ⟨_, rfl⟩
        obtain ⟨p, hp⟩ : ∃ p, p = A.length := ⟨_, rfl⟩
        rw [← hp', ← hp] at KD
        rw [← hp] at KA
        have HM := Lib.hid (And.intro hmv (And.intro hp' hp))
        have KD := Lib.hid KD
        clear hmv hp' hp
        have hq : p' = p ∨ p' ≠ p := by omega
        rcases hq with hq | hq
        · have hdc : decide (p' ≠ p) = false := decide_eq_false (by omega)
          rw [hdc] at KD
          have hne : ((p' : Int) != (p : Int)) = false := by simp [hq]
          clear hdc
          have HQ := Lib.hid hq
          clear hq
          go_wp2_with fail
          refine KA.out.mono ?_
          rintro _ _ ⟨rfl, rfl⟩
          go_wp2_with fail
          refine (KD.out _ (Stp.refl _ _)).mono ?_
          rintro _ w6 ⟨rfl, h6, s6⟩
          have H6 : Aside (Eb w w6 e b g 1000 r.A r.B ∧ r.A ++ r.B = chs t ∧ w6.heap[gq]? = some (.cells #[.int .i64 4, .int .i64 5, .int .i64 6, .int .i64 7, .int .i64 10] 3 (0, 0))) := ⟨h6, HM.out.1.ab.trans HAB.out.2.1, (s6.block gq (Array.getElem?_eq_some_iff.1 HAB.out.2.2).1 (by have := H5.out.2.2; simp; omega)).trans HAB.out.2.2⟩
          have KT : ∀ W', Stp [] w6 [] W' → Calls Tryd.prog 21 #[.pointer (some ⟨e, 0, none⟩)] W' fun en w' => en = .returned (.string (st t)) ∧ Stp [] w6 [] w' := fun W' hs => by
            have h := text_run (H6.out.1.bu.stays hs)
            rw [H6.out.2.1, HF.out.of.2] at h
            exact h.mono fun _ _ ⟨h1, h2⟩ => ⟨h1, hs.trans h2⟩
          have KT := Lib.hid KT
          have KA2 : ∀ W', Stp [] w6 [] W' → Calls Tryd.prog 24 #[.pointer (some ⟨e, 0, none⟩)] W' (Gives (.int .i64 (p' : Int)) W') := fun W' hs => by
            have h := bat_run (H6.out.1.bu.stays hs)
            rw [← HM.out.2.1] at h
            exact h
          have KA2 := Lib.hid KA2
          have CV : Aside (∀ W', Stp [] w6 [] W' → (convert 36 9 (.slice a0 n cap0)).run Tryd.prog W' = .ok (.string (st t)) W') := fun W' hs => conv_bts cap0 n (HT.out.1.stays (H6.out.1.stp.trans hs)) HT.out.2.1
          have ht := beq_self_eq_true ((st t).toList)
          have hcur : Stp [] w6 [] w6.drew := Stp.drew _ _
          clear h6 s6 KD KA
          go_wp2_with fail
          go_region_held3 (fun W' => (convert 36 9 (.slice a0 n cap0)).run Tryd.prog W' = .ok (.string (st t)) W')
            (first | exact CV.out _ hcur | assumption)
            (first
              | (go_at_call 21; refine (KT.out _ hcur).mono ?_; rintro _ w7 ⟨rfl, s7⟩; replace hcur := s7)
              | (go_at_call 24; refine (KA2.out _ hcur).mono ?_; rintro _ w8 ⟨rfl, rfl⟩))
          have H8 : Aside (Eb w w8 e b g 1000 r.A r.B ∧ r.A ++ r.B = chs t ∧ w8.heap[gq]? = some (.cells #[.int .i64 4, .int .i64 5, .int .i64 6, .int .i64 7, .int .i64 10] 3 (0, 0))) := ⟨H6.out.1.stays hcur, H6.out.2.1, (hcur.block gq (Array.getElem?_eq_some_iff.1 H6.out.2.2).1 (by simp)).trans H6.out.2.2⟩
          have KA3 := KA2.out w8 hcur
          have KA3 := Lib.hid KA3
          clear hcur KA2 KT CV H6 ht
          go_wp2_with fail
          go_roundg (m - (i + 1))
          case measure => have := HI.out; omega
          case rel => exact ⟨i + 1, by go_num, by have := HI.out; omega, by omega, r.A, r.B, H8.out⟩
        · have hdc : decide (p' ≠ p) = true := decide_eq_true hq
          rw [hdc] at KD
          have hne : ((p' : Int) != (p : Int)) = true := by rw [bne_iff_ne]; omega
          have hsb : IntKind.i64.wrap ((p : Int) + 1) = (p' : Int) := by
            have h1 := HM.out.1.r rfl (by rw [← HM.out.2.1, ← HM.out.2.2]; exact hq)
            have h2 := HAB.out.1.bu.lens
            have h3 := fl_len_ge A
            have h4 := HM.out.2
            rw [IntKind.wrap_i64]
            omega
          have hself : ((p' : Int) != (p' : Int)) = false := by simp
          clear hdc
          have HQ := Lib.hid hq
          clear hq
          go_wp2_with fail
          refine KA.out.mono ?_
          rintro _ _ ⟨rfl, rfl⟩
          go_wp2_with fail
          refine (KD.out _ (Stp.refl _ _)).mono ?_
          rintro _ w6 ⟨rfl, h6, s6⟩
          have H6 : Aside (Eb w w6 e b g 1000 r.A r.B ∧ r.A ++ r.B = chs t ∧ w6.heap[gq]? = some (.cells #[.int .i64 4, .int .i64 5, .int .i64 6, .int .i64 7, .int .i64 10] 3 (0, 0))) := ⟨h6, HM.out.1.ab.trans HAB.out.2.1, (s6.block gq (Array.getElem?_eq_some_iff.1 HAB.out.2.2).1 (by have := H5.out.2.2; simp; omega)).trans HAB.out.2.2⟩
          have KT : ∀ W', Stp [] w6 [] W' → Calls Tryd.prog 21 #[.pointer (some ⟨e, 0, none⟩)] W' fun en w' => en = .returned (.string (st t)) ∧ Stp [] w6 [] w' := fun W' hs => by
            have h := text_run (H6.out.1.bu.stays hs)
            rw [H6.out.2.1, HF.out.of.2] at h
            exact h.mono fun _ _ ⟨h1, h2⟩ => ⟨h1, hs.trans h2⟩
          have KT := Lib.hid KT
          have KA2 : ∀ W', Stp [] w6 [] W' → Calls Tryd.prog 24 #[.pointer (some ⟨e, 0, none⟩)] W' (Gives (.int .i64 (p' : Int)) W') := fun W' hs => by
            have h := bat_run (H6.out.1.bu.stays hs)
            rw [← HM.out.2.1] at h
            exact h
          have KA2 := Lib.hid KA2
          have CV : Aside (∀ W', Stp [] w6 [] W' → (convert 36 9 (.slice a0 n cap0)).run Tryd.prog W' = .ok (.string (st t)) W') := fun W' hs => conv_bts cap0 n (HT.out.1.stays (H6.out.1.stp.trans hs)) HT.out.2.1
          have ht := beq_self_eq_true ((st t).toList)
          have hcur : Stp [] w6 [] w6.drew := Stp.drew _ _
          clear h6 s6 KD KA
          go_wp2_with fail
          go_region_held3 (fun W' => (convert 36 9 (.slice a0 n cap0)).run Tryd.prog W' = .ok (.string (st t)) W')
            (first | exact CV.out _ hcur | assumption)
            (first
              | (go_at_call 21; refine (KT.out _ hcur).mono ?_; rintro _ w7 ⟨rfl, s7⟩; replace hcur := s7)
              | (go_at_call 24; refine (KA2.out _ hcur).mono ?_; rintro _ w8 ⟨rfl, rfl⟩))
          have H8 : Aside (Eb w w8 e b g 1000 r.A r.B ∧ r.A ++ r.B = chs t ∧ w8.heap[gq]? = some (.cells #[.int .i64 4, .int .i64 5, .int .i64 6, .int .i64 7, .int .i64 10] 3 (0, 0))) := ⟨H6.out.1.stays hcur, H6.out.2.1, (hcur.block gq (Array.getElem?_eq_some_iff.1 H6.out.2.2).1 (by simp)).trans H6.out.2.2⟩
          have KA3 := KA2.out w8 hcur
          have KA3 := Lib.hid KA3
          clear hcur KA2 KT CV H6 ht
          go_wp2_with fail
          refine KA3.out.mono ?_
          rintro _ _ ⟨rfl, rfl⟩
          go_wp2_with fail
          go_roundg (m - (i + 1))
          case measure => have := HI.out; omega
          case rel => exact ⟨i + 1, by go_num, by have := HI.out; omega, by omega, r.A, r.B, H8.out⟩
      · have hx6 : (x : Int) % 5 = 2 := by omega
        clear hx5
        have KD := do_eb HAB.out.1 6 0 (by decide)
        have hmv := mv_all 1000 6 0 A B (by omega)
        generalize doS 1000 6 0 A B = r at *
        rw [hmv.e, hmv.c] at KD
        obtain ⟨p', hp'⟩ : ∃ p', p' = r.A.length := ⟨_, rfl⟩
        obtain ⟨p, hp⟩ : ∃ p, p = A.length := ⟨_, rfl⟩
        rw [← hp', ← hp] at KD
        rw [← hp] at KA
        have HM := Lib.hid (And.intro hmv (And.intro hp' hp))
        have KD := Lib.hid KD
        clear hmv hp' hp
        have hq : p' = p ∨ p' ≠ p := by omega
        rcases hq with hq | hq
        · have hdc : decide (p' ≠ p) = false := decide_eq_false (by omega)
          rw [hdc] at KD
          have hne : ((p' : Int) != (p : Int)) = false := by simp [hq]
          clear hdc
          have HQ := Lib.hid hq
          clear hq
          go_wp2_with fail
          refine KA.out.mono ?_
          rintro _ _ ⟨rfl, rfl⟩
          go_wp2_with fail
          refine (KD.out _ (Stp.refl _ _)).mono ?_
          rintro _ w6 ⟨rfl, h6, s6⟩
          have H6 : Aside (Eb w w6 e b g 1000 r.A r.B ∧ r.A ++ r.B = chs t ∧ w6.heap[gq]? = some (.cells #[.int .i64 4, .int .i64 5, .int .i64 6, .int .i64 7, .int .i64 10] 3 (0, 0))) := ⟨h6, HM.out.1.ab.trans HAB.out.2.1, (s6.block gq (Array.getElem?_eq_some_iff.1 HAB.out.2.2).1 (by have := H5.out.2.2; simp; omega)).trans HAB.out.2.2⟩
          have KT : ∀ W', Stp [] w6 [] W' → Calls Tryd.prog 21 #[.pointer (some ⟨e, 0, none⟩)] W' fun en w' => en = .returned (.string (st t)) ∧ Stp [] w6 [] w' := fun W' hs => by
            have h := text_run (H6.out.1.bu.stays hs)
            rw [H6.out.2.1, HF.out.of.2] at h
            exact h.mono fun _ _ ⟨h1, h2⟩ => ⟨h1, hs.trans h2⟩
          have KT := Lib.hid KT
          have KA2 : ∀ W', Stp [] w6 [] W' → Calls Tryd.prog 24 #[.pointer (some ⟨e, 0, none⟩)] W' (Gives (.int .i64 (p' : Int)) W') := fun W' hs => by
            have h := bat_run (H6.out.1.bu.stays hs)
            rw [← HM.out.2.1] at h
            exact h
          have KA2 := Lib.hid KA2
          have CV : Aside (∀ W', Stp [] w6 [] W' → (convert 36 9 (.slice a0 n cap0)).run Tryd.prog W' = .ok (.string (st t)) W') := fun W' hs => conv_bts cap0 n (HT.out.1.stays (H6.out.1.stp.trans hs)) HT.out.2.1
          have ht := beq_self_eq_true ((st t).toList)
          have hcur : Stp [] w6 [] w6.drew := Stp.drew _ _
          clear h6 s6 KD KA
          go_wp2_with fail
          go_region_held3 (fun W' => (convert 36 9 (.slice a0 n cap0)).run Tryd.prog W' = .ok (.string (st t)) W')
            (first | exact CV.out _ hcur | assumption)
            (first
              | (go_at_call 21; refine (KT.out _ hcur).mono ?_; rintro _ w7 ⟨rfl, s7⟩; replace hcur := s7)
              | (go_at_call 24; refine (KA2.out _ hcur).mono ?_; rintro _ w8 ⟨rfl, rfl⟩))
          have H8 : Aside (Eb w w8 e b g 1000 r.A r.B ∧ r.A ++ r.B = chs t ∧ w8.heap[gq]? = some (.cells #[.int .i64 4, .int .i64 5, .int .i64 6, .int .i64 7, .int .i64 10] 3 (0, 0))) := ⟨H6.out.1.stays hcur, H6.out.2.1, (hcur.block gq (Array.getElem?_eq_some_iff.1 H6.out.2.2).1 (by simp)).trans H6.out.2.2⟩
          have KA3 := KA2.out w8 hcur
          have KA3 := Lib.hid KA3
          clear hcur KA2 KT CV H6 ht
          go_wp2_with fail
          go_roundg (m - (i + 1))
          case measure => have := HI.out; omega
          case rel => exact ⟨i + 1, by go_num, by have := HI.out; omega, by omega, r.A, r.B, H8.out⟩
        · have hdc : decide (p' ≠ p) = true := decide_eq_true hq
          rw [hdc] at KD
          have hne : ((p' : Int) != (p : Int)) = true := by rw [bne_iff_ne]; omega
          clear hdc
          have HQ := Lib.hid hq
          clear hq
          go_wp2_with fail
          refine KA.out.mono ?_
          rintro _ _ ⟨rfl, rfl⟩
          go_wp2_with fail
          refine (KD.out _ (Stp.refl _ _)).mono ?_
          rintro _ w6 ⟨rfl, h6, s6⟩
          have H6 : Aside (Eb w w6 e b g 1000 r.A r.B ∧ r.A ++ r.B = chs t ∧ w6.heap[gq]? = some (.cells #[.int .i64 4, .int .i64 5, .int .i64 6, .int .i64 7, .int .i64 10] 3 (0, 0))) := ⟨h6, HM.out.1.ab.trans HAB.out.2.1, (s6.block gq (Array.getElem?_eq_some_iff.1 HAB.out.2.2).1 (by have := H5.out.2.2; simp; omega)).trans HAB.out.2.2⟩
          have KT : ∀ W', Stp [] w6 [] W' → Calls Tryd.prog 21 #[.pointer (some ⟨e, 0, none⟩)] W' fun en w' => en = .returned (.string (st t)) ∧ Stp [] w6 [] w' := fun W' hs => by
            have h := text_run (H6.out.1.bu.stays hs)
            rw [H6.out.2.1, HF.out.of.2] at h
            exact h.mono fun _ _ ⟨h1, h2⟩ => ⟨h1, hs.trans h2⟩
          have KT := Lib.hid KT
          have KA2 : ∀ W', Stp [] w6 [] W' → Calls Tryd.prog 24 #[.pointer (some ⟨e, 0, none⟩)] W' (Gives (.int .i64 (p' : Int)) W') := fun W' hs => by
            have h := bat_run (H6.out.1.bu.stays hs)
            rw [← HM.out.2.1] at h
            exact h
          have KA2 := Lib.hid KA2
          have CV : Aside (∀ W', Stp [] w6 [] W' → (convert 36 9 (.slice a0 n cap0)).run Tryd.prog W' = .ok (.string (st t)) W') := fun W' hs => conv_bts cap0 n (HT.out.1.stays (H6.out.1.stp.trans hs)) HT.out.2.1
          have ht := beq_self_eq_true ((st t).toList)
          have hcur : Stp [] w6 [] w6.drew := Stp.drew _ _
          clear h6 s6 KD KA
          go_wp2_with fail
          go_region_held3 (fun W' => (convert 36 9 (.slice a0 n cap0)).run Tryd.prog W' = .ok (.string (st t)) W')
            (first | exact CV.out _ hcur | assumption)
            (first
              | (go_at_call 21; refine (KT.out _ hcur).mono ?_; rintro _ w7 ⟨rfl, s7⟩; replace hcur := s7)
              | (go_at_call 24; refine (KA2.out _ hcur).mono ?_; rintro _ w8 ⟨rfl, rfl⟩))
          have H8 : Aside (Eb w w8 e b g 1000 r.A r.B ∧ r.A ++ r.B = chs t ∧ w8.heap[gq]? = some (.cells #[.int .i64 4, .int .i64 5, .int .i64 6, .int .i64 7, .int .i64 10] 3 (0, 0))) := ⟨H6.out.1.stays hcur, H6.out.2.1, (hcur.block gq (Array.getElem?_eq_some_iff.1 H6.out.2.2).1 (by simp)).trans H6.out.2.2⟩
          have KA3 := KA2.out w8 hcur
          have KA3 := Lib.hid KA3
          clear hcur KA2 KT CV H6 ht
          go_wp2_with fail
          go_roundg (m - (i + 1))
          case measure => have := HI.out; omega
          case rel => exact ⟨i + 1, by go_num, by have := HI.out; omega, by omega, r.A, r.B, H8.out⟩
      · have hx6 : (x : Int) % 5 = 3 := by omega
        clear hx5
        have KD := do_eb HAB.out.1 7 0 (by decide)
        have hmv := mv_all 1000 7 0 A B (by omega)
        generalize doS 1000 7 0 A B = r at *
        rw [hmv.e, hmv.c] at KD
        obtain ⟨p', hp'⟩ : ∃ p', p' = r.A.length := ⟨_, rfl⟩
        obtain ⟨p, hp⟩ : ∃ p, p = A.length := ⟨_, rfl⟩
        rw [← hp', ← hp] at KD
        rw [← hp] at KA
        have HM := Lib.hid (And.intro hmv (And.intro hp' hp))
        have KD := Lib.hid KD
        clear hmv hp' hp
        have hq : p' = p ∨ p' ≠ p := by omega
        rcases hq with hq | hq
        · have hdc : decide (p' ≠ p) = false := decide_eq_false (by omega)
          rw [hdc] at KD
          have hne : ((p' : Int) != (p : Int)) = false := by simp [hq]
          clear hdc
          have HQ := Lib.hid hq
          clear hq
          go_wp2_with fail
          refine KA.out.mono ?_
          rintro _ _ ⟨rfl, rfl⟩
          go_wp2_with fail
          refine (KD.out _ (Stp.refl _ _)).mono ?_
          rintro _ w6 ⟨rfl, h6, s6⟩
          have H6 : Aside (Eb w w6 e b g 1000 r.A r.B ∧ r.A ++ r.B = chs t ∧ w6.heap[gq]? = some (.cells #[.int .i64 4, .int .i64 5, .int .i64 6, .int .i64 7, .int .i64 10] 3 (0, 0))) := ⟨h6, HM.out.1.ab.trans HAB.out.2.1, (s6.block gq (Array.getElem?_eq_some_iff.1 HAB.out.2.2).1 (by have := H5.out.2.2; simp; omega)).trans HAB.out.2.2⟩
          have KT : ∀ W', Stp [] w6 [] W' → Calls Tryd.prog 21 #[.pointer (some ⟨e, 0, none⟩)] W' fun en w' => en = .returned (.string (st t)) ∧ Stp [] w6 [] w' := fun W' hs => by
            have h := text_run (H6.out.1.bu.stays hs)
            rw [H6.out.2.1, HF.out.of.2] at h
            exact h.mono fun _ _ ⟨h1, h2⟩ => ⟨h1, hs.trans h2⟩
          have KT := Lib.hid KT
          have KA2 : ∀ W', Stp [] w6 [] W' → Calls Tryd.prog 24 #[.pointer (some ⟨e, 0, none⟩)] W' (Gives (.int .i64 (p' : Int)) W') := fun W' hs => by
            have h := bat_run (H6.out.1.bu.stays hs)
            rw [← HM.out.2.1] at h
            exact h
          have KA2 := Lib.hid KA2
          have CV : Aside (∀ W', Stp [] w6 [] W' → (convert 36 9 (.slice a0 n cap0)).run Tryd.prog W' = .ok (.string (st t)) W') := fun W' hs => conv_bts cap0 n (HT.out.1.stays (H6.out.1.stp.trans hs)) HT.out.2.1
          have ht := beq_self_eq_true ((st t).toList)
          have hcur : Stp [] w6 [] w6.drew := Stp.drew _ _
          clear h6 s6 KD KA
          go_wp2_with fail
          go_region_held3 (fun W' => (convert 36 9 (.slice a0 n cap0)).run Tryd.prog W' = .ok (.string (st t)) W')
            (first | exact CV.out _ hcur | assumption)
            (first
              | (go_at_call 21; refine (KT.out _ hcur).mono ?_; rintro _ w7 ⟨rfl, s7⟩; replace hcur := s7)
              | (go_at_call 24; refine (KA2.out _ hcur).mono ?_; rintro _ w8 ⟨rfl, rfl⟩))
          have H8 : Aside (Eb w w8 e b g 1000 r.A r.B ∧ r.A ++ r.B = chs t ∧ w8.heap[gq]? = some (.cells #[.int .i64 4, .int .i64 5, .int .i64 6, .int .i64 7, .int .i64 10] 3 (0, 0))) := ⟨H6.out.1.stays hcur, H6.out.2.1, (hcur.block gq (Array.getElem?_eq_some_iff.1 H6.out.2.2).1 (by simp)).trans H6.out.2.2⟩
          have KA3 := KA2.out w8 hcur
          have KA3 := Lib.hid KA3
          clear hcur KA2 KT CV H6 ht
          go_wp2_with fail
          go_roundg (m - (i + 1))
          case measure => have := HI.out; omega
          case rel => exact ⟨i + 1, by go_num, by have := HI.out; omega, by omega, r.A, r.B, H8.out⟩
        · have hdc : decide (p' ≠ p) = true := decide_eq_true hq
          rw [hdc] at KD
          have hne : ((p' : Int) != (p : Int)) = true := by rw [bne_iff_ne]; omega
          clear hdc
          have HQ := Lib.hid hq
          clear hq
          go_wp2_with fail
          refine KA.out.mono ?_
          rintro _ _ ⟨rfl, rfl⟩
          go_wp2_with fail
          refine (KD.out _ (Stp.refl _ _)).mono ?_
          rintro _ w6 ⟨rfl, h6, s6⟩
          have H6 : Aside (Eb w w6 e b g 1000 r.A r.B ∧ r.A ++ r.B = chs t ∧ w6.heap[gq]? = some (.cells #[.int .i64 4, .int .i64 5, .int .i64 6, .int .i64 7, .int .i64 10] 3 (0, 0))) := ⟨h6, HM.out.1.ab.trans HAB.out.2.1, (s6.block gq (Array.getElem?_eq_some_iff.1 HAB.out.2.2).1 (by have := H5.out.2.2; simp; omega)).trans HAB.out.2.2⟩
          have KT : ∀ W', Stp [] w6 [] W' → Calls Tryd.prog 21 #[.pointer (some ⟨e, 0, none⟩)] W' fun en w' => en = .returned (.string (st t)) ∧ Stp [] w6 [] w' := fun W' hs => by
            have h := text_run (H6.out.1.bu.stays hs)
            rw [H6.out.2.1, HF.out.of.2] at h
            exact h.mono fun _ _ ⟨h1, h2⟩ => ⟨h1, hs.trans h2⟩
          have KT := Lib.hid KT
          have KA2 : ∀ W', Stp [] w6 [] W' → Calls Tryd.prog 24 #[.pointer (some ⟨e, 0, none⟩)] W' (Gives (.int .i64 (p' : Int)) W') := fun W' hs => by
            have h := bat_run (H6.out.1.bu.stays hs)
            rw [← HM.out.2.1] at h
            exact h
          have KA2 := Lib.hid KA2
          have CV : Aside (∀ W', Stp [] w6 [] W' → (convert 36 9 (.slice a0 n cap0)).run Tryd.prog W' = .ok (.string (st t)) W') := fun W' hs => conv_bts cap0 n (HT.out.1.stays (H6.out.1.stp.trans hs)) HT.out.2.1
          have ht := beq_self_eq_true ((st t).toList)
          have hcur : Stp [] w6 [] w6.drew := Stp.drew _ _
          clear h6 s6 KD KA
          go_wp2_with fail
          go_region_held3 (fun W' => (convert 36 9 (.slice a0 n cap0)).run Tryd.prog W' = .ok (.string (st t)) W')
            (first | exact CV.out _ hcur | assumption)
            (first
              | (go_at_call 21; refine (KT.out _ hcur).mono ?_; rintro _ w7 ⟨rfl, s7⟩; replace hcur := s7)
              | (go_at_call 24; refine (KA2.out _ hcur).mono ?_; rintro _ w8 ⟨rfl, rfl⟩))
          have H8 : Aside (Eb w w8 e b g 1000 r.A r.B ∧ r.A ++ r.B = chs t ∧ w8.heap[gq]? = some (.cells #[.int .i64 4, .int .i64 5, .int .i64 6, .int .i64 7, .int .i64 10] 3 (0, 0))) := ⟨H6.out.1.stays hcur, H6.out.2.1, (hcur.block gq (Array.getElem?_eq_some_iff.1 H6.out.2.2).1 (by simp)).trans H6.out.2.2⟩
          have KA3 := KA2.out w8 hcur
          have KA3 := Lib.hid KA3
          clear hcur KA2 KT CV H6 ht
          go_wp2_with fail
          go_roundg (m - (i + 1))
          case measure => have := HI.out; omega
          case rel => exact ⟨i + 1, by go_num, by have := HI.out; omega, by omega, r.A, r.B, H8.out⟩
      · have hx6 : (x : Int) % 5 = 4 := by omega
        clear hx5
        have KD := do_eb HAB.out.1 10 0 (by decide)
        have hmv := mv_all 1000 10 0 A B (by omega)
        generalize doS 1000 10 0 A B = r at *
        rw [hmv.e, hmv.c] at KD
        obtain ⟨p', hp'⟩ : ∃ p', p' = r.A.length := ⟨_, rfl⟩
        obtain ⟨p, hp⟩ : ∃ p, p = A.length := ⟨_, rfl⟩
        rw [← hp', ← hp] at KD
        rw [← hp] at KA
        have HM := Lib.hid (And.intro hmv (And.intro hp' hp))
        have KD := Lib.hid KD
        clear hmv hp' hp
        have hq : p' = p ∨ p' ≠ p := by omega
        rcases hq with hq | hq
        · have hdc : decide (p' ≠ p) = false := decide_eq_false (by omega)
          rw [hdc] at KD
          have hne : ((p' : Int) != (p : Int)) = false := by simp [hq]
          clear hdc
          have HQ := Lib.hid hq
          clear hq
          go_wp2_with fail
          refine KA.out.mono ?_
          rintro _ _ ⟨rfl, rfl⟩
          go_wp2_with fail
          refine (KD.out _ (Stp.refl _ _)).mono ?_
          rintro _ w6 ⟨rfl, h6, s6⟩
          have H6 : Aside (Eb w w6 e b g 1000 r.A r.B ∧ r.A ++ r.B = chs t ∧ w6.heap[gq]? = some (.cells #[.int .i64 4, .int .i64 5, .int .i64 6, .int .i64 7, .int .i64 10] 3 (0, 0))) := ⟨h6, HM.out.1.ab.trans HAB.out.2.1, (s6.block gq (Array.getElem?_eq_some_iff.1 HAB.out.2.2).1 (by have := H5.out.2.2; simp; omega)).trans HAB.out.2.2⟩
          have KT : ∀ W', Stp [] w6 [] W' → Calls Tryd.prog 21 #[.pointer (some ⟨e, 0, none⟩)] W' fun en w' => en = .returned (.string (st t)) ∧ Stp [] w6 [] w' := fun W' hs => by
            have h := text_run (H6.out.1.bu.stays hs)
            rw [H6.out.2.1, HF.out.of.2] at h
            exact h.mono fun _ _ ⟨h1, h2⟩ => ⟨h1, hs.trans h2⟩
          have KT := Lib.hid KT
          have KA2 : ∀ W', Stp [] w6 [] W' → Calls Tryd.prog 24 #[.pointer (some ⟨e, 0, none⟩)] W' (Gives (.int .i64 (p' : Int)) W') := fun W' hs => by
            have h := bat_run (H6.out.1.bu.stays hs)
            rw [← HM.out.2.1] at h
            exact h
          have KA2 := Lib.hid KA2
          have CV : Aside (∀ W', Stp [] w6 [] W' → (convert 36 9 (.slice a0 n cap0)).run Tryd.prog W' = .ok (.string (st t)) W') := fun W' hs => conv_bts cap0 n (HT.out.1.stays (H6.out.1.stp.trans hs)) HT.out.2.1
          have ht := beq_self_eq_true ((st t).toList)
          have hcur : Stp [] w6 [] w6.drew := Stp.drew _ _
          clear h6 s6 KD KA
          go_wp2_with fail
          go_region_held3 (fun W' => (convert 36 9 (.slice a0 n cap0)).run Tryd.prog W' = .ok (.string (st t)) W')
            (first | exact CV.out _ hcur | assumption)
            (first
              | (go_at_call 21; refine (KT.out _ hcur).mono ?_; rintro _ w7 ⟨rfl, s7⟩; replace hcur := s7)
              | (go_at_call 24; refine (KA2.out _ hcur).mono ?_; rintro _ w8 ⟨rfl, rfl⟩))
          have H8 : Aside (Eb w w8 e b g 1000 r.A r.B ∧ r.A ++ r.B = chs t ∧ w8.heap[gq]? = some (.cells #[.int .i64 4, .int .i64 5, .int .i64 6, .int .i64 7, .int .i64 10] 3 (0, 0))) := ⟨H6.out.1.stays hcur, H6.out.2.1, (hcur.block gq (Array.getElem?_eq_some_iff.1 H6.out.2.2).1 (by simp)).trans H6.out.2.2⟩
          have KA3 := KA2.out w8 hcur
          have KA3 := Lib.hid KA3
          clear hcur KA2 KT CV H6 ht
          go_wp2_with fail
          go_roundg (m - (i + 1))
          case measure => have := HI.out; omega
          case rel => exact ⟨i + 1, by go_num, by have := HI.out; omega, by omega, r.A, r.B, H8.out⟩
        · have hdc : decide (p' ≠ p) = true := decide_eq_true hq
          rw [hdc] at KD
          have hne : ((p' : Int) != (p : Int)) = true := by rw [bne_iff_ne]; omega
          clear hdc
          have HQ := Lib.hid hq
          clear hq
          go_wp2_with fail
          refine KA.out.mono ?_
          rintro _ _ ⟨rfl, rfl⟩
          go_wp2_with fail
          refine (KD.out _ (Stp.refl _ _)).mono ?_
          rintro _ w6 ⟨rfl, h6, s6⟩
          have H6 : Aside (Eb w w6 e b g 1000 r.A r.B ∧ r.A ++ r.B = chs t ∧ w6.heap[gq]? = some (.cells #[.int .i64 4, .int .i64 5, .int .i64 6, .int .i64 7, .int .i64 10] 3 (0, 0))) := ⟨h6, HM.out.1.ab.trans HAB.out.2.1, (s6.block gq (Array.getElem?_eq_some_iff.1 HAB.out.2.2).1 (by have := H5.out.2.2; simp; omega)).trans HAB.out.2.2⟩
          have KT : ∀ W', Stp [] w6 [] W' → Calls Tryd.prog 21 #[.pointer (some ⟨e, 0, none⟩)] W' fun en w' => en = .returned (.string (st t)) ∧ Stp [] w6 [] w' := fun W' hs => by
            have h := text_run (H6.out.1.bu.stays hs)
            rw [H6.out.2.1, HF.out.of.2] at h
            exact h.mono fun _ _ ⟨h1, h2⟩ => ⟨h1, hs.trans h2⟩
          have KT := Lib.hid KT
          have KA2 : ∀ W', Stp [] w6 [] W' → Calls Tryd.prog 24 #[.pointer (some ⟨e, 0, none⟩)] W' (Gives (.int .i64 (p' : Int)) W') := fun W' hs => by
            have h := bat_run (H6.out.1.bu.stays hs)
            rw [← HM.out.2.1] at h
            exact h
          have KA2 := Lib.hid KA2
          have CV : Aside (∀ W', Stp [] w6 [] W' → (convert 36 9 (.slice a0 n cap0)).run Tryd.prog W' = .ok (.string (st t)) W') := fun W' hs => conv_bts cap0 n (HT.out.1.stays (H6.out.1.stp.trans hs)) HT.out.2.1
          have ht := beq_self_eq_true ((st t).toList)
          have hcur : Stp [] w6 [] w6.drew := Stp.drew _ _
          clear h6 s6 KD KA
          go_wp2_with fail
          go_region_held3 (fun W' => (convert 36 9 (.slice a0 n cap0)).run Tryd.prog W' = .ok (.string (st t)) W')
            (first | exact CV.out _ hcur | assumption)
            (first
              | (go_at_call 21; refine (KT.out _ hcur).mono ?_; rintro _ w7 ⟨rfl, s7⟩; replace hcur := s7)
              | (go_at_call 24; refine (KA2.out _ hcur).mono ?_; rintro _ w8 ⟨rfl, rfl⟩))
          have H8 : Aside (Eb w w8 e b g 1000 r.A r.B ∧ r.A ++ r.B = chs t ∧ w8.heap[gq]? = some (.cells #[.int .i64 4, .int .i64 5, .int .i64 6, .int .i64 7, .int .i64 10] 3 (0, 0))) := ⟨H6.out.1.stays hcur, H6.out.2.1, (hcur.block gq (Array.getElem?_eq_some_iff.1 H6.out.2.2).1 (by simp)).trans H6.out.2.2⟩
          have KA3 := KA2.out w8 hcur
          have KA3 := Lib.hid KA3
          clear hcur KA2 KT CV H6 ht
          go_wp2_with fail
          go_roundg (m - (i + 1))
          case measure => have := HI.out; omega
          case rel => exact ⟨i + 1, by go_num, by have := HI.out; omega, by omega, r.A, r.B, H8.out⟩
    · have hltz : ¬ (i : Int) < (m : Int) := by omega
      have H6 : Aside (Eb w wr e b g 1000 A B ∧ A ++ B = chs t) := ⟨HAB.out.1, HAB.out.2.1⟩
      have KC := bcount_run H6.out.1.bu
      rw [H6.out.2] at KC
      have hq1 : A.length ≤ (chs t).length := by rw [← H6.out.2]; simp
      obtain ⟨q, hq⟩ : ∃ q, q = (chs t).length := ⟨_, rfl⟩
      rw [← hq] at KC hq1
      have HQ := Lib.hid (And.intro hq hq1)
      have KC := Lib.hid KC
      have hq4 : q ≤ 4096 := by
        have h1 := H6.out.1.bu.lens
        have h2 := fl_len_ge (A ++ B)
        rw [H6.out.2] at h1 h2
        omega
      clear hq hq1 HAB
      go_wp2_with fail
      refine KC.out.mono ?_
      rintro _ _ ⟨rfl, rfl⟩
      go_wp2_with fail
      rename_i wz
      go_loopg [112] q (fun gk vi wr => ∃ j : Nat, vi = .int .i64 (j : Int) ∧ j ≤ q ∧ q - j ≤ gk ∧ Aside (∃ A B, Eb w wr e b g 1000 A B ∧ A ++ B = chs t ∧ A.length ≤ q - j))
      case atStart => exact ⟨0, rfl, Nat.zero_le _, by omega, A, B, H6.out.1, H6.out.2, HQ.out.2⟩
      case round =>
        obtain ⟨j, rfl, hj, hg3, HS⟩ := hrel
        obtain ⟨C, D, hCD⟩ : ∃ A B, Eb w wr e b g 1000 A B ∧ A ++ B = chs t ∧ A.length ≤ q - j := HS.out
        have HCD := Lib.hid hCD
        clear hCD HS
        by_cases hlt : j < q
        · have hltz : (j : Int) < (q : Int) := by omega
          have KD : ∀ W', Stp [] wr [] W' → Calls Tryd.prog 13 #[.pointer (some ⟨e, 0, none⟩), .agg #[.int .i64 4, .int .i64 0]] W' fun en w' => en = .returned (.tuple #[.bool (chg ⟨0, C.dropLast, lst C ++ D⟩ C D), .int .i64 0]) ∧ Eb w w' e b g 1000 C.dropLast (lst C ++ D) ∧ Stp [e, b, g] wr [e, b, g] w' := do_eb HCD.out.1 4 0 (by decide)
          have KD := Lib.hid KD
          generalize chg ⟨0, C.dropLast, lst C ++ D⟩ C D = bb at *
          have HJ : Aside (j < q) := hlt
          clear hlt
          go_wp2_with fail
          refine (KD.out _ (Stp.refl _ _)).mono ?_
          rintro _ w8 ⟨rfl, h8, s8⟩
          have H8 : Aside (Eb w w8 e b g 1000 C.dropLast (lst C ++ D)) := h8
          clear h8 s8 KD
          go_wp2
          go_roundg (q - (j + 1))
          case measure => have := HJ.out; omega
          case rel =>
            refine ⟨j + 1, by go_num, by have := HJ.out; omega, by omega, C.dropLast, lst C ++ D, H8.out, ?_, ?_⟩
            · rw [← List.append_assoc, dl_lst]
              exact HCD.out.2.1
            · have := HCD.out.2.2
              simp only [List.length_dropLast]
              omega
        · have hltz : ¬ (j : Int) < (q : Int) := by omega
          have hC : C = [] := List.length_eq_zero_iff.1 (by have := HCD.out.2.2; omega)
          subst hC
          have HD2 : Aside (Eb w wr e b g 1000 [] D ∧ D = chs t) := ⟨HCD.out.1, HCD.out.2.1⟩
          have KD : ∀ W', Stp [] wr [] W' → Calls Tryd.prog 13 #[.pointer (some ⟨e, 0, none⟩), .agg #[.int .i64 4, .int .i64 0]] W' fun en w' => en = .returned (.tuple #[.bool (chg ⟨0, [], D⟩ [] D), .int .i64 0]) ∧ Eb w w' e b g 1000 [] D ∧ Stp [e, b, g] wr [e, b, g] w' := do_eb HD2.out.1 4 0 (by decide)
          have hc : chg ⟨0, [], D⟩ [] D = false := by simp [chg]
          rw [hc] at KD
          have KD := Lib.hid KD
          clear hc HCD
          go_wp2_with fail
          refine (KD.out _ (Stp.refl _ _)).mono ?_
          rintro _ w9 ⟨rfl, h9, s9⟩
          have H9 : Aside (Eb w w9 e b g 1000 [] D) := h9
          have KL : Calls Tryd.prog 24 #[.pointer (some ⟨e, 0, none⟩)] w9 (Gives (.int .i64 0) w9) := bat_run h9.bu
          have KL := Lib.hid KL
          have KN := bcount_run h9.bu
          rw [List.nil_append, HD2.out.2, ← HQ.out.1] at KN
          have KN := Lib.hid KN
          clear h9 s9 KD HD2
          go_wp2_with fail
          refine KL.out.mono ?_
          rintro _ _ ⟨rfl, rfl⟩
          go_wp2_with fail
          refine KN.out.mono ?_
          rintro _ _ ⟨rfl, rfl⟩
          go_wp2
          go_ret
          exact ⟨by simp, H9.out.stp⟩
end Go.Proofs.YtblmpaplggnajaaDoor
