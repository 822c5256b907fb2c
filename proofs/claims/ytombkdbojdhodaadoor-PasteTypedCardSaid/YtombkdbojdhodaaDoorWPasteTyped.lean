/-
  The walk of PasteTyped: a paste is what its characters are, typed one by one at that place.
-/
import Derived.Test.YtombkdbojdhodaaDoorNum
namespace Go.Proofs.YtombkdbojdhodaaDoor
open Go.RowKit Go.Lib
set_option linter.unusedVariables false

/-- A stage and a buffer, and another buffer, each by itself. -/
structure S2 (w W : World) (s b g : Nat) (t : Sv) (e c q : Nat) (A B : List Nat) (e' c' q' : Nat) (A' B' : List Nat) : Prop where
  one : SB w W s b g 500 t e c q 900 A B
  two : Eb w W e' c' q' 900 A' B'
  ap : ∀ k ∈ [e', c', q'], (k ≠ s ∧ k ≠ b ∧ k ≠ g) ∧ k ≠ e ∧ k ≠ c ∧ k ≠ q
section
variable {w W W' : World} {s b g e c q e' c' q' : Nat} {t t' : Sv} {A B A' B' C D : List Nat}
theorem S2.of (h : S2 w W s b g t e c q A B e' c' q' A' B') : (s ≠ e' ∧ s ≠ c' ∧ s ≠ q') ∧ (b ≠ e' ∧ b ≠ c' ∧ b ≠ q') ∧ (g ≠ e' ∧ g ≠ c' ∧ g ≠ q') ∧ (e ≠ e' ∧ e ≠ c' ∧ e ≠ q') ∧ (c ≠ e' ∧ c ≠ c' ∧ c ≠ q') ∧ (q ≠ e' ∧ q ≠ c' ∧ q ≠ q') := by
  have h1 := h.ap e' (by simp)
  have h2 := h.ap c' (by simp)
  have h3 := h.ap q' (by simp)
  exact ⟨⟨h1.1.1.symm, h2.1.1.symm, h3.1.1.symm⟩, ⟨h1.1.2.1.symm, h2.1.2.1.symm, h3.1.2.1.symm⟩, ⟨h1.1.2.2.symm, h2.1.2.2.symm, h3.1.2.2.symm⟩, ⟨h1.2.1.symm, h2.2.1.symm, h3.2.1.symm⟩, ⟨h1.2.2.1.symm, h2.2.2.1.symm, h3.2.2.1.symm⟩, ⟨h1.2.2.2.symm, h2.2.2.2.symm, h3.2.2.2.symm⟩⟩
theorem S2.stays {F : List Nat} (h : S2 w W s b g t e c q A B e' c' q' A' B') (hs : Stp [] W F W') : S2 w W' s b g t e c q A B e' c' q' A' B' := ⟨h.one.stays hs, h.two.stays hs, h.ap⟩
theorem S2.act1 {F : List Nat} (h : S2 w W s b g t e c q A B e' c' q' A' B') (h1 : SB w W' s b g 500 t' e c q 900 C D) (hs : Stp F W F W') (hF : ∀ k ∈ F, k = s ∨ k = b ∨ k = g ∨ k = e ∨ k = c ∨ k = q) : S2 w W' s b g t' e c q C D e' c' q' A' B' :=
  ⟨h1, h.two.other hs (fun k hk => by
    have h1 := h.one.new
    have h2 := h.one.eb.new
    have h3 := h.of
    rcases hF k hk with rfl | rfl | rfl | rfl | rfl | rfl
    · exact ⟨h1.1, h3.1⟩
    · exact ⟨h1.2.1, h3.2.1⟩
    · exact ⟨h1.2.2, h3.2.2.1⟩
    · exact ⟨h2.1, h3.2.2.2.1⟩
    · exact ⟨h2.2.1, h3.2.2.2.2.1⟩
    · exact ⟨h2.2.2, h3.2.2.2.2.2⟩), h.ap⟩
theorem S2.act2 (h : S2 w W s b g t e c q A B e' c' q' A' B') (h2 : Eb w W' e' c' q' 900 C D) (hs : Stp [e', c', q'] W [e', c', q'] W') : S2 w W' s b g t e c q A B e' c' q' C D :=
  ⟨h.one.other hs (fun k hk => ⟨by have := h.two.new; simp at hk; omega, h.ap k hk⟩), h2, h.ap⟩
/-- One, and then another. -/
theorem S2.mk' {s' b' g' N' : Nat} {t0 : Sv} (h : SB w W s b g 500 t e c q 900 A B) (k : SB W W' s' b' g' N' t0 e' c' q' 900 [] []) : S2 w W' s b g t e c q A B e' c' q' [] [] :=
  ⟨h.stays k.eb.stp, ⟨k.eb.bu, h.eb.stp.trans k.eb.stp, by have := h.eb.stp.size; have := k.eb.new; omega⟩, fun i hi => by
    have h1 := h.eb.bu.lt
    have h2 := k.eb.new
    have h3 := h.sg.lt
    simp at hi
    omega⟩
/-- The same in both buffers. -/
theorem put1_s2 (h : S2 w W s b g t e c q A B e' c' q' A' B') (x : Int) : ∀ W', Stp [] W [] W' → Calls Tryd.prog 19 #[.pointer (some ⟨e, 0, none⟩), .int .i64 x] W' fun en w' => en = .returned (.int .i64 (putS 900 x A B).e) ∧ S2 w w' s b g t e c q (putS 900 x A B).A (putS 900 x A B).B e' c' q' A' B' := fun W' hs =>
  (putb_sb (h.stays hs).one x W' (Stp.refl _ _)).mono fun _ _ ⟨h1, h2, h3⟩ => ⟨h1, (h.stays hs).act1 h2 h3 (fun k hk => by simp at hk; omega)⟩
theorem put2_s2 (h : S2 w W s b g t e c q A B e' c' q' A' B') (x : Int) : ∀ W', Stp [] W [] W' → Calls Tryd.prog 19 #[.pointer (some ⟨e', 0, none⟩), .int .i64 x] W' fun en w' => en = .returned (.int .i64 (putS 900 x A' B').e) ∧ S2 w w' s b g t e c q A B e' c' q' (putS 900 x A' B').A (putS 900 x A' B').B := fun W' hs =>
  (bput_run (h.two.bu.stays hs) x).mono fun _ _ ⟨h1, h2, h3⟩ => ⟨h1, (h.stays hs).act2 ((h.two.stays hs).act h2 h3) h3⟩
theorem left1_s2 (h : S2 w W s b g t e c q A B e' c' q' A' B') : ∀ W', Stp [] W [] W' → Calls Tryd.prog 21 #[.pointer (some ⟨e, 0, none⟩), .agg #[.int .i64 4, .int .i64 0]] W' fun en w' => en = .returned (.tuple #[.bool (chg ⟨0, A.dropLast, lst A ++ B⟩ A B), .int .i64 0]) ∧ S2 w w' s b g t e c q A.dropLast (lst A ++ B) e' c' q' A' B' := fun W' hs =>
  (dob_sb (h.stays hs).one 4 0 (by decide) W' (Stp.refl _ _)).mono fun _ _ ⟨h1, h2, h3⟩ => ⟨h1, (h.stays hs).act1 h2 h3 (fun k hk => by simp at hk; omega)⟩
theorem left2_s2 (h : S2 w W s b g t e c q A B e' c' q' A' B') : ∀ W', Stp [] W [] W' → Calls Tryd.prog 21 #[.pointer (some ⟨e', 0, none⟩), .agg #[.int .i64 4, .int .i64 0]] W' fun en w' => en = .returned (.tuple #[.bool (chg ⟨0, A'.dropLast, lst A' ++ B'⟩ A' B'), .int .i64 0]) ∧ S2 w w' s b g t e c q A B e' c' q' A'.dropLast (lst A' ++ B') := fun W' hs =>
  (do_run (h.two.bu.stays hs) 4 0 (by decide)).mono fun _ _ ⟨h1, h2, h3⟩ => ⟨h1, (h.stays hs).act2 ((h.two.stays hs).act h2 h3) h3⟩
end
theorem putS_len (N : Nat) (x : Int) (A B : List Nat) : (fl ((putS N x A B).A ++ (putS N x A B).B)).length ≤ (fl (A ++ B)).length + 4 := by
  have h4 := (enc8_len x.toNat).2
  unfold putS layS
  (repeat' split) <;> simp only [fl_app, fl_one, List.length_append] <;> omega
theorem left_len (A B : List Nat) : (fl (A.dropLast ++ (lst A ++ B))).length = (fl (A ++ B)).length := by rw [← List.append_assoc, dl_lst]
/-- What is added, and what is typed, have the same error. -/
theorem add_put (x : Int) (X A B : List Nat) (h1 : (fl X).length + 4 ≤ 500) (h2 : (fl ((A ++ X) ++ B)).length + 4 ≤ 900) : ∃ (r : Int) (X' : List Nat), IntKind.i64.wrap r = r ∧ adS 500 x ⟨X, true, false⟩ = (r, ⟨X', true, false⟩) ∧ putS 900 x (A ++ X) B = ⟨r, A ++ X', B⟩ ∧ (fl X').length ≤ (fl X).length + 4 := by
  rcases adS_cases 500 x X false with ⟨m, rfl, hp, _, hf, er⟩ | ⟨hp, er⟩ | ⟨m, rfl, hp, ho, er⟩
  · have h4 := (enc8_len m).2
    refine ⟨0, X ++ [m], by decide, er, ?_, by rw [fl_app, fl_one, List.length_append]; omega⟩
    unfold putS layS
    rw [if_pos hp, Int.toNat_natCast, fl_one, if_pos (by omega), List.append_assoc]
  · refine ⟨2, X, by decide, er, ?_, by omega⟩
    unfold putS
    rw [if_neg (by rw [hp]; simp)]
  · have h4 := (enc8_len m).2
    rcases ho with ho | ho
    · cases ho
    · omega
set_option maxHeartbeats 1000000 in
set_option maxRecDepth 100000 in
theorem typed_walk (a0 : Option Addr) (cap0 n0 : Nat) (l0 : List Int) (a1 : Option Addr) (cap1 n1 : Nat) (l1 : List Int) (zz : Int) (w : World) (hb0 : Is w a0 l0) (hn0 : n0 = l0.length) (hm0 : n0 ≤ 9223372036854775807) (hb1 : Is w a1 l1) (hn1 : n1 = l1.length) (hm1 : n1 ≤ 9223372036854775807) (hzz : (Lit.int .u8 zz).wf = true) (hT : U.Tabs w) :
    Calls Tryd.prog 7 #[.slice a0 n0 cap0, .slice a1 n1 cap1, .int .u8 zz] w (Tells (.bool true) w) := by
  obtain ⟨z, rfl, hz⟩ := u8_nat hzz
  have HT : Aside (Is w a0 l0 ∧ n0 = l0.length ∧ Is w a1 l1 ∧ n1 = l1.length ∧ U.Tabs w) := ⟨hb0, hn0, hb1, hn1, hT⟩
  have KB : ∀ W, Calls Tryd.prog 8 #[.int .i64 500, .int .i64 900] W (Begun 500 900 W) := fun W => begin_run 500 900 W (by omega) (by omega) (by omega) (by omega)
  have KB := Lib.hid KB
  obtain ⟨y, hy, hy20⟩ : ∃ y : Nat, (z : Int) % 20 = (y : Int) ∧ y < 20 := ⟨z % 20, by omega, by omega⟩
  clear hb0 hn0 hb1 hn1 hT hzz
  have HD0 : (decide (60 < (n0 : Int)) = true ∨ decide (60 < (n0 : Int)) = false) := by cases decide (60 < (n0 : Int)) <;> simp
  have HD1 : (decide (100 < (n1 : Int)) = true ∨ decide (100 < (n1 : Int)) = false) := by cases decide (100 < (n1 : Int)) <;> simp
  go_enter Tryd.func7, Tryd.ntmps7
  go_wp2_with fail
  refine (KB.out _).mono ?_
  rintro _ w1 ⟨s, b, g, e, c, q, rfl, h1⟩
  have H1 : Aside (SB w w1 s b g 500 sv0 e c q 900 [] []) := h1
  clear h1
  go_wp2_with fail
  refine (KB.out _).mono ?_
  rintro _ w2 ⟨s', b', g', e', c', q', rfl, h2⟩
  have H2 : Aside (S2 w w2 s b g sv0 e c q [] [] e' c' q' [] []) := S2.mk' H1.out h2
  have KV := Lib.hid (alive_run w2 (tabs_stays HT.out.2.2.2.2 H2.out.one.eb.stp))
  clear h2 KB H1
  go_wp2_with fail
  refine KV.out.mono ?_
  rintro _ w3 ⟨rfl, s3⟩
  have H3 : Aside (S2 w w3 s b g sv0 e c q [] [] e' c' q' [] []) := H2.out.stays s3
  clear H2 s3 KV
  rcases HD0 with hd | hd
  · have KV := Lib.hid (alive_run w3 (tabs_stays HT.out.2.2.2.2 H3.out.one.eb.stp))
    go_wp2_with fail
    refine KV.out.mono ?_
    rintro _ w4 ⟨rfl, s4⟩
    have H4 : Aside (Stp [] w [] w4) := H3.out.one.eb.stp.trans s4
    clear H3 s4
    go_wp2
    go_ret
    exact ⟨rfl, H4.out⟩
  rcases HD1 with hd1 | hd1
  · have KV := Lib.hid (alive_run w3 (tabs_stays HT.out.2.2.2.2 H3.out.one.eb.stp))
    go_wp2_with fail
    refine KV.out.mono ?_
    rintro _ w4 ⟨rfl, s4⟩
    have H4 : Aside (Stp [] w [] w4) := H3.out.one.eb.stp.trans s4
    clear H3 s4
    go_wp2
    go_ret
    exact ⟨rfl, H4.out⟩
  have hn0 : n0 ≤ 60 := by have := of_decide_eq_false hd; omega
  have hn1 : n1 ≤ 100 := by have := of_decide_eq_false hd1; omega
  go_wp2_with fail
  go_loopg [56] n0 (fun gk vi wr => ∃ i : Nat, vi = .int .i64 (i : Int) ∧ i ≤ n0 ∧ n0 - i ≤ gk ∧ Aside (∃ A B, S2 w wr s b g sv0 e c q A B e' c' q' A B ∧ (fl (A ++ B)).length ≤ 4 * i))
  case atStart => exact ⟨0, rfl, Nat.zero_le _, by omega, [], [], H3.out, Nat.le_refl _⟩
  case round =>
    obtain ⟨i, rfl, hi, hg, HS⟩ := hrel
    obtain ⟨A, B, hA⟩ : ∃ A B, S2 w wr s b g sv0 e c q A B e' c' q' A B ∧ (fl (A ++ B)).length ≤ 4 * i := HS.out
    have HA := Lib.hid hA
    clear hA HS H3
    by_cases hlt : i < n0
    · have hltz : (i : Int) < (n0 : Int) := by omega
      obtain ⟨lb, off, rfl, c0⟩ := HT.out.1.at HA.out.1.one.eb.stp (i := i) (by have := HT.out.2.1; omega)
      generalize l0[i]! = x at *
      have HI : Aside (i < n0) := hlt
      have K1 := Lib.hid (put1_s2 HA.out.1 x _ (Stp.refl _ _))
      have HL := Lib.hid (And.intro (putS_len 900 x A B) HA.out.2)
      have K2 := Lib.hid (fun (W : World) (h : S2 w W s b g sv0 e c q (putS 900 x A B).A (putS 900 x A B).B e' c' q' A B) => put2_s2 h x W (Stp.refl _ _))
      clear hlt HA
      generalize putS 900 x A B = r at *
      go_wp2_with fail
      refine K1.out.mono ?_
      rintro _ w5 ⟨rfl, h5⟩
      have K2 := Lib.hid (K2.out _ h5)
      clear K1 h5
      go_wp2_with fail
      refine K2.out.mono ?_
      rintro _ w6 ⟨rfl, h6⟩
      have H6 : Aside (S2 w w6 s b g sv0 e c q r.A r.B e' c' q' r.A r.B) := h6
      clear K2 h6
      go_wp2
      go_roundg (n0 - (i + 1))
      case measure => have := HI.out; omega
      case rel => exact ⟨i + 1, by go_num, by have := HI.out; omega, by omega, r.A, r.B, H6.out, by have := HL.out; omega⟩
    · have hltz : ¬ (i : Int) < (n0 : Int) := by omega
      have H6 : Aside (∃ A B, S2 w wr s b g sv0 e c q A B e' c' q' A B ∧ (fl (A ++ B)).length ≤ 240) := ⟨A, B, HA.out.1, by have := HA.out.2; omega⟩
      clear hlt HA
      go_wp2_with fail
      go_loopg [69] y (fun gk vi wr => ∃ j : Nat, vi = .int .u8 (j : Int) ∧ j ≤ y ∧ y - j ≤ gk ∧ Aside (∃ A B, S2 w wr s b g sv0 e c q A B e' c' q' A B ∧ (fl (A ++ B)).length ≤ 240))
      case atStart => exact ⟨0, rfl, Nat.zero_le _, by omega, H6.out⟩
      case round =>
        obtain ⟨j, rfl, hj, hg, HS⟩ := hrel
        obtain ⟨A, B, hA⟩ : ∃ A B, S2 w wr s b g sv0 e c q A B e' c' q' A B ∧ (fl (A ++ B)).length ≤ 240 := HS.out
        have HA := Lib.hid hA
        clear hA HS H6
        by_cases hlt : j < y
        · have hltz : (j : Int) < (y : Int) := by omega
          have hw : IntKind.u8.wrap ((j : Int) + 1) = ((j + 1 : Nat) : Int) := by rw [IntKind.wrap_u8]; omega
          have HI : Aside (j < y) := hlt
          have K1 := Lib.hid (left1_s2 HA.out.1 _ (Stp.refl _ _))
          have HL := Lib.hid (And.intro (left_len A B) HA.out.2)
          have K2 := Lib.hid (fun (W : World) (h : S2 w W s b g sv0 e c q A.dropLast (lst A ++ B) e' c' q' A B) => left2_s2 h W (Stp.refl _ _))
          clear hlt HA
          generalize chg ⟨0, A.dropLast, lst A ++ B⟩ A B = cg at *
          generalize A.dropLast = A2 at *
          generalize lst A ++ B = B2 at *
          go_wp2_with fail
          refine K1.out.mono ?_
          rintro _ w5 ⟨rfl, h5⟩
          have K2 := Lib.hid (K2.out _ h5)
          clear K1 h5
          go_wp2_with fail
          refine K2.out.mono ?_
          rintro _ w6 ⟨rfl, h6⟩
          have H6 : Aside (S2 w w6 s b g sv0 e c q A2 B2 e' c' q' A2 B2) := h6
          clear K2 h6
          go_wp2
          go_roundg (y - (j + 1))
          case measure => have := HI.out; omega
          case rel => exact ⟨j + 1, rfl, by have := HI.out; omega, by omega, A2, B2, H6.out, by have := HL.out; omega⟩
        · have hltz : ¬ (j : Int) < (y : Int) := by omega
          have KS : Calls Tryd.prog 11 #[.pointer (some ⟨s, 0, none⟩)] wr fun en w' => en = .returned (.int .i64 0) ∧ SB w w' s b g 500 ⟨[], true, false⟩ e c q 900 A B ∧ Stp [s, b, g] wr [s, b, g] w' := start_sb HA.out.1.one _ (Stp.refl _ _)
          have KS := Lib.hid KS
          clear hlt
          go_wp2_with fail
          refine KS.out.mono ?_
          rintro _ w5 ⟨rfl, h5, s5⟩
          have H5 : Aside (S2 w w5 s b g ⟨[], true, false⟩ e c q A B e' c' q' A B ∧ (fl (A ++ B)).length ≤ 240) := ⟨HA.out.1.act1 h5 s5 (fun k hk => by simp at hk; omega), HA.out.2⟩
          clear h5 s5 KS HA
          go_wp2_with fail
          go_loopg [82] n1 (fun gk vi wr => ∃ i : Nat, vi = .int .i64 (i : Int) ∧ i ≤ n1 ∧ n1 - i ≤ gk ∧ Aside (∃ X, S2 w wr s b g ⟨X, true, false⟩ e c q A B e' c' q' (A ++ X) B ∧ (fl X).length ≤ 4 * i))
          case atStart => exact ⟨0, rfl, Nat.zero_le _, by omega, [], by rw [List.append_nil]; exact H5.out.1, Nat.le_refl _⟩
          case round =>
            obtain ⟨i, rfl, hi, hg, HS⟩ := hrel
            obtain ⟨X, hA⟩ : ∃ X, S2 w wr s b g ⟨X, true, false⟩ e c q A B e' c' q' (A ++ X) B ∧ (fl X).length ≤ 4 * i := HS.out
            have HA := Lib.hid hA
            clear hA HS
            have HL : Aside ((fl (A ++ B)).length ≤ 240) := H5.out.2
            clear H5
            by_cases hlt : i < n1
            · have hltz : (i : Int) < (n1 : Int) := by omega
              obtain ⟨lb, off, rfl, c0⟩ := HT.out.2.2.1.at HA.out.1.one.eb.stp (i := i) (by have := HT.out.2.2.2.1; omega)
              generalize l1[i]! = x at *
              have HI : Aside (i < n1) := hlt
              have hxl := HA.out.2
              obtain ⟨r, X', hrw, er, ep, hl⟩ := add_put x X A B (by omega) (by have := HL.out; simp only [fl_app, List.length_append] at this ⊢; omega)
              have K1 := add_sb HA.out.1.one x _ (Stp.refl _ _)
              have K2 : ∀ W, S2 w W s b g ⟨X', true, false⟩ e c q A B e' c' q' (A ++ X) B → Calls Tryd.prog 19 #[.pointer (some ⟨e', 0, none⟩), .int .i64 x] W fun en w' => en = .returned (.int .i64 r) ∧ S2 w w' s b g ⟨X', true, false⟩ e c q A B e' c' q' (A ++ X') B := fun W h => by
                have := put2_s2 h x W (Stp.refl _ _)
                rwa [ep] at this
              rw [er] at K1
              have K1 := Lib.hid K1
              have K2 := Lib.hid K2
              have HX := Lib.hid (And.intro hl hxl)
              have hself : ((r : Int) != r) = false := by simp
              clear er ep hl hxl hlt
              go_wp2_with fail
              refine K1.out.mono ?_
              rintro _ w6 ⟨rfl, h6, s6⟩
              have K2 := Lib.hid (K2.out _ (HA.out.1.act1 h6 s6 (fun k hk => by simp at hk; omega)))
              clear K1 h6 s6 HA
              go_wp2_with fail
              refine K2.out.mono ?_
              rintro _ w7 ⟨rfl, h7⟩
              have H7 : Aside (S2 w w7 s b g ⟨X', true, false⟩ e c q A B e' c' q' (A ++ X') B) := h7
              clear K2 h7
              go_wp2
              go_roundg (n1 - (i + 1))
              case measure => have := HI.out; omega
              case rel => exact ⟨i + 1, by go_num, by have := HI.out; omega, by omega, X', H7.out, by have := HX.out; omega⟩
            · have hltz : ¬ (i : Int) < (n1 : Int) := by omega
              have KE := end_sb HA.out.1.one HT.out.2.2.2.2 _ (Stp.refl _ _)
              rw [show enS 900 ⟨X, true, false⟩ A B = ⟨0, A ++ X, B⟩ from (show enS 900 ⟨X, true, false⟩ A B = layS 900 X A B from rfl).trans (if_pos (by have h1 := HA.out.2; have h2 := HL.out; omega))] at KE
              have KE := Lib.hid KE
              clear hlt
              go_wp2_with fail
              refine KE.out.mono ?_
              rintro _ w6 ⟨rfl, h6, s6⟩
              have H6 : Aside (S2 w w6 s b g sv0 e c q (A ++ X) B e' c' q' (A ++ X) B) := HA.out.1.act1 h6 s6 (fun k hk => by simp at hk; omega)
              have KT := Lib.hid (text_run H6.out.one.eb.bu)
              clear h6 s6 KE HA
              have ht := beq_self_eq_true (st (fl ((A ++ X) ++ B))).toList
              have ha := beq_self_eq_true ((((A ++ X).length : Nat) : Int))
              have HH := Lib.hid (And.intro ht ha)
              clear ht ha
              obtain ⟨S, hS⟩ : ∃ S, S = st (fl ((A ++ X) ++ B)) := ⟨_, rfl⟩
              obtain ⟨L, hL⟩ : ∃ L, L = (A ++ X).length := ⟨_, rfl⟩
              have K2 : ∀ W, Stp [] w6 [] W → Calls Tryd.prog 28 #[.pointer (some ⟨e', 0, none⟩)] W (Tells (.string S) W) := fun W hs => by
                rw [hS]
                exact text_run (H6.out.two.bu.stays hs)
              have K3 : ∀ W, Stp [] w6 [] W → Calls Tryd.prog 30 #[.pointer (some ⟨e, 0, none⟩)] W (Gives (.int .i64 (L : Int)) W) := fun W hs => by
                rw [hL]
                exact bat_run (H6.out.one.eb.bu.stays hs)
              have K4 : ∀ W, Stp [] w6 [] W → Calls Tryd.prog 30 #[.pointer (some ⟨e', 0, none⟩)] W (Gives (.int .i64 (L : Int)) W) := fun W hs => by
                rw [hL]
                exact bat_run (H6.out.two.bu.stays hs)
              have K2 := Lib.hid K2
              have K3 := Lib.hid K3
              have K4 := Lib.hid K4
              rw [← hS] at KT HH
              rw [← hL] at HH
              have ht := HH.out.1
              have ha := HH.out.2
              clear hS hL
              go_wp2_with fail
              refine KT.out.mono ?_
              rintro _ w7 ⟨rfl, s7⟩
              have K2 := Lib.hid (K2.out w7 s7)
              have S7 := Lib.hid s7
              clear KT s7
              go_wp2_with fail
              refine K2.out.mono ?_
              rintro _ w8 ⟨rfl, s8⟩
              have S8 := Lib.hid (S7.out.trans s8)
              have K3 := Lib.hid (K3.out w8 S8.out)
              have K4 := Lib.hid (K4.out w8 S8.out)
              clear K2 s8 S7
              go_wp2_with fail
              refine K3.out.mono ?_
              rintro _ _ ⟨rfl, rfl⟩
              go_wp2_with fail
              refine K4.out.mono ?_
              rintro _ _ ⟨rfl, rfl⟩
              go_wp2
              go_ret
              exact ⟨rfl, H6.out.one.eb.stp.trans S8.out⟩
end Go.Proofs.YtombkdbojdhodaaDoor
