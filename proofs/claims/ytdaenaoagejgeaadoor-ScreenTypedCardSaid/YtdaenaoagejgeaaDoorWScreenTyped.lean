/-
  The walk of ScreenTyped.
-/
import Derived.Test.YtdaenaoagejgeaaDoorTyp
namespace Go.Proofs.YtdaenaoagejgeaaDoor
open Go.RowKit Go.Lib
set_option linter.unusedVariables false

set_option maxRecDepth 100000 in
/-- The document's text of a row. -/
theorem rtx_run (a : Option Addr) (n c : Nat) (l : List Nat) (w : World) (h : Its w a l) (hn : n = l.length) (hl : n ≤ 4096) (hp : Pr l) :
    Calls Tryd.prog 28 #[.slice a n c] w (Tells (.string (st (fl l))) w) := by
  have K := Lib.hid (rbytes_run a n c l w h hn hl hp)
  clear h hn hl hp
  go_enter Tryd.func28, Tryd.ntmps28
  go_wp2_with fail
  refine K.out.mono ?_
  rintro _ w1 ⟨v, rfl, ho, s1⟩
  obtain ⟨a1, c1, rfl, hb, _⟩ := ho.bts
  have hc := conv_bts c1 _ hb rfl
  clear K ho hb
  generalize st (fl l) = x at *
  generalize (fl l).length = q at *
  go_wp2_with fail
  go_ret
  exact ⟨rfl, s1⟩
theorem TyR.says {w W : World} {bs s B : Nat} {F : List Nat} {S : Sn} (h : TyR w W bs s F S B) (hB : B ≤ 80000) : ∃ tx, Says W s (S.up.length : Int) (S.col : Int) (S.bells : Int) (S.odd : Int) (S.up.length + 1) S.pa tx ∧ ∀ i, tx i = st (fl ((S.up ++ [S.cur]).getD i [])) := by
  obtain ⟨L, q1, rfl, q3, q4⟩ := h.ex
  have h1 := q1.says (by omega)
  have e : (rowsL L).length = (seen L).up.length + 1 := by unfold rowsL; simp
  rw [e] at h1
  exact ⟨_, h1, fun i => rfl⟩
theorem cutp_none {a : Option Addr} {i N : Nat} (h : a = none → N = 0) (e : cutp a i N = none) : N - i = 0 := by
  have : a = none := by
    unfold cutp at e
    split at e
    · exact e
    · cases a with
      | none => rfl
      | some x => cases e
  rw [h this]
  omega
/-- What stands at the end: the screen, and what its row should be. -/
def TyE (w W : World) (bs s ny : Nat) (v : Value) (N : List Nat) : Prop := (∃ F B, TyR w W bs s F ⟨[], N, ny, 0, false, 0⟩ B ∧ B ≤ 80000) ∧ (∃ a c, v = .slice a N.length c ∧ Its W a N) ∧ Pr N ∧ N.length ≤ 600
structure TyS (w W : World) (bs s ny : Nat) (a : Option Addr) (n c : Nat) (x : ByteArray) : Prop where
  place : ∀ W', Stp [] W [] W' → Calls Tryd.prog 15 #[.pointer (some ⟨s, 0, none⟩)] W' (Tells (.tuple #[.int .i64 0, .int .i64 (ny : Int)]) W')
  row : ∀ W', Stp [] W [] W' → Calls Tryd.prog 20 #[.pointer (some ⟨s, 0, none⟩), .int .i64 0] W' (Tells (.string x) W')
  odd : ∀ W', Stp [] W [] W' → Calls Tryd.prog 19 #[.pointer (some ⟨s, 0, none⟩)] W' (Tells (.int .i64 0) W')
  rows : ∀ W', Stp [] W [] W' → Calls Tryd.prog 16 #[.pointer (some ⟨s, 0, none⟩)] W' (Tells (.int .i64 1) W')
  text : ∀ W', Stp [] W [] W' → Calls Tryd.prog 28 #[.slice a n c] W' (Tells (.string x) W')
  cl : ∀ W', Stp [] W [] W' → W'.cell? ⟨bs, 0, none⟩ = some (.pointer (some ⟨s, 0, none⟩))
  stp : Stp [] w [] W
theorem TyE.says {w W : World} {bs s ny : Nat} {v : Value} {N : List Nat} (h : TyE w W bs s ny v N) : ∃ a n c x, v = .slice a n c ∧ TyS w W bs s ny a n c x := by
  obtain ⟨⟨F, B, t, hB⟩, ⟨a, c, rfl, hi⟩, hp, hl⟩ := h
  obtain ⟨tx, hsay, htx⟩ := t.says hB
  have h0 : tx 0 = st (fl N) := htx 0
  refine ⟨a, N.length, c, st (fl N), rfl, hsay.place, fun W' hs => ?_, hsay.odd, hsay.rows, fun W' hs => rtx_run a N.length c N W' (hi.stays hs) rfl (by omega) hp, fun W' hs => hs.keeps rfl t.cl, t.stp⟩
  have := hsay.row W' hs 0 (by simp)
  rw [h0] at this
  exact this
set_option maxHeartbeats 2000000 in
set_option maxRecDepth 100000 in
theorem typed_walk (a0 : Option Addr) (cap0 n : Nat) (l : List Int) (a1 : Option Addr) (cap1 m : Nat) (l' : List Int) (w : World) (hb : Is w a0 l) (hn : n = l.length) (hnn : l.length ≤ 9223372036854775807) (hb1 : Is w a1 l') (hm : m = l'.length) (hmm : l'.length ≤ 9223372036854775807) (hT : Tabs w) :
    Calls Tryd.prog 7 #[.slice a0 n cap0, .slice a1 m cap1] w (Tells (.bool true) w) := by
  have HT : Aside (Tabs w ∧ Is w a0 l ∧ n = l.length ∧ Is w a1 l' ∧ m = l'.length) := ⟨hT, hb, hn, hb1, hm⟩
  have K1 := Lib.hid (knew_run (Stp.refl [] w))
  clear hT hb hn hb1 hm hnn hmm
  have HD : (decide (300 < (n : Int)) = true ∨ decide (300 < (n : Int)) = false) := by cases decide (300 < (n : Int)) <;> simp
  have HE : (decide (300 < (m : Int)) = true ∨ decide (300 < (m : Int)) = false) := by cases decide (300 < (m : Int)) <;> simp
  go_enter Tryd.func7, Tryd.ntmps7
  go_wp2_with fail
  refine K1.out.mono ?_
  rintro _ w1 ⟨s, F, rfl, k1, hF, t1⟩
  have H1 : Aside (Ks w w1 s F []) := k1
  clear K1 k1 hF t1
  go_wp2_with fail
  have H2 : Aside (TyR w (w1.alloc (Obj.cells #[Value.pointer (some ⟨s, 0, none⟩)] 23)) w1.heap.size s F sn0 0) :=
    ⟨⟨[], H1.out.stays (Stp.alloc [] w1 _), rfl, rfl, by simp⟩, H1.out.stp.size, fun h => by have := H1.out.lt _ h; omega, by simp, by rw [cell_of_row _ _ _ _ _ _ (heap_alloc_new w1 _)]; rfl⟩
  generalize hW : w1.alloc (Obj.cells #[Value.pointer (some ⟨s, 0, none⟩)] 23) = w2 at *
  clear hW H1
  generalize w1.heap.size = bs at *
  have KA := Lib.hid (alive_run w2 (HT.out.1.stays H2.out.stp))
  refine KA.out.mono ?_
  rintro _ w3 ⟨rfl, s3⟩
  have H3 : Aside (TyR w w3 bs s F sn0 0) := H2.out.stays s3
  clear KA H2 s3
  have c3 := H3.out.cl
  have KA := Lib.hid (alive_run w3 (HT.out.1.stays H3.out.stp))
  rcases HD with hd | hd
  · go_wp2_with fail
    refine KA.out.mono ?_
    rintro _ w4 ⟨rfl, s4⟩
    have H4 : Aside (Stp [] w [] w4) := H3.out.stp.trans s4
    clear H3 s4 KA
    go_wp2
    go_ret
    exact ⟨rfl, H4.out⟩
  rcases HE with he | he
  · go_wp2_with fail
    refine KA.out.mono ?_
    rintro _ w4 ⟨rfl, s4⟩
    have H4 : Aside (Stp [] w [] w4) := H3.out.stp.trans s4
    clear H3 s4 KA
    go_wp2
    go_ret
    exact ⟨rfl, H4.out⟩
  clear KA
  have hn3 : n ≤ 300 := by have := of_decide_eq_false hd; omega
  have hm3 : m ≤ 300 := by have := of_decide_eq_false he; omega
  clear hd he
  have KL := Lib.hid (lay_run H3.out HT.out.1 a0 n cap0 l HT.out.2.1 HT.out.2.2.1 hn3 (by omega))
  go_wp2_with fail
  refine KL.out.mono ?_
  rintro _ w4 ⟨v4, F4, rfl, o4, t4, s4, b4⟩
  obtain ⟨X, hX⟩ : ∃ X, X = shw l := ⟨_, rfl⟩
  have hXl : X.length ≤ 300 := by have := shw_len l; have := HT.out.2.2.1; rw [hX]; omega
  have hXp : Pr X := hX ▸ shw_pr l
  rw [← hX] at o4 t4
  have et : typ sn0 X = ⟨[], X, X.length, 0, false, 0⟩ := by
    have := typ_mid [] 0 false 0 X [] []
    simpa [sn0] using this
  rw [et] at t4
  obtain ⟨a4, c4', e4, hi4, hz4, hl4, hb4⟩ := OwnI.its o4
  subst e4
  have H4 : Aside (TyR w w4 bs s F4 ⟨[], X, X.length, 0, false, 0⟩ (0 + 4 * n) ∧ U.OwnI w4 w3.heap.size (.slice a4 X.length c4') X ∧ (∀ k, (Value.slice a4 X.length c4').ownBlock = some k → k ∉ F4) ∧ Pr X) := ⟨t4, o4, b4, hXp⟩
  have cl4 := t4.cl
  obtain ⟨tx, hsay, htx⟩ := t4.says (by omega)
  have HY := Lib.hid hsay
  have htx0 : tx 0 = st (fl X) := htx 0
  have KR := Lib.hid (hsay.row _ (Stp.refl _ _) 0 (by simp))
  rw [htx0] at KR
  have KT := Lib.hid (fun W' (hs : Stp [] w4 [] W') => rtx_run a4 X.length c4' X W' (hi4.stays hs) rfl (by omega) hXp)
  have HXl := Lib.hid (And.intro hX hXl)
  clear KL o4 t4 s4 b4 hX et hi4 hb4 hXp hsay htx htx0 H3 c3 hz4 hl4
  generalize st (fl X) = x1 at *
  generalize X.length = nx at *
  go_wp2_with fail
  refine KR.out.mono ?_
  rintro _ w5 ⟨rfl, s5⟩
  go_wp2_with fail
  refine (KT.out _ s5).mono ?_
  rintro _ w6 ⟨rfl, s6⟩
  replace s6 := s5.trans s6
  have H6 : Aside (Stp [] w4 [] w6) := s6
  have cl6 := s6.keeps rfl cl4
  clear KR KT s5 s6 cl4
  go_wp2_with fail
  have KF := Lib.hid ((H4.out.1.stays (H6.out.trans (Stp.alloc [] w6 _))).feed HT.out.1 (S' := ⟨[], X, 0, 0, false, 0⟩) (fun L e1 e2 => by
    have := seen_back0 e2
    rw [e1] at this
    exact this) (some ⟨w6.heap.size, 0, none⟩) 1 1 (Blk.bts (C := [13]) (heap_alloc_new w6 _)) rfl (fun h => by cases h) (by simp; omega))
  refine KF.out.mono ?_
  rintro _ w7 ⟨rfl, F7, t7, s7⟩
  have H7 : Aside (TyR w w7 bs s F7 ⟨[], X, 0, 0, false, 0⟩ (0 + 4 * n + 1) ∧ U.OwnI w7 w3.heap.size (.slice a4 nx c4') X ∧ (∀ k, (Value.slice a4 nx c4').ownBlock = some k → k ∉ F7) ∧ Pr X) := by
    obtain ⟨_, o4, b4, p4⟩ := H4.out
    refine ⟨t7, OwnI.other (OwnI.other o4 (H6.out.trans (Stp.alloc [] w6 _)) (fun _ _ h => by cases h)) s7 b4, fun k hk hj => ?_, p4⟩
    rcases s7.foot k hj with g | g
    · exact b4 k hk g
    · have h1 := (World.ownsRow.lt o4 k hk).2
      have h2 := H6.out.size
      rw [World.size_alloc] at g
      omega
  clear KF H4 H6 HY cl6 s7 t7
  have KL := Lib.hid (lay_run H7.out.1 HT.out.1 a1 m cap1 l' HT.out.2.2.2.1 HT.out.2.2.2.2 hm3 (by omega))
  go_wp2_with fail
  refine KL.out.mono ?_
  rintro _ w8 ⟨v8, F8, rfl, o8, t8, s8, b8⟩
  obtain ⟨Y, hY⟩ : ∃ Y, Y = shw l' := ⟨_, rfl⟩
  have hYl : Y.length ≤ 300 := by have := shw_len l'; have := HT.out.2.2.2.2; rw [hY]; omega
  have hYp : Pr Y := hY ▸ shw_pr l'
  rw [← hY] at o8 t8
  have et : typ ⟨[], X, 0, 0, false, 0⟩ Y = ⟨[], Y ++ X.drop Y.length, Y.length, 0, false, 0⟩ := by
    have := typ_mid [] 0 false 0 Y [] X
    simpa using this
  rw [et] at t8
  obtain ⟨a8, c8, e8, hi8, hz8, hl8, hb8⟩ := OwnI.its o8
  subst e8
  have H8 : Aside (TyR w w8 bs s F8 ⟨[], Y ++ X.drop Y.length, Y.length, 0, false, 0⟩ (0 + 4 * n + 1 + 4 * m) ∧ U.OwnI w8 w3.heap.size (.slice a4 nx c4') X ∧ Its w8 a8 Y ∧ (a8 = none → c8 = 0) ∧ Pr X ∧ Pr Y) := ⟨t8, OwnI.other H7.out.2.1 s8 H7.out.2.2.1, hi8, hz8, H7.out.2.2.2, hYp⟩
  have HYl := Lib.hid hYl
  obtain ⟨ny, hny⟩ : ∃ ny, ny = Y.length := ⟨_, rfl⟩
  have HN := Lib.hid hny
  rw [← hny] at H8 hYl ⊢
  clear KL H7 s8 b8 hY et hi8 hz8 hl8 hb8 hYp o8 t8 hny
  have hnx : nx ≤ 300 := by have := HXl.out.2; exact this
  have hnx2 : (nx : Int) ≤ 300 := by omega
  have hny2 : (ny : Int) ≤ 300 := by omega
  have HXn : Aside (X.length = nx) := by
    obtain ⟨_, cc, ee, _⟩ := OwnI.its H8.out.2.1
    show X.length = nx
    cases ee
    rfl
  have HO : Aside (Pr (Y ++ X.drop ny) ∧ (∀ j ∈ F8, j < w8.heap.size) ∧ bs < w8.heap.size ∧ w.heap.size ≤ w8.heap.size) :=
    ⟨H8.out.2.2.2.2.2.app (fun c hc => H8.out.2.2.2.2.1 c (List.mem_of_mem_drop hc)), fun j hj => (H8.out.1.low j hj).2, H8.out.1.lt, H8.out.1.stp.size⟩
  have first_app : ∀ (v9 : Value) (w9 : World), U.OwnI w9 w8.heap.size v9 Y → Stp (Value.slice (some ⟨w8.heap.size, 0, none⟩) 0 0).ownBlock.toList (w8.alloc (.cells #[] 3)) [] w9 →
      TyR w w9 bs s F8 ⟨[], Y ++ X.drop ny, ny, 0, false, 0⟩ (0 + 4 * n + 1 + 4 * m) ∧ U.OwnI w9 w3.heap.size (.slice a4 nx c4') X ∧ w8.heap.size ≤ w9.heap.size := by
    intro v9 w9 ho9 hs9
    obtain ⟨t8, o8, _⟩ := H8.out
    have hone : ∀ j ∈ (Value.slice (some ⟨w8.heap.size, 0, none⟩) 0 0).ownBlock.toList, j = w8.heap.size := fun j hj => by
      simp [Value.ownBlock] at hj
      exact hj
    refine ⟨(t8.stays (Stp.alloc [] w8 _)).other hs9 (fun j hj => ?_), OwnI.other (OwnI.other o8 (Stp.alloc [] w8 _) (fun _ _ h => by cases h)) hs9 (fun k hk2 hj => ?_), by have := hs9.size; rw [World.size_alloc] at this; omega⟩
    · rw [hone j hj]
      refine ⟨t8.stp.size, fun g => ?_, fun g => ?_⟩
      · have := (t8.low _ g).2
        omega
      · have := t8.lt
        omega
    · have h1 := (World.ownsRow.lt o8 k hk2).2
      rw [hone k hj] at h1
      omega
  have HF := Lib.hid first_app
  have H8' : Aside (Its w8 a8 Y ∧ (a8 = none → c8 = 0)) := ⟨H8.out.2.2.1, H8.out.2.2.2.1⟩
  clear first_app H8
  by_cases hgt : ny < nx
  · have hgtz : (ny : Int) < (nx : Int) := by omega
    have hcut := cutI_l a4 nx c4' ny (by omega)
    have hnz : nx - ny ≤ 300 := by omega
    go_wp2_with (first
      | (at_builtin; refine wpList_appN2 rfl (.tmp 45) (.tmp 46) rfl w8.heap.size (.slice (some ⟨w8.heap.size, 0, none⟩) 0 0) [] rfl (OwnI.new w8) a8 c8 ny Y HN.out rfl (H8'.out.1.stays (Stp.alloc [] w8 _)) H8'.out.2 (by have := HYl.out; simp; omega) (by simp) ?_
         intro v9 w9 ho9 hs9 hbl9
         rw [List.nil_append] at ho9
         have H9 : Aside (TyR w w9 bs s F8 ⟨[], Y ++ X.drop ny, ny, 0, false, 0⟩ (0 + 4 * n + 1 + 4 * m) ∧ U.OwnI w9 w8.heap.size v9 Y ∧ w8.heap.size ≤ w9.heap.size) := ⟨(HF.out v9 w9 ho9 hs9).1, ho9, (HF.out v9 w9 ho9 hs9).2.2⟩
         go_loud (
           have H9' : Aside (Its w9 (cutp a4 ny c4') (X.drop ny) ∧ (cutp a4 ny c4' = none → c4' - ny = 0) ∧ (X.drop ny).length = nx - ny) := by
             obtain ⟨a, c, e, h1, h2, h3, _⟩ := OwnI.its (HF.out v9 w9 ho9 hs9).2.1
             cases e
             have h4 := HXn.out
             exact ⟨h1.tail (by omega) (by omega), cutp_none h2, by rw [List.length_drop]⟩)
         clear ho9 hs9 hbl9)
      | (at_builtin; go_loud (refine wpList_appN2 rfl (.tmp 53) (.tmp 57) rfl w8.heap.size v9 Y rfl H9.out.2.1 (cutp a4 ny c4') (c4' - ny) (nx - ny) (X.drop ny) H9'.out.2.2.symm rfl H9'.out.1 H9'.out.2.1 (by have := H9'.out.2.2; have := HYl.out; omega) H9.out.2.2 ?_)
         intro v10 w10 ho10 hs10 hbl10
         have HE : Aside (TyE w w10 bs s ny v10 (Y ++ X.drop ny)) := by
           obtain ⟨t9, o9', hsz⟩ := H9.out
           obtain ⟨a, c, e, h1, _⟩ := OwnI.its ho10
           obtain ⟨hX, hlow8, hbs8, hE8⟩ := HO.out
           refine ⟨⟨F8, _, t9.other hs10 (fun j hj => ?_), by omega⟩, ⟨a, c, e, h1⟩, hX, by have := H9'.out.2.2; have := HYl.out; simp only [List.length_append]; omega⟩
           have hj2 := (World.ownsRow.lt o9' j (by simpa using hj)).1
           exact ⟨by omega, fun g => by have := hlow8 j g; omega, fun g => by omega⟩
         obtain ⟨af, nf, cf, x2, rfl, hsy⟩ := HE.out.says
         have HY := Lib.hid hsy
         have k0 := hsy.cl _ (Stp.refl _ _)
         clear hsy HE H9 H9' ho10 hs10 hbl10 hcut))
    refine (HY.out.place _ (Stp.refl _ _)).mono ?_
    rintro _ wa ⟨rfl, sa⟩
    have k1 := HY.out.cl _ sa
    go_wp2_with fail
    refine (HY.out.row _ sa).mono ?_
    rintro _ wb ⟨rfl, sb⟩
    replace sb := sa.trans sb
    have k2 := HY.out.cl _ sb
    go_wp2_with fail
    refine (HY.out.text _ sb).mono ?_
    rintro _ wc ⟨rfl, sc⟩
    replace sc := sb.trans sc
    have k3 := HY.out.cl _ sc
    go_wp2_with fail
    refine (HY.out.odd _ sc).mono ?_
    rintro _ wd ⟨rfl, sd⟩
    replace sd := sc.trans sd
    have k4 := HY.out.cl _ sd
    go_wp2_with fail
    refine (HY.out.rows _ sd).mono ?_
    rintro _ we ⟨rfl, se⟩
    go_wp2_with fail
    go_ret
    exact ⟨by simp, (HY.out.stp.trans sd).trans se⟩
  · have hgtz : ¬ (ny : Int) < (nx : Int) := by omega
    go_wp2_with (at_builtin; refine wpList_appN2 rfl (.tmp 45) (.tmp 46) rfl w8.heap.size (.slice (some ⟨w8.heap.size, 0, none⟩) 0 0) [] rfl (OwnI.new w8) a8 c8 ny Y HN.out rfl (H8'.out.1.stays (Stp.alloc [] w8 _)) H8'.out.2 (by have := HYl.out; simp; omega) (by simp) ?_; intro v9 w9 ho9 hs9 hbl9; rw [List.nil_append] at ho9; have HE : Aside (TyE w w9 bs s ny v9 (Y ++ X.drop ny)) := (by
      obtain ⟨a, c, e, h1, _⟩ := OwnI.its ho9
      have h4 : X.drop ny = [] := List.drop_eq_nil_of_le (by have : X.length = nx := HXn.out; omega)
      have h5 := (HF.out v9 w9 ho9 hs9).1
      have h6 := HO.out.1
      rw [h4, List.append_nil] at h5 h6 ⊢
      exact ⟨⟨F8, _, h5, by omega⟩, ⟨a, c, e, h1⟩, h6, by have := HYl.out; omega⟩); obtain ⟨af, nf, cf, x2, rfl, hsy⟩ := HE.out.says; have HY := Lib.hid hsy; have k0 := hsy.cl _ (Stp.refl _ _); clear hsy HE ho9 hs9 hbl9)
    refine (HY.out.place _ (Stp.refl _ _)).mono ?_
    rintro _ wa ⟨rfl, sa⟩
    have k1 := HY.out.cl _ sa
    go_wp2_with fail
    refine (HY.out.row _ sa).mono ?_
    rintro _ wb ⟨rfl, sb⟩
    replace sb := sa.trans sb
    have k2 := HY.out.cl _ sb
    go_wp2_with fail
    refine (HY.out.text _ sb).mono ?_
    rintro _ wc ⟨rfl, sc⟩
    replace sc := sb.trans sc
    have k3 := HY.out.cl _ sc
    go_wp2_with fail
    refine (HY.out.odd _ sc).mono ?_
    rintro _ wd ⟨rfl, sd⟩
    replace sd := sc.trans sd
    have k4 := HY.out.cl _ sd
    go_wp2_with fail
    refine (HY.out.rows _ sd).mono ?_
    rintro _ we ⟨rfl, se⟩
    go_wp2_with fail
    go_ret
    exact ⟨by simp, (HY.out.stp.trans sd).trans se⟩
end Go.Proofs.YtdaenaoagejgeaaDoor
