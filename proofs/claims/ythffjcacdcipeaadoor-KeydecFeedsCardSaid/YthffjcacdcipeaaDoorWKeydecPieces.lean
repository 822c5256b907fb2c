/-
  The walk of KeydecPieces: in whatever pieces bytes come, the keys and what is held are the same.
-/
import Derived.Test.YthffjcacdcipeaaDoorWKeydecResets
import Derived.Test.YthffjcacdcipeaaDoorArgs
namespace Go.Proofs.YthffjcacdcipeaaDoor
open Go.RowKit Go.Lib
set_option linter.unusedVariables false

/-- What stands in the round: the keys so far; the decoder that has had all at once; the other one; the row of the first one's keys. -/
structure Rnd (w wr : World) (B : Nat) (d b g d' b' g' : Nat) (F : Rd) (a9 : Option Addr) (v11 : Value) (l : List UInt8) (P : Nat) : Prop where
  all : Kd w wr d b g F.h F.p
  one : Kd w wr d' b' g' (rd false (l.take P)).h (rd false (l.take P)).p
  row : KOwn wr B v11 (rd false (l.take P)).ks
  want : Kts wr a9 F.ks
  far : ∀ ad, a9 = some ad → ad.block < B ∧ ad.block ≠ d' ∧ ad.block ≠ b' ∧ ad.block ≠ g'
  low : w.heap.size ≤ B ∧ d < B ∧ b < B ∧ g < B ∧ d' < B ∧ b' < B ∧ g' < B ∧ B ≤ wr.heap.size
  ap : Ap d b g d' b' g'
theorem Rnd.feed {w wr w' : World} {B d b g d' b' g' P k : Nat} {F : Rd} {a9 : Option Addr} {v11 v : Value} {l : List UInt8} {ks : List Ky} {Q : Rd} (h : Rnd w wr B d b g d' b' g' F a9 v11 l P)
    (hQ : Q = rd (rd false (l.take P)).p ((rd false (l.take P)).h ++ (l.drop P).take k)) (hk : TkAt wr d' b' g' 40 v ks Q.h Q.p w') :
    Kd w w' d b g F.h F.p ∧ Kd w w' d' b' g' Q.h Q.p ∧ KOwn w' B v11 (rd false (l.take P)).ks ∧ Kts w' a9 F.ks ∧ wr.heap.size ≤ w'.heap.size := by
  refine ⟨h.all.apart hk.stp h.one.new h.ap, ?_, h.row.other hk.stp (fun j hj => ?_), h.want.other hk.stp (fun _ ad e => ?_), hk.stp.size⟩
  · subst hQ
    exact h.one.fed hk
  · have h1 := (h.row.lt j hj).1
    have h2 := h.low
    simp
    omega
  · have h1 := h.far ad e
    simp [h1.2.1, h1.2.2.1, h1.2.2.2]
theorem rd_cut (l : List UInt8) (P k : Nat) : rd false (l.take (P + k)) = ⟨(rd false (l.take P)).ks ++ (rd (rd false (l.take P)).p ((rd false (l.take P)).h ++ (l.drop P).take k)).ks, (rd (rd false (l.take P)).p ((rd false (l.take P)).h ++ (l.drop P).take k)).h, (rd (rd false (l.take P)).p ((rd false (l.take P)).h ++ (l.drop P).take k)).p⟩ := by
  rw [List.take_add, rd_app]
theorem kts_grew {W W' : World} {a : Option Addr} {L : List Ky} {row : Option Nat} (h : Kts W a L) (hg : W.grownBy W' row) (hr : ∀ k, row = some k → ∀ ad, a = some ad → ad.block ≠ k) : Kts W' a L :=
  h.other (grown_stp (F := row.toList) (F' := row.toList) hg (fun k e => by simp [e]) (fun k hk => hk)) (fun _ ad e hm => hr ad.block (by simpa using hm) ad e rfl)
theorem kd_grew {w W W' : World} {d b g : Nat} {l : List UInt8} {p : Bool} {row : Option Nat} (h : Kd w W d b g l p) (hg : W.grownBy W' row) (hr : ∀ k, row = some k → w.heap.size ≤ k ∧ k ≠ d ∧ k ≠ b ∧ k ≠ g) : Kd w W' d b g l p :=
  h.other (grown_stp (F := row.toList) (F' := row.toList) hg (fun k e => by simp [e]) (fun k hk => hk)) (fun k hk => hr k (by simpa using hk))
set_option maxHeartbeats 2000000 in
set_option maxRecDepth 100000 in
theorem pieces_walk (a0 : Option Addr) (cap0 n : Nat) (l : List UInt8) (a1 : Option Addr) (cap1 m : Nat) (cs : List Int) (w : World) (hb : Bts w a0 l) (hn : n = l.length) (hcap : l.length ≤ cap0) (hmx : cap0 ≤ maxLen) (hz : a0 = none → cap0 = 0)
    (hb1 : Is w a1 cs) (hm : m = cs.length) (hmm : cs.length ≤ 9223372036854775807) (hT : U.Tabs w) :
    Calls Tryd.prog 5 #[.slice a0 n cap0, .slice a1 m cap1] w (Tells (.bool true) w) := by
  have HT : Aside (U.Tabs w ∧ Bts w a0 l ∧ n = l.length ∧ Is w a1 cs ∧ m = cs.length ∧ l.length ≤ cap0 ∧ cap0 ≤ maxLen) := ⟨hT, hb, hn, hb1, hm, hcap, hmx⟩
  have KB := Lib.hid (begin_run w (utabs_size hT))
  clear hT hb hn hb1 hm hcap hmx hz hmm
  have HD : (decide (1500 < (n : Int)) = true ∨ decide (1500 < (n : Int)) = false) := by cases decide (1500 < (n : Int)) <;> simp
  have HE : (decide (60 < (m : Int)) = true ∨ decide (60 < (m : Int)) = false) := by cases decide (60 < (m : Int)) <;> simp
  go_enter Tryd.func5, Tryd.ntmps5
  go_wp2_with fail
  refine KB.out.mono ?_
  intro e w1 hb
  obtain ⟨d, b, g, rfl, hk⟩ := hb.kd
  clear KB hb
  have H1 : Aside (Kd w w1 d b g [] false) := hk
  have KB := Lib.hid (begin_run w1 (by have := hk.stp.size; have := utabs_size HT.out.1; omega))
  clear hk
  go_wp2_with fail
  refine KB.out.mono ?_
  intro e w2 hb
  obtain ⟨d', b', g', rfl, hk⟩ := hb.kd
  clear KB hb
  have H2 : Aside (Kd w w2 d b g [] false ∧ Kd w w2 d' b' g' [] false ∧ Ap d b g d' b' g') := by
    have h1 := H1.out
    have h2 := h1.stp.size
    have h3 := hk.new
    have h4 := h1.dc.lt
    refine ⟨h1.stays hk.stp, ⟨hk.dc, h1.stp.trans hk.stp, by omega, rfl⟩, fun k hk => ?_⟩
    simp at hk
    omega
  clear H1 hk
  go_wp2_with fail
  refine (alive_run w2 (H2.out.1.tabs HT.out.1)).mono ?_
  rintro _ w3 ⟨rfl, s3⟩
  have H3 : Aside (Kd w w3 d b g [] false ∧ Kd w w3 d' b' g' [] false ∧ Ap d b g d' b' g') := ⟨H2.out.1.stays s3, H2.out.2.1.stays s3, H2.out.2.2⟩
  clear H2 s3
  rcases HD with hd | hd
  · go_wp2_with fail
    refine (alive_run w3 (H3.out.1.tabs HT.out.1)).mono ?_
    rintro _ w4 ⟨rfl, s4⟩
    have H4 : Aside (Stp [] w [] w4) := H3.out.1.stp.trans s4
    clear H3 s4
    go_wp2
    go_ret
    exact ⟨rfl, H4.out⟩
  rcases HE with he | he
  · go_wp2_with fail
    refine (alive_run w3 (H3.out.1.tabs HT.out.1)).mono ?_
    rintro _ w4 ⟨rfl, s4⟩
    have H4 : Aside (Stp [] w [] w4) := H3.out.1.stp.trans s4
    clear H3 s4
    go_wp2
    go_ret
    exact ⟨rfl, H4.out⟩
  have HM : Aside (n ≤ 1500 ∧ m ≤ 60) := ⟨by have := of_decide_eq_false hd; omega, by have := of_decide_eq_false he; omega⟩
  have KF := Lib.hid (feed_old H3.out.1 HT.out.1 a0 n cap0 l HT.out.2.1 HT.out.2.2.1 (by have := HM.out; omega))
  obtain ⟨R, hR⟩ : ∃ R, R = rd false ([] ++ l) := ⟨_, rfl⟩
  have HR : Aside (R = rd false l) := hR
  rw [← hR] at KF
  clear hR
  go_wp2_with fail
  refine KF.out.mono ?_
  rintro _ w4 ⟨v4, rfl, h4⟩
  obtain ⟨a4, c4, rfl, hk4, _, _, hb4⟩ := h4.row.form
  have H4 : Aside (Rnd w w4 w4.heap.size d b g d' b' g' R a4 (.slice none 0 0) l 0) := by
    have h5 := H3.out.1.dc.lt
    have h6 := H3.out.2.1.dc.lt
    have h7 := h4.stp.size
    have h8 := H3.out.1.stp.size
    have hall : Kd w w4 d b g R.h R.p := by
      have h9 := h4
      have e9 : R = rd false ([] ++ l) := HR.out
      rw [e9] at h9 ⊢
      exact H3.out.1.fed h9
    refine ⟨hall, ?_, KOwn.nil _ _, hk4, fun ad e => ?_, by omega, H3.out.2.2⟩
    · rw [List.take_zero, rd_nil]
      exact H3.out.2.1.apart h4.stp H3.out.1.new H3.out.2.2.symm
    · have := hb4 ad e
      omega
  clear KF h4 hk4 hb4
  generalize w4.heap.size = B at *
  have hm60 : (m : Int) ≤ 60 := by have := HM.out; omega
  have HL : Aside (n ≤ cap0) := by
    show n ≤ cap0
    rw [HT.out.2.2.1]
    exact HT.out.2.2.2.2.2.1
  go_wp2_with fail
  go_loopg [11, 12, 58] m (fun gk v11 v12 vi wr => ∃ (k P r cP : Nat) (aP : Option Addr), vi = .int .i64 (k : Int) ∧ v12 = .slice aP r cP ∧ k ≤ m ∧ m - k ≤ gk ∧ r ≤ 1500 ∧ r ≤ cP ∧ Aside (P + r = n ∧ Bts w aP (l.drop P) ∧ Rnd w wr B d b g d' b' g' R a4 v11 l P))
  case atStart => exact ⟨0, 0, n, cap0, a0, rfl, rfl, by omega, by omega, HM.out.1, HL.out, by omega, HT.out.2.1, H4.out⟩
  case round =>
    obtain ⟨k, P, r, cP, aP, rfl, rfl, hk, hg, hr, hrc, HS⟩ := hrel
    by_cases hlt : k < m
    · have hltz : (k : Int) < (m : Int) := by omega
      obtain ⟨bb, off, rfl, hbb, hcc⟩ := HT.out.2.2.2.1 (by intro e; have h1 := HT.out.2.2.2.2.1; rw [e] at h1; simp at h1; omega)
      have hcell : wr.cell? ⟨bb, off + k, none⟩ = some (.int .i64 (cs[k]!)) := (HS.out.2.2.all.stp.cell (a := ⟨bb, off + k, none⟩) hbb (by simp)).trans (hcc k (by rw [← HT.out.2.2.2.2.1]; exact hlt))
      clear hcc
      generalize cs[k]! = c at *
      obtain ⟨z, hz⟩ : ∃ z, z = c % 18446744073709551616 := ⟨_, rfl⟩
      have e1 : IntKind.u64.wrap c = z := by rw [hz, IntKind.wrap_u64]
      have e2 : 0 ≤ z := by omega
      have e3 : z < 18446744073709551616 := by omega
      have e4 : IntKind.u64.wrap ((r : Int) + 1) = (r : Int) + 1 := by rw [IntKind.wrap_u64]; omega
      have e5 : IntKind.i64.wrap ((r : Int) + 1) = (r : Int) + 1 := by rw [IntKind.wrap_i64]; omega
      clear hz
      obtain ⟨j, hj⟩ : ∃ j : Nat, z % ((r : Int) + 1) = (j : Int) := ⟨(z % ((r : Int) + 1)).toNat, by
        have := Int.emod_nonneg z (show ((r : Int) + 1) ≠ 0 by omega)
        omega⟩
      have hjr : j ≤ r := by
        have := Int.emod_lt_of_pos z (show 0 < ((r : Int) + 1) by omega)
        omega
      have e6 : IntKind.i64.wrap (j : Int) = (j : Int) := by rw [IntKind.wrap_i64]; omega
      have s1 := cut_h aP r cP j (by omega)
      have s2 := cut_l aP r cP j hjr
      have HD : Aside ((l.drop P).length = r) := by
        show (l.drop P).length = r
        rw [List.length_drop]
        have := HS.out.1
        have := HT.out.2.2.1
        omega
      obtain ⟨Q, hQ⟩ : ∃ Q, Q = rd (rd false (l.take P)).p ((rd false (l.take P)).h ++ (l.drop P).take j) := ⟨_, rfl⟩
      have KG := Lib.hid (feed_old HS.out.2.2.one HT.out.1 aP j cP ((l.drop P).take j) (take_bts HS.out.2.1 j (by rw [HD.out]; exact hjr)) (by rw [List.length_take, HD.out]; omega) (by omega))
      rw [← hQ] at KG
      have HQ := Lib.hid hQ
      clear hQ
      go_wp2_with fail
      refine KG.out.mono ?_
      rintro _ w5 ⟨v5, rfl, h5⟩
      obtain ⟨a5, c5, rfl, hk5, hz5, _, _⟩ := h5.row.form
      have H5 : Aside ((Kd w w5 d b g R.h R.p ∧ Kd w w5 d' b' g' Q.h Q.p ∧ KOwn w5 B u11 (rd false (l.take P)).ks ∧ Kts w5 a4 R.ks ∧ wr.heap.size ≤ w5.heap.size) ∧ Kts w5 a5 Q.ks ∧ (a5 = none → c5 = 0)) := ⟨HS.out.2.2.feed HQ.out h5, hk5, hz5⟩
      have HX : Aside ((rd false (l.take P)).ks.length + Q.ks.length ≤ 1500 ∧ B ≤ w5.heap.size) := by
        have h1 := rd_len false (l.take (P + j))
        have h2 := H5.out.1.2.2.2.2
        have h3 := HS.out.2.2.low
        have h4 := HS.out.1
        have h6 := HM.out.1
        have h7 : (l.take (P + j)).length ≤ P + j := by rw [List.length_take]; omega
        rw [rd_cut, ← HQ.out] at h1
        simp only [List.length_append] at h1
        exact ⟨by omega, by omega⟩
      clear KG h5 hk5 hz5 hcell
      go_wp2_with (at_builtin; refine wpList_appK rfl (.tmp 78) (.tmp 79) rfl B u11 (rd false (l.take P)).ks rfl H5.out.1.2.2.1 a5 c5 Q.ks.length Q.ks rfl rfl H5.out.2.1 H5.out.2.2 (by have := HX.out.1; omega) HX.out.2 ?_; intro v' w6 hrow hgrow)
      have H6 : Aside (P + j + (r - j) = n ∧ Bts w (cutp aP j cP) (l.drop (P + j)) ∧ Rnd w w6 B d b g d' b' g' R a4 v' l (P + j)) := by
        have hro := fun k hk => (H5.out.1.2.2.1.lt k hk).1
        have hlow := HS.out.2.2.low
        have hsz := hgrow.size
        have hxb := HX.out.2
        refine ⟨by have := HS.out.1; omega, ?_, ?_⟩
        · have h1 := HS.out.2.1.cut (i := j) (j := r) (N := cP) hjr (by rw [HD.out]; exact Nat.le_refl _) (by rw [HD.out]; exact hrc)
          rw [List.drop_drop, List.take_of_length_le (by rw [← List.drop_drop, List.length_drop, HD.out]; exact Nat.le_refl _)] at h1
          exact h1
        · refine ⟨kd_grew H5.out.1.1 hgrow (fun k hk => by have := hro k hk; omega), ?_, ?_, kts_grew H5.out.1.2.2.2.1 hgrow (fun k hk ad e => by have := hro k hk; have := (HS.out.2.2.far ad e).1; omega), HS.out.2.2.far, by omega, HS.out.2.2.ap⟩
          · rw [rd_cut, ← HQ.out]
            exact kd_grew H5.out.1.2.1 hgrow (fun k hk => by have := hro k hk; omega)
          · rw [rd_cut, ← HQ.out]
            exact hrow
      clear hrow hgrow H5 HX HS
      go_roundg (m - (k + 1))
      case measure => omega
      case rel => exact ⟨k + 1, P + j, r - j, cP - j, cutp aP j cP, by go_num, rfl, by omega, by omega, by omega, by omega, H6.out⟩
    · have hltz : ¬ (k : Int) < (m : Int) := by omega
      have HD : Aside ((l.drop P).length = r) := by
        show (l.drop P).length = r
        rw [List.length_drop]
        have := HS.out.1
        have := HT.out.2.2.1
        omega
      have et : (l.drop P).take r = l.drop P := List.take_of_length_le (by rw [HD.out]; exact Nat.le_refl _)
      obtain ⟨Q, hQ⟩ : ∃ Q, Q = rd (rd false (l.take P)).p ((rd false (l.take P)).h ++ (l.drop P).take r) := ⟨_, rfl⟩
      have KG := Lib.hid (feed_old HS.out.2.2.one HT.out.1 aP r cP ((l.drop P).take r) (by rw [et]; exact HS.out.2.1) (by rw [et, HD.out]) (by omega))
      rw [← hQ] at KG
      have HQ := Lib.hid hQ
      clear hQ et
      go_wp2_with fail
      refine KG.out.mono ?_
      rintro _ w5 ⟨v5, rfl, h5⟩
      obtain ⟨a5, c5, rfl, hk5, hz5, _, _⟩ := h5.row.form
      have H5 : Aside ((Kd w w5 d b g R.h R.p ∧ Kd w w5 d' b' g' Q.h Q.p ∧ KOwn w5 B u11 (rd false (l.take P)).ks ∧ Kts w5 a4 R.ks ∧ wr.heap.size ≤ w5.heap.size) ∧ Kts w5 a5 Q.ks ∧ (a5 = none → c5 = 0)) := ⟨HS.out.2.2.feed HQ.out h5, hk5, hz5⟩
      have HX : Aside ((rd false (l.take P)).ks.length + Q.ks.length ≤ 1500 ∧ B ≤ w5.heap.size ∧ R = ⟨(rd false (l.take P)).ks ++ Q.ks, Q.h, Q.p⟩) := by
        have h1 := rd_len false (l.take (P + r))
        have h2 := H5.out.1.2.2.2.2
        have h3 := HS.out.2.2.low
        have h4 := HS.out.1
        have h6 := HM.out.1
        have h7 : (l.take (P + r)).length ≤ P + r := by rw [List.length_take]; omega
        have h8 : l.take (P + r) = l := List.take_of_length_le (by rw [h4, HT.out.2.2.1]; exact Nat.le_refl _)
        have h9 := rd_cut l P r
        rw [← HQ.out] at h9
        rw [h9] at h1
        simp only [List.length_append] at h1
        refine ⟨by omega, by omega, ?_⟩
        have e9 : R = rd false l := HR.out
        rw [e9, ← h9, h8]
      clear KG h5 hk5 hz5
      go_wp2_with (at_builtin; refine wpList_appK rfl (.tmp 91) (.tmp 92) rfl B u11 (rd false (l.take P)).ks rfl H5.out.1.2.2.1 a5 c5 Q.ks.length Q.ks rfl rfl H5.out.2.1 H5.out.2.2 (by have := HX.out.1; omega) HX.out.2.1 ?_; intro v' w6 hrow hgrow; have HF := hrow.form; obtain ⟨a6, c6, ev, hk6, _, _, _⟩ := HF; subst ev)
      have H6 : Aside (Kd w w6 d b g R.h R.p ∧ Kd w w6 d' b' g' R.h R.p ∧ Kts w6 a6 R.ks ∧ Kts w6 a4 R.ks ∧ (rd false (l.take P)).ks.length + Q.ks.length = R.ks.length) := by
        have hro := fun k hk => (H5.out.1.2.2.1.lt k hk).1
        have hlow := HS.out.2.2.low
        have eR := HX.out.2.2
        have e1 : R.ks = (rd false (l.take P)).ks ++ Q.ks := by rw [eR]
        have e2 : R.h = Q.h := by rw [eR]
        have e3 : R.p = Q.p := by rw [eR]
        refine ⟨kd_grew H5.out.1.1 hgrow (fun k hk => by have := hro k hk; omega), ?_, by rw [e1]; exact hk6, kts_grew H5.out.1.2.2.2.1 hgrow (fun k hk ad e => by have := hro k hk; have := (HS.out.2.2.far ad e).1; omega), by rw [e1, List.length_append]⟩
        rw [e2, e3]
        exact kd_grew H5.out.1.2.1 hgrow (fun k hk => by have := hro k hk; omega)
      have hx := HX.out.1
      have KS : Hid (Calls Tryd.prog 15 #[.slice a6 ((rd false (l.take P)).ks.length + Q.ks.length) c6, .slice a4 R.ks.length c4] w6 (Tells (.bool true) w6)) := Lib.hid (by
        have := same_run a6 a4 ((rd false (l.take P)).ks.length + Q.ks.length) R.ks.length c6 c4 R.ks R.ks w6 H6.out.2.2.1 H6.out.2.2.2.1 H6.out.2.2.2.2 rfl (by omega)
        simpa using this)
      clear hrow hgrow hk6 H5 HX HS hx HD HQ
      refine KS.out.mono ?_
      rintro _ w7 ⟨rfl, s7⟩
      have H7 : Aside (Kd w w7 d b g R.h R.p ∧ Kd w w7 d' b' g' R.h R.p) := ⟨H6.out.1.stays s7, H6.out.2.1.stays s7⟩
      have H34 : Aside (R.h.length ≤ 34) := by
        have e9 : R = rd false l := HR.out
        rw [e9]
        exact rd_held false l
      clear KS s7 H6
      have KT1 := Lib.hid (text_run H7.out.1.dc.ar (by have := H34.out; omega))
      go_wp2_with fail
      refine KT1.out.mono ?_
      rintro _ w8 ⟨rfl, s8⟩
      have H8 : Aside (Kd w w8 d b g R.h R.p ∧ Kd w w8 d' b' g' R.h R.p) := ⟨H7.out.1.stays s8, H7.out.2.stays s8⟩
      clear KT1 s8 H7
      have KT2 := Lib.hid (text_run H8.out.2.dc.ar (by have := H34.out; omega))
      go_wp2_with fail
      refine KT2.out.mono ?_
      rintro _ w9 ⟨rfl, s9⟩
      have H9 : Aside (Kd w w9 d b g R.h R.p ∧ Kd w w9 d' b' g' R.h R.p) := ⟨H8.out.1.stays s9, H8.out.2.stays s9⟩
      clear KT2 s9 H8
      have K1 := Lib.hid (held_run H9.out.1.dc)
      have K3 := Lib.hid (pastes_run H9.out.1.dc)
      have K4 := Lib.hid (pastes_run H9.out.2.dc)
      have HZ : Aside (Stp [] w [] w9) := H9.out.1.stp
      have i34 : decide ((R.h.length : Int) ≤ 34) = true := decide_eq_true (by have := H34.out; omega)
      generalize st R.h = tx at *
      generalize (R.h.length : Int) = nh at *
      generalize R.p = pp at *
      clear H9
      go_wp2_with fail
      refine K3.out.mono ?_
      rintro _ w9 ⟨rfl, rfl⟩
      clear K3
      go_wp2_with fail
      refine K4.out.mono ?_
      rintro _ w9 ⟨rfl, rfl⟩
      clear K4
      go_wp2_with fail
      refine K1.out.mono ?_
      rintro _ w9 ⟨rfl, rfl⟩
      clear K1
      go_wp2
      go_ret
      exact ⟨by simp, HZ.out⟩
end Go.Proofs.YthffjcacdcipeaaDoor
