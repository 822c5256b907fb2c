/-
  The walk of KeydecFeeds: of any bytes, in any pieces, the keys are the document's, as soon as each ends, and what is held, in the arena; at the end, too.
-/
import Derived.Test.YthffjcacdcipeaaDoorGreatK
import Derived.Test.YthffjcacdcipeaaDoorWKeydecTexts
namespace Go.Proofs.YthffjcacdcipeaaDoor
open Go.RowKit Go.Lib
set_option linter.unusedVariables false

/-- What stands in the round. -/
structure Fv (w wr : World) (d b g q7 : Nat) (A : List UInt8) (v5 vK : Value) (aH : Option Addr) (cH : Nat) : Prop where
  kd : Kd w wr d b g (rd false A).h (rd false A).p
  all : Own wr (q7 + 1) v5 A
  t : AtT wr q7 vK (.slice aH (rd false A).h.length cH) (rd false A).p
  held : Bts wr aH (rd false A).h
  low : w.heap.size ≤ q7 ∧ d < q7 ∧ b < q7 ∧ g < q7
theorem clean_run' {W : World} {b g N : Nat} {l : List UInt8} (h : Ar W b g N l) : Calls Tryd.prog 19 #[.pointer (some ⟨b, 0, none⟩)] W (Tells (.bool true) W) :=
  (clean_run h).mono fun e w' ⟨he, q, hw⟩ => ⟨he, by subst hw; exact Stp.drewN [] W q⟩
theorem zero_run' {W : World} {b g N : Nat} {l : List UInt8} (h : Ar W b g N l) : Calls Tryd.prog 22 #[.pointer (some ⟨b, 0, none⟩)] W (Tells (.bool (zeros l)) W) :=
  (zero_run h).mono fun e w' ⟨he, q, hw⟩ => ⟨he, by subst hw; exact Stp.drewN [] W q⟩
theorem Gives.tells {f : FuncId} {args : Array Value} {W : World} {v : Value} (h : Calls Tryd.prog f args W (Gives v W)) : Calls Tryd.prog f args W (Tells v W) := h.mono fun e w' ⟨he, hw⟩ => ⟨he, hw ▸ Stp.refl _ _⟩
/-- The document's Read, at any bytes. -/
def ReadAll : Prop := ∀ (a : Option Addr) (n cap : Nat) (l : List UInt8) (w : World), Bts w a l → n = l.length → n ≤ cap → cap ≤ maxLen → n ≤ 100000 → Calls Tryd.prog 14 #[.slice a n cap] w (Reads (rd false l) w)
set_option maxHeartbeats 4000000 in
set_option maxRecDepth 100000 in
theorem feeds_walk' (hRead : ReadAll) (a0 : Option Addr) (cap0 n : Nat) (L : List Sb) (w : World) (hb : Ss w a0 L) (hn : n = L.length) (hnn : L.length ≤ 9223372036854775807) (hsz : ∀ y ∈ L, y.x.length ≤ 140737488355328 ∧ (y.p = none → y.cap = 0)) (hT : U.Tabs w) :
    Calls Tryd.prog 3 #[.slice a0 n cap0] w (Tells (.bool true) w) := by
  have HT : Aside (U.Tabs w ∧ Ss w a0 L ∧ n = L.length ∧ n ≤ 9223372036854775807 ∧ (∀ y ∈ L, y.x.length ≤ 140737488355328 ∧ (y.p = none → y.cap = 0))) := ⟨hT, hb, hn, by rw [hn]; exact hnn, hsz⟩
  have HRD := Lib.hid hRead
  have KB := Lib.hid (begin_run w (utabs_size hT))
  clear hT hb hn hnn hsz hRead
  go_enter Tryd.func3, Tryd.ntmps3
  go_wp2_with fail
  refine KB.out.mono ?_
  intro e w1 hb
  obtain ⟨d, b, g, rfl, hk⟩ := hb.kd
  clear KB hb
  have H1 : Aside (Kd w w1 d b g [] false) := hk
  clear hk
  go_wp2_with fail
  refine (alive_run w1 (H1.out.tabs HT.out.1)).mono ?_
  rintro _ w2 ⟨rfl, s2⟩
  have H2 : Aside (Kd w w2 d b g [] false) := H1.out.stays s2
  clear H1 s2
  have hss : Ss w2 a0 L := fun hne => by
    obtain ⟨bb, off, e, hlt, hc⟩ := HT.out.2.1 hne
    refine ⟨bb, off, e, Nat.lt_of_lt_of_le hlt H2.out.stp.size, fun i hi => ⟨(H2.out.stp.cell (a := ⟨bb, off + i, none⟩) hlt (by simp)).trans (hc i hi).1, (hc i hi).2.1.stays H2.out.stp, (hc i hi).2.2⟩⟩
  have KG := Lib.hid (great_run a0 cap0 n L w2 hss HT.out.2.2.1 HT.out.2.2.2.1 (fun y hy => (HT.out.2.2.2.2 y hy).1))
  clear hss
  go_wp2_with fail
  refine KG.out.mono ?_
  rintro _ w2 ⟨⟨r, rfl, hr⟩, rfl⟩
  clear KG
  cases r with
  | true =>
    clear hr
    go_wp2_with fail
    refine (alive_run w2 (H2.out.tabs HT.out.1)).mono ?_
    rintro _ w3 ⟨rfl, s3⟩
    have H3 : Aside (Stp [] w [] w3) := H2.out.stp.trans s3
    clear H2 s3
    go_wp2
    go_ret
    exact ⟨rfl, H3.out⟩
  | false =>
    have HG := Lib.hid (hr rfl)
    clear hr
    have H3 : Aside (Fv w (w2.alloc (.cells #[.slice none 0 0, .slice none 0 0, .bool false] 32)) d b g w2.heap.size [] (.slice none 0 0) (.slice none 0 0) none 0) :=
      ⟨H2.out.stays (Stp.alloc [] w2 _), Own.nil _ _, AtT.new w2 _ _ _, Bts.nil _ _, H2.out.stp.size, H2.out.dc.lt⟩
    go_wp2_with fail
    generalize w2.alloc (.cells #[.slice none 0 0, .slice none 0 0, .bool false] 32) = w3 at *
    clear H2
    generalize w2.heap.size = q7 at *
    go_loopg [5, 6, 35] n (fun gk v5 v6 vi wr => ∃ (k : Nat) (vK : Value) (aH : Option Addr) (cH : Nat), vi = .int .i64 (k : Int) ∧ v6 = .int .i64 ((rd false (cat (L.take k))).ks.length : Int) ∧ k ≤ n ∧ n - k ≤ gk ∧ Aside (Fv w wr d b g q7 (cat (L.take k)) v5 vK aH cH))
    case atStart => exact ⟨0, _, _, _, rfl, rfl, by omega, by omega, H3.out⟩
    case round =>
      obtain ⟨k, vK, aH, cH, rfl, rfl, hk, hg, HS⟩ := hrel
      by_cases hlt : k < n
      · have hltz : (k : Int) < (n : Int) := by omega
        have hkl : k < L.length := by rw [← HT.out.2.2.1]; exact hlt
        obtain ⟨bb, off, rfl, hbb, hc⟩ := HT.out.2.1 (by intro e; rw [e] at hkl; simp at hkl)
        have hcell : wr.cell? ⟨bb, off + k, none⟩ = some (.slice (L[k]!).p (L[k]!).x.length (L[k]!).cap) := (HS.out.kd.stp.cell (a := ⟨bb, off + k, none⟩) hbb (by simp)).trans (hc k hkl).1
        have hby := (hc k hkl).2.1
        have hnc : (L[k]!).p = none → (L[k]!).cap = 0 := (HT.out.2.2.2.2 _ (by rw [getElem!_pos L k hkl]; exact List.getElem_mem hkl)).2
        have HN := Lib.hid (cat_snoc L k hkl)
        have HLE : Aside ((cat (L.take (k + 1))).length ≤ 2000) := by
          have h1 := total_mono L (k + 1)
          have h2 := HG.out.2
          show (cat (L.take (k + 1))).length ≤ 2000
          rw [cat_len]
          omega
        rw [HN.out] at HLE
        generalize L[k]! = y at *
        obtain ⟨py, cy, x⟩ := y
        simp only at hcell hby hnc
        have HY : Aside (Bts w py x ∧ (py = none → cy = 0)) := ⟨hby, hnc⟩
        generalize cat (L.take k) = A at *
        clear hc hby hnc
        have KF := Lib.hid (feed_old HS.out.kd HT.out.1 py x.length cy x HY.out.1 rfl (by have := HLE.out; simp only [List.length_append] at this; omega))
        obtain ⟨q, hq⟩ : ∃ q, q = rd (rd false A).p ((rd false A).h ++ x) := ⟨_, rfl⟩
        have HR : Aside (rd false (A ++ x) = ⟨(rd false A).ks ++ q.ks, q.h, q.p⟩) := by
          show rd false (A ++ x) = _
          rw [rd_app, hq]
        rw [← hq] at KF
        have HQ := Lib.hid hq
        clear hq
        go_wp2_with fail
        refine KF.out.mono ?_
        rintro _ w4 ⟨v4, rfl, h4⟩
        obtain ⟨a4, c4, ev, hk4, _, _, hb4⟩ := h4.row.form
        subst ev
        have hlo := HS.out.kd.dc.lt
        have H4 : Aside (Kd w w4 d b g q.h q.p ∧ Own w4 (q7 + 1) u5 A ∧ AtT w4 q7 vK (.slice aH (rd false A).h.length cH) (rd false A).p ∧ Kts w4 a4 q.ks ∧ (∀ ad, a4 = some ad → wr.heap.size ≤ ad.block) ∧ wr.heap.size ≤ w4.heap.size) := ⟨HS.out.kd.turn h4.stp h4.dc (by have h1 := rd_end (rd false A).p ((rd false A).h ++ x); rw [← HQ.out] at h1; exact h1), HS.out.all.other h4.stp (fun j hj => by have := (HS.out.all.lt j hj).1; have := HS.out.low; simp; omega), HS.out.t.other h4.stp (by have := HS.out.low; simp; omega), hk4, fun ad e => (hb4 ad e).1, h4.stp.size⟩
        have HA4 : Aside (∀ ad, a4 = some ad → ad.block ≠ q7) := fun ad e => by
          have h1 := H4.out.2.2.2.2.1 ad e
          have h2 := HS.out.t.lt
          omega
        clear KF h4 hk4 hb4 hcell
        go_wp2_with (at_builtin; refine wpList_app rfl (.tmp 45) (.tmp 46) rfl (q7 + 1) u5 A rfl H4.out.2.1 py cy x.length x rfl rfl (HY.out.1.stays H4.out.1.stp) HY.out.2 (by have := HLE.out; simp only [List.length_append] at this; omega) (by have := H4.out.2.2.1.lt; omega) ?_; intro v5 w5 hrow hgrow; have hfm := own_form hrow; obtain ⟨a5, c5, ev, hb5, hc5, hm5, _⟩ := hfm; subst ev)
        have hu5 : ∀ j, u5.ownBlock = some j → q7 < j ∧ j < wr.heap.size := fun j hj => by have h1 := (HS.out.all.lt j hj); omega
        have H5 : Aside (Kd w w5 d b g q.h q.p ∧ Own w5 (q7 + 1) (.slice a5 (A ++ x).length c5) (A ++ x) ∧ AtT w5 q7 vK (.slice aH (rd false A).h.length cH) (rd false A).p ∧ Kts w5 a4 q.ks ∧ q7 < w5.heap.size) := by
          have hg : Stp u5.ownBlock.toList w4 u5.ownBlock.toList w5 := grown_stp hgrow (fun k e => by simp [e]) (fun k hk => hk)
          have hgm : ∀ k, k ∈ u5.ownBlock.toList → q7 < k ∧ k < wr.heap.size := fun k hk => hu5 k (by simpa using hk)
          have h1 := HS.out.low
          refine ⟨H4.out.1.other hg (fun k hk => by have := hgm k hk; omega), hrow, H4.out.2.2.1.other hg (fun e => by have := hgm _ e; omega), H4.out.2.2.2.1.other hg (fun _ ad e hm => by have h2 := H4.out.2.2.2.2.1 ad e; have h3 := hgm _ hm; omega), ?_⟩
          have h2 := H4.out.2.2.1.lt
          have h3 := hgrow.size
          omega
        have KRD : Hid (Calls Tryd.prog 14 #[.slice a5 (A.length + x.length) c5] w5 (Reads ⟨(rd false A).ks ++ q.ks, q.h, q.p⟩ w5)) := Lib.hid (by
          rw [← HR.out, ← List.length_append]
          exact HRD.out a5 (A ++ x).length c5 (A ++ x) w5 hb5 rfl hc5 hm5 (by have := HLE.out; omega))
        clear hrow hgrow hb5 hc5 hm5 hu5
        refine KRD.out.mono ?_
        rintro _ w6 ⟨vk, vh, rfl, hKO, hHO, s6⟩
        obtain ⟨NS, hNS⟩ : ∃ NS, NS = ((rd false A).ks ++ q.ks).length := ⟨_, rfl⟩
        obtain ⟨aK, cK, evk, hkK, _, hcK, hbK⟩ := hKO.form
        obtain ⟨aH2, cH2, evh, hhH, _, _, hbH⟩ := hHO.bts
        rw [← hNS] at evk
        have hcK2 : NS ≤ cK := by rw [hNS]; exact hcK
        subst evk
        subst evh
        have H6 : Aside (Kd w w6 d b g q.h q.p ∧ Own w6 (q7 + 1) (.slice a5 (A ++ x).length c5) (A ++ x) ∧ AtT w6 q7 vK (.slice aH (rd false A).h.length cH) (rd false A).p ∧ Kts w6 a4 q.ks ∧ Kts w6 aK ((rd false A).ks ++ q.ks) ∧ Bts w6 aH2 q.h ∧ (∀ ad, aK = some ad → q7 < ad.block) ∧ (∀ ad, aH2 = some ad → q7 < ad.block)) :=
          ⟨H5.out.1.stays s6, H5.out.2.1.other s6 (fun _ _ => by simp), H5.out.2.2.1.other s6 (by simp), H5.out.2.2.2.1.stays s6, hkK, hhH, fun ad e => by have h1 := (hbK ad e).1; have h2 := H5.out.2.2.2.2; omega, fun ad e => by have h1 := (hbH ad e).1; have h2 := H5.out.2.2.2.2; omega⟩
        have HNS := Lib.hid (And.intro hNS hcK2)
        have hlt7 := H6.out.2.2.1.lt
        obtain ⟨_, _, _, f0, f1, f2⟩ := H6.out.2.2.1.cells
        have hcc := H6.out.2.2.1.cells
        obtain ⟨c0, c1, c2, _, _, _⟩ := hcc
        clear KRD hKO hHO s6 hkK hhH hcK hbK hbH hNS hcK2 H4
        go_upto_region 13 with fail
        refine wlet ?_
        intro w7 hw7
        have hA4 : ∀ ad, a4 = some ad → ad.block ≠ q7 := fun ad e => HA4.out ad e
        have H7 : Aside (Kd w w7 d b g q.h q.p ∧ Own w7 (q7 + 1) (.slice a5 (A ++ x).length c5) (A ++ x) ∧ AtT w7 q7 (.slice aK NS cK) (.slice aH2 q.h.length cH2) q.p ∧ Kts w7 a4 q.ks ∧ Kts w7 aK ((rd false A).ks ++ q.ks) ∧ Bts w7 aH2 q.h) := by
          subst hw7
          have hs : Stp [q7] w6 [q7] (((w6.setCell ⟨q7, 0, none⟩ (.slice aK NS cK)).setCell ⟨q7, 1, none⟩ (.slice aH2 q.h.length cH2)).setCell ⟨q7, 2, none⟩ (.bool q.p)) :=
            (Stp.setCell (F := [q7]) (a := ⟨q7, 0, none⟩) w6 _ (by simp)).trans ((Stp.setCell (F := [q7]) (a := ⟨q7, 1, none⟩) _ _ (by simp)).trans (Stp.setCell (F := [q7]) (a := ⟨q7, 2, none⟩) _ _ (by simp)))
          have hlow := HS.out.low
          refine ⟨H6.out.1.other hs (fun k hk => by simp at hk; omega), H6.out.2.1.other hs (fun k hk => by have := (H6.out.2.1.lt k hk).1; simp; omega), ((H6.out.2.2.1.set0 _).set1 _).set2 _, H6.out.2.2.2.1.other hs (fun _ ad e => by have := hA4 ad e; simpa using this), H6.out.2.2.2.2.1.other hs (fun _ ad e => by have := H6.out.2.2.2.2.2.2.1 ad e; simp; omega), H6.out.2.2.2.2.2.1.other hs (fun _ ad e => by have := H6.out.2.2.2.2.2.2.2 ad e; simp; omega)⟩
        clear hw7 H6 hlt7 f0 f1 f2 c0 c1 c2 H5 hA4
        obtain ⟨t0, t1, t2, _, _, _⟩ := H7.out.2.2.1.cells
        obtain ⟨NK, hNK⟩ : ∃ NK, NK = (rd false A).ks.length := ⟨_, rfl⟩
        rw [← hNK]
        have hNN : NS = NK + q.ks.length := by rw [HNS.out.1, hNK, List.length_append]
        have hle1 : NK ≤ NS := by omega
        have hd1 : decide ((NS : Int) < (NK : Int)) = false := decide_eq_false (by omega)
        have hsub : NS - NK = q.ks.length := by omega
        have s1 := cutk_l aK NS cK NK hle1
        rw [hsub] at s1
        have HQK : Aside (Kts w7 (cutk aK NK cK) q.ks) := by
          have h1 := H7.out.2.2.2.2.1.cutk (i := NK) (N := cK) (by rw [← HNS.out.1]; exact hle1) (by rw [← HNS.out.1]; exact HNS.out.2)
          rw [hNK, List.drop_left] at h1
          rw [← hNK] at h1
          exact h1
        have hq2000 : q.ks.length ≤ 1000000 := by
          have h1 := rd_len false (A ++ x)
          rw [HR.out] at h1
          have h2 := HLE.out
          simp only [List.length_append] at h1 h2
          omega
        generalize cutk aK NK cK = aQ at *
        generalize cK - NK = cQ at *
        have KS : Hid (Calls Tryd.prog 15 #[.slice a4 q.ks.length c4, .slice aQ q.ks.length cQ] w7 (Tells (.bool true) w7)) := Lib.hid (by
          have h1 := same_run a4 aQ q.ks.length q.ks.length c4 cQ q.ks q.ks w7 H7.out.2.2.2.1 HQK.out rfl rfl hq2000
          simpa using h1)
        have HNK := Lib.hid (And.intro hNK hNN)
        clear hNK hNN hsub hq2000 HQK
        go_wp2_with fail
        refine KS.out.mono ?_
        rintro _ w8 ⟨rfl, s8⟩
        have H8 : Aside (Kd w w8 d b g q.h q.p ∧ Own w8 (q7 + 1) (.slice a5 (A ++ x).length c5) (A ++ x) ∧ AtT w8 q7 (.slice aK NS cK) (.slice aH2 q.h.length cH2) q.p ∧ Bts w8 aH2 q.h) := ⟨H7.out.1.stays s8, H7.out.2.1.other s8 (fun _ _ => by simp), H7.out.2.2.1.other s8 (by simp), H7.out.2.2.2.2.2.stays s8⟩
        have hlt1 : ¬ NS < NK := by omega
        clear KS s8 H7 t0 t1 t2 s1
        obtain ⟨t0, t1, t2, _, _, _⟩ := H8.out.2.2.1.cells
        go_wp2_with fail
        clear t0 t1 t2 hle1 hd1 hlt1
        have h34 : q.h.length ≤ 64 := by
          have h1 := rd_held (rd false A).p ((rd false A).h ++ x)
          rw [← HQ.out] at h1
          omega
        obtain ⟨qn, eqn⟩ : ∃ n, n = q.h.length := ⟨_, rfl⟩
        obtain ⟨ts, ets⟩ : ∃ t, t = st q.h := ⟨_, rfl⟩
        obtain ⟨qp, eqp⟩ : ∃ b, b = q.p := ⟨_, rfl⟩
        have hP : Hid (∀ W, Stp [] w8 [] W → Stp [] w8 [] W ∧ W.cell? ⟨q7, 1, none⟩ = some (.slice aH2 qn cH2) ∧ W.cell? ⟨q7, 2, none⟩ = some (.bool qp)) := Lib.hid (fun W hs => by
          obtain ⟨_, t1, t2, _⟩ := (H8.out.2.2.1.other hs (by simp)).cells
          exact ⟨hs, by rw [eqn]; exact t1, by rw [eqp]; exact t2⟩)
        have K1 : Hid (∀ W, Stp [] w8 [] W → Calls Tryd.prog 16 #[.pointer (some ⟨d, 0, none⟩)] W (Tells (.int .i64 (qn : Int)) W)) := Lib.hid (fun W hs => by rw [eqn]; exact Gives.tells (held_run (H8.out.1.stays hs).dc))
        have K2 : Hid (∀ W, Stp [] w8 [] W → Calls Tryd.prog 17 #[.pointer (some ⟨b, 0, none⟩)] W (Tells (.string ts) W)) := Lib.hid (fun W hs => by rw [ets]; exact text_run (H8.out.1.stays hs).dc.ar h34)
        have K3 : Hid (∀ W, Stp [] w8 [] W → Calls Tryd.prog 18 #[.pointer (some ⟨d, 0, none⟩)] W (Tells (.bool qp) W)) := Lib.hid (fun W hs => by rw [eqp]; exact Gives.tells (pastes_run (H8.out.1.stays hs).dc))
        have K4 : Hid (∀ W, Stp [] w8 [] W → Calls Tryd.prog 19 #[.pointer (some ⟨b, 0, none⟩)] W (Tells (.bool true) W)) := Lib.hid (fun W hs => clean_run' (H8.out.1.stays hs).dc.ar)
        have cv : ∀ W, Stp [] w8 [] W → Sem.run Tryd.prog (convert 29 9 (.slice aH2 qn cH2)) W = .ok (.string ts) W := fun W hs => by
          rw [ets]
          exact conv_bts cH2 qn (H8.out.2.2.2.stays hs) eqn
        have hcur := hP.out w8.drew (Stp.drew [] w8)
        have EQ := Lib.hid (And.intro eqn eqp)
        clear h34 ets eqn eqp
        go_region_held (fun W => Stp [] w8 [] W ∧ W.cell? ⟨q7, 1, none⟩ = some (.slice aH2 qn cH2) ∧ W.cell? ⟨q7, 2, none⟩ = some (.bool qp)) (first | exact hcur | assumption)
          (first
            | (go_at_call 16; (with_reducible refine (K1.out _ hcur.1).mono ?_); rintro _ wa ⟨rfl, s⟩; replace hcur := hP.out _ (hcur.1.trans s); clear s)
            | (go_at_call 17; (with_reducible refine (K2.out _ hcur.1).mono ?_); rintro _ wb ⟨rfl, s⟩; replace hcur := hP.out _ (hcur.1.trans s); clear s)
            | (go_at_call 18; (with_reducible refine (K3.out _ hcur.1).mono ?_); rintro _ wc ⟨rfl, s⟩; replace hcur := hP.out _ (hcur.1.trans s); clear s)
            | (go_at_call 19; (with_reducible refine (K4.out _ hcur.1).mono ?_); rintro _ wd ⟨rfl, s⟩; replace hcur := hP.out _ (hcur.1.trans s); clear s))
        all_goals
          have hn63 := HT.out.2.2.2.1
          have F9 : Aside (Fv w wd d b g q7 (A ++ x) (.slice a5 (A ++ x).length c5) (.slice aK NS cK) aH2 cH2) := by
            have s := hcur.1
            refine ⟨?_, H8.out.2.1.other s (fun _ _ => by simp), ?_, ?_, HS.out.low⟩
            · rw [HR.out]
              exact H8.out.1.stays s
            · rw [HR.out]
              exact H8.out.2.2.1.other s (by simp)
            · rw [HR.out]
              exact H8.out.2.2.2.stays s
          have HN6 : Aside ((rd false (A ++ x)).ks.length = NS) := by rw [HR.out]; exact HNS.out.1.symm
          clear hP K1 K2 K3 K4 cv hcur H8 EQ
          go_wp2
          go_roundg (n - (k + 1))
          case measure => omega
          case rel => exact ⟨k + 1, .slice aK NS cK, aH2, cH2, by go_num, by rw [HN.out, HN6.out], by omega, by omega, by rw [HN.out]; first | exact F9 | (rw [← List.length_append]; exact F9)⟩
      · have hltz : ¬ (k : Int) < (n : Int) := by omega
        obtain rfl : k = n := by omega
        obtain ⟨q, hq⟩ : ∃ q, q = rd false (cat (L.take k)) := ⟨_, rfl⟩
        have HF : Aside (Kd w wr d b g q.h q.p ∧ AtT wr q7 vK (.slice aH q.h.length cH) q.p ∧ Bts wr aH q.h) := by rw [hq]; exact ⟨HS.out.kd, HS.out.t, HS.out.held⟩
        have hlow := HS.out.low
        clear HS hq HRD
        obtain ⟨t0, t1, t2, _, _, _⟩ := HF.out.2.1.cells
        have KL := Lib.hid (rlast_run aH q.h.length cH q.h wr HF.out.2.2 rfl)
        go_wp2_with fail
        refine KL.out.mono ?_
        rintro _ w4 ⟨⟨⟨y1, y2⟩, rfl, hy⟩, s4⟩
        simp only [kvp, kv]
        have H4 : Aside (Kd w w4 d b g q.h q.p ∧ AtT w4 q7 vK (.slice aH q.h.length cH) q.p) := ⟨HF.out.1.stays s4, HF.out.2.1.other s4 (by simp)⟩
        have HY := Lib.hid hy
        clear KL HF hy s4 t0 t1 t2
        by_cases hh : q.h = []
        · simp only [hh, List.isEmpty_nil, Bool.not_true]
          have hx : lastk q.h = [] := by rw [hh]; rfl
          have hlt4 := H4.out.1.dc.lt
          have H5 : Aside (Kd w (w4.alloc (.cells #[.int .i64 y1, .int .i64 y2] 41)) d b g q.h q.p ∧ AtT (w4.alloc (.cells #[.int .i64 y1, .int .i64 y2] 41)) q7 vK (.slice aH q.h.length cH) q.p ∧ Kts (w4.alloc (.cells #[.int .i64 y1, .int .i64 y2] 41)) none [] ∧ (∀ ad : Addr, (none : Option Addr) = some ad → w4.heap.size ≤ ad.block)) := ⟨H4.out.1.stays (Stp.alloc [] _ _), H4.out.2.other (Stp.alloc [] _ _) (by simp), Kts.nil _ _, fun ad e => by cases e⟩
          go_wp2_with fail
          generalize w4.alloc (.cells #[.int .i64 y1, .int .i64 y2] 41) = w5 at *
          have KL2 := Lib.hid (finish_run H5.out.1.dc)
          refine KL2.out.mono ?_
          rintro _ w6 ⟨v6, rfl, h6⟩
          obtain ⟨a6, c6, ev, hk6, _, _, _⟩ := h6.row.form
          have ev2 : v6 = .slice a6 0 c6 := by
            rw [ev]
            show Value.slice a6 (lastk q.h).length c6 = _
            rw [hx]
            rfl
          subst ev2
          have hk62 : Kts w6 a6 [] := by rw [← hx]; exact hk6
          have H6 : Aside (Kd w w6 d b g [] q.p ∧ AtT w6 q7 vK (.slice aH q.h.length cH) q.p ∧ Kts w6 a6 [] ∧ Kts w6 none []) := ⟨H5.out.1.fin h6, H5.out.2.1.other h6.stp (by have := hlow; simp; omega), hk62, H5.out.2.2.1.other h6.stp (fun _ ad e => by have h2 := H5.out.2.2.2 ad e; simp; omega)⟩
          clear KL2 ev hk6 hk62 h6 H5
          obtain ⟨qp, eqp⟩ : ∃ b, b = q.p := ⟨_, rfl⟩
          have hP : Hid (∀ W, Stp [] w6 [] W → Stp [] w6 [] W ∧ W.cell? ⟨q7, 2, none⟩ = some (.bool qp)) := Lib.hid (fun W hs => by
            obtain ⟨_, _, t2, _⟩ := (H6.out.2.1.other hs (by simp)).cells
            exact ⟨hs, by rw [eqp]; exact t2⟩)
          have K1 : Hid (∀ W, Stp [] w6 [] W → Calls Tryd.prog 15 #[.slice a6 0 c6, .slice none 0 0] W (Tells (.bool true) W)) := Lib.hid (fun W hs => by
            have h1 := same_run a6 none 0 0 c6 0 [] [] W (H6.out.2.2.1.stays hs) (H6.out.2.2.2.stays hs) rfl rfl (by omega)
            simpa using h1)
          have K2 : Hid (∀ W, Stp [] w6 [] W → Calls Tryd.prog 16 #[.pointer (some ⟨d, 0, none⟩)] W (Tells (.int .i64 0) W)) := Lib.hid (fun W hs => Gives.tells (held_run (H6.out.1.stays hs).dc))
          have K3 : Hid (∀ W, Stp [] w6 [] W → Calls Tryd.prog 18 #[.pointer (some ⟨d, 0, none⟩)] W (Tells (.bool qp) W)) := Lib.hid (fun W hs => by rw [eqp]; exact Gives.tells (pastes_run (H6.out.1.stays hs).dc))
          have K4 : Hid (∀ W, Stp [] w6 [] W → Calls Tryd.prog 22 #[.pointer (some ⟨b, 0, none⟩)] W (Tells (.bool true) W)) := Lib.hid (fun W hs => zero_run' (H6.out.1.stays hs).dc.ar)
          have hcur := hP.out w6.drew (Stp.drew [] w6)
          have HE := Lib.hid H6.out.1.stp
          clear H6 eqp HY hx
          go_wp2_with fail
          go_region_held (fun W => Stp [] w6 [] W ∧ W.cell? ⟨q7, 2, none⟩ = some (.bool qp)) (first | exact hcur | assumption)
            (first
              | (go_at_call 15; (with_reducible refine (K1.out _ hcur.1).mono ?_); rintro _ wa ⟨rfl, s⟩; replace hcur := hP.out _ (hcur.1.trans s); clear s)
              | (go_at_call 16; (with_reducible refine (K2.out _ hcur.1).mono ?_); rintro _ wb ⟨rfl, s⟩; replace hcur := hP.out _ (hcur.1.trans s); clear s)
              | (go_at_call 22; (with_reducible refine (K4.out _ hcur.1).mono ?_); rintro _ wc ⟨rfl, s⟩; replace hcur := hP.out _ (hcur.1.trans s); clear s)
              | (go_at_call 18; (with_reducible refine (K3.out _ hcur.1).mono ?_); rintro _ wd ⟨rfl, s⟩; replace hcur := hP.out _ (hcur.1.trans s); clear s))
          all_goals
            go_wp2
            go_ret
            exact ⟨by simp, HE.out.trans hcur.1⟩
        · have he : q.h.isEmpty = false := by simpa using hh
          simp only [he, Bool.not_false]
          have hx : lastk q.h = [(y1, y2)] := HY.out hh
          have hlt4 := H4.out.1.dc.lt
          have HKN : Hid (Kts ((w4.alloc (.cells #[.int .i64 y1, .int .i64 y2] 41)).alloc (.cells #[.int .i64 y1, .int .i64 y2] 41)) (some ⟨w4.heap.size + 1, 0, none⟩) [(y1, y2)]) := Lib.hid (by
            have h1 := key_new (w4.alloc (.cells #[.int .i64 y1, .int .i64 y2] 41)) (y1, y2)
            rw [show (w4.alloc (.cells #[.int .i64 y1, .int .i64 y2] 41)).heap.size = w4.heap.size + 1 from by simp] at h1
            exact h1)
          go_wp2_with (at_builtin; refine wpList_appK rfl (.tmp 105) (.tmp 107) rfl w4.heap.size (.slice none 0 0) [] rfl (KOwn.nil _ _) (some ⟨w4.heap.size + 1, 0, none⟩) 1 1 [(y1, y2)] rfl rfl HKN.out (fun h => by cases h) (by simp) (by simp; omega) ?_; intro v' w5 hrow hgrow; obtain ⟨a8, c8, ev, hk8, _, _, hb8⟩ := hrow.form; have ev2 : v' = Value.slice a8 1 c8 := ev; subst ev2; clear ev; have H5 : Aside (Kd w w5 d b g q.h q.p ∧ AtT w5 q7 vK (.slice aH q.h.length cH) q.p ∧ Kts w5 a8 [(y1, y2)] ∧ (∀ ad : Addr, a8 = some ad → w4.heap.size ≤ ad.block)) := (by have h1 : Stp [] w4 [] w5 := ((Stp.alloc [] _ _).trans (Stp.alloc [] _ _)).trans (grown_stp (F := []) (F' := []) hgrow (fun k e => by first | cases e | simp [Value.ownBlock] at e) (fun k hk => hk)); exact ⟨H4.out.1.stays h1, H4.out.2.other h1 (by simp), hk8, fun ad e => (hb8 ad e).1⟩); clear hrow hgrow hk8 hb8)
          clear HKN H4
          have KL2 := Lib.hid (finish_run H5.out.1.dc)
          refine KL2.out.mono ?_
          rintro _ w6 ⟨v6, rfl, h6⟩
          obtain ⟨a6, c6, ev, hk6, _, _, _⟩ := h6.row.form
          have ev2 : v6 = .slice a6 1 c6 := by
            rw [ev]
            show Value.slice a6 (lastk q.h).length c6 = _
            rw [hx]
            rfl
          subst ev2
          have hk62 : Kts w6 a6 [(y1, y2)] := by rw [← hx]; exact hk6
          have H6 : Aside (Kd w w6 d b g [] q.p ∧ AtT w6 q7 vK (.slice aH q.h.length cH) q.p ∧ Kts w6 a6 [(y1, y2)] ∧ Kts w6 a8 [(y1, y2)]) := ⟨H5.out.1.fin h6, H5.out.2.1.other h6.stp (by have := hlow; simp; omega), hk62, H5.out.2.2.1.other h6.stp (fun _ ad e => by have h2 := H5.out.2.2.2 ad e; simp; omega)⟩
          clear KL2 ev hk6 hk62 h6 H5
          obtain ⟨qp, eqp⟩ : ∃ b, b = q.p := ⟨_, rfl⟩
          have hP : Hid (∀ W, Stp [] w6 [] W → Stp [] w6 [] W ∧ W.cell? ⟨q7, 2, none⟩ = some (.bool qp)) := Lib.hid (fun W hs => by
            obtain ⟨_, _, t2, _⟩ := (H6.out.2.1.other hs (by simp)).cells
            exact ⟨hs, by rw [eqp]; exact t2⟩)
          have K1 : Hid (∀ W, Stp [] w6 [] W → Calls Tryd.prog 15 #[.slice a6 1 c6, .slice a8 1 c8] W (Tells (.bool true) W)) := Lib.hid (fun W hs => by
            have h1 := same_run a6 a8 1 1 c6 c8 [(y1, y2)] [(y1, y2)] W (H6.out.2.2.1.stays hs) (H6.out.2.2.2.stays hs) rfl rfl (by omega)
            simpa using h1)
          have K2 : Hid (∀ W, Stp [] w6 [] W → Calls Tryd.prog 16 #[.pointer (some ⟨d, 0, none⟩)] W (Tells (.int .i64 0) W)) := Lib.hid (fun W hs => Gives.tells (held_run (H6.out.1.stays hs).dc))
          have K3 : Hid (∀ W, Stp [] w6 [] W → Calls Tryd.prog 18 #[.pointer (some ⟨d, 0, none⟩)] W (Tells (.bool qp) W)) := Lib.hid (fun W hs => by rw [eqp]; exact Gives.tells (pastes_run (H6.out.1.stays hs).dc))
          have K4 : Hid (∀ W, Stp [] w6 [] W → Calls Tryd.prog 22 #[.pointer (some ⟨b, 0, none⟩)] W (Tells (.bool true) W)) := Lib.hid (fun W hs => zero_run' (H6.out.1.stays hs).dc.ar)
          have hcur := hP.out w6.drew (Stp.drew [] w6)
          have HE := Lib.hid H6.out.1.stp
          clear H6 eqp HY hx
          go_wp2_with fail
          go_region_held (fun W => Stp [] w6 [] W ∧ W.cell? ⟨q7, 2, none⟩ = some (.bool qp)) (first | exact hcur | assumption)
            (first
              | (go_at_call 15; (with_reducible refine (K1.out _ hcur.1).mono ?_); rintro _ wa ⟨rfl, s⟩; replace hcur := hP.out _ (hcur.1.trans s); clear s)
              | (go_at_call 16; (with_reducible refine (K2.out _ hcur.1).mono ?_); rintro _ wb ⟨rfl, s⟩; replace hcur := hP.out _ (hcur.1.trans s); clear s)
              | (go_at_call 22; (with_reducible refine (K4.out _ hcur.1).mono ?_); rintro _ wc ⟨rfl, s⟩; replace hcur := hP.out _ (hcur.1.trans s); clear s)
              | (go_at_call 18; (with_reducible refine (K3.out _ hcur.1).mono ?_); rintro _ wd ⟨rfl, s⟩; replace hcur := hP.out _ (hcur.1.trans s); clear s))
          all_goals
            go_wp2
            go_ret
            exact ⟨by simp, HE.out.trans hcur.1⟩
end Go.Proofs.YthffjcacdcipeaaDoor
