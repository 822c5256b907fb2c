/-
  The walk of KeydecResets: behind a reset a decoder is as a new one.
-/
import Derived.Test.YthffjcacdcipeaaDoorAliveK
namespace Go.Proofs.YthffjcacdcipeaaDoor
open Go.RowKit Go.Lib
set_option linter.unusedVariables false

section
variable {w W W' : World} {d b g : Nat} {l : List UInt8} {p : Bool}
/-- A decoder's step leaves another one as it is. -/
theorem Kd.apart {d' b' g' : Nat} {F' : List Nat} (h : Kd w W d b g l p) (hs : Stp [d', b', g'] W F' W') (hn : w.heap.size ≤ d' ∧ w.heap.size ≤ b' ∧ w.heap.size ≤ g') (ha : ∀ k ∈ [d', b', g'], k ≠ d ∧ k ≠ b ∧ k ≠ g) : Kd w W' d b g l p :=
  h.other hs (fun k hk => ⟨by simp at hk; omega, ha k hk⟩)
/-- A slice of what was there lies apart from what is new. -/
theorem Kd.away (h : Kd w W d b g l p) {a : Option Addr} {s : List UInt8} (hb : Bts w a s) : s ≠ [] → ∀ ad, a = some ad → ad.block ≠ d ∧ ad.block ≠ b ∧ ad.block ≠ g := fun hs ad e => by
  obtain ⟨bb, off, e2, hlt⟩ := hb.blk hs
  rw [e2] at e
  cases e
  have := h.new
  show bb ≠ d ∧ bb ≠ b ∧ bb ≠ g
  omega
/-- Feed at bytes that were there. -/
theorem feed_old (h : Kd w W d b g l p) (hT : U.Tabs w) (a : Option Addr) (n cap : Nat) (s : List UInt8) (hb : Bts w a s) (hn : n = s.length) (hm : n ≤ 800000) :
    Calls Tryd.prog 13 #[.pointer (some ⟨d, 0, none⟩), .slice a n cap] W (Fed W d b g 40 (rd p (l ++ s))) := feed_kd h hT a n cap s (hb.stays h.stp) (h.away hb) hn hm
end
/-- Two decoders, each by itself. -/
def Ap (d b g d' b' g' : Nat) : Prop := ∀ k ∈ [d', b', g'], k ≠ d ∧ k ≠ b ∧ k ≠ g
theorem Ap.symm {d b g d' b' g' : Nat} (h : Ap d b g d' b' g') : Ap d' b' g' d b g := by
  intro k hk
  have h1 := h d' (by simp)
  have h2 := h b' (by simp)
  have h3 := h g' (by simp)
  simp at hk
  omega
set_option maxHeartbeats 1000000 in
set_option maxRecDepth 100000 in
theorem resets_walk (a0 : Option Addr) (cap0 n : Nat) (l : List UInt8) (a1 : Option Addr) (cap1 m : Nat) (s : List UInt8) (w : World) (hb : Bts w a0 l) (hn : n = l.length) (hb1 : Bts w a1 s) (hm : m = s.length) (hT : U.Tabs w) :
    Calls Tryd.prog 8 #[.slice a0 n cap0, .slice a1 m cap1] w (Tells (.bool true) w) := by
  have HT : Aside (U.Tabs w ∧ Bts w a0 l ∧ n = l.length ∧ Bts w a1 s ∧ m = s.length) := ⟨hT, hb, hn, hb1, hm⟩
  have KB := Lib.hid (begin_run w (utabs_size hT))
  clear hT hb hn hb1 hm
  have HD : (decide (1000 < (n : Int)) = true ∨ decide (1000 < (n : Int)) = false) := by cases decide (1000 < (n : Int)) <;> simp
  have HE : (decide (1000 < (m : Int)) = true ∨ decide (1000 < (m : Int)) = false) := by cases decide (1000 < (m : Int)) <;> simp
  go_enter Tryd.func8, Tryd.ntmps8
  go_wp2_with fail
  refine KB.out.mono ?_
  intro e w1 hb
  obtain ⟨d, b, g, rfl, hk⟩ := hb.kd
  clear KB hb
  have H1 : Aside (Kd w w1 d b g [] false) := hk
  have KB := Lib.hid (begin_run w1 (by have := hk.stp.size; have := utabs_size HT.out.1; omega))
  clear hk
  go_wp2_with fail
  refine KB.out.mono ?_
  intro e w2 hb
  obtain ⟨d', b', g', rfl, hk⟩ := hb.kd
  clear KB hb
  have H2 : Aside (Kd w w2 d b g [] false ∧ Kd w w2 d' b' g' [] false ∧ Ap d b g d' b' g') := by
    have h1 := H1.out
    have h2 := h1.stp.size
    have h3 := hk.new
    have h4 := h1.dc.lt
    refine ⟨h1.stays hk.stp, ⟨hk.dc, h1.stp.trans hk.stp, by omega, rfl⟩, fun k hk => ?_⟩
    simp at hk
    omega
  clear H1 hk
  go_wp2_with fail
  refine (alive_run w2 (H2.out.1.tabs HT.out.1)).mono ?_
  rintro _ w3 ⟨rfl, s3⟩
  have H3 : Aside (Kd w w3 d b g [] false ∧ Kd w w3 d' b' g' [] false ∧ Ap d b g d' b' g') := ⟨H2.out.1.stays s3, H2.out.2.1.stays s3, H2.out.2.2⟩
  clear H2 s3
  rcases HD with hd | hd
  · go_wp2_with fail
    refine (alive_run w3 (H3.out.1.tabs HT.out.1)).mono ?_
    rintro _ w4 ⟨rfl, s4⟩
    have H4 : Aside (Stp [] w [] w4) := H3.out.1.stp.trans s4
    clear H3 s4
    go_wp2
    go_ret
    exact ⟨rfl, H4.out⟩
  rcases HE with he | he
  · go_wp2_with fail
    refine (alive_run w3 (H3.out.1.tabs HT.out.1)).mono ?_
    rintro _ w4 ⟨rfl, s4⟩
    have H4 : Aside (Stp [] w [] w4) := H3.out.1.stp.trans s4
    clear H3 s4
    go_wp2
    go_ret
    exact ⟨rfl, H4.out⟩
  have HM : Aside (n ≤ 1000 ∧ m ≤ 1000) := ⟨by have := of_decide_eq_false hd; omega, by have := of_decide_eq_false he; omega⟩
  have KF := Lib.hid (feed_old H3.out.1 HT.out.1 a0 n cap0 l HT.out.2.1 HT.out.2.2.1 (by have := HM.out; omega))
  go_wp2_with fail
  refine KF.out.mono ?_
  rintro _ w4 ⟨v4, rfl, h4⟩
  have H4 : Aside (Kd w w4 d b g (rd false ([] ++ l)).h (rd false ([] ++ l)).p ∧ Kd w w4 d' b' g' [] false) := ⟨H3.out.1.fed h4, H3.out.2.1.apart h4.stp H3.out.1.new H3.out.2.2.symm⟩
  clear KF h4
  have KR := Lib.hid (reset_run H4.out.1.dc)
  go_wp2_with fail
  refine KR.out.mono ?_
  rintro _ w5 ⟨rfl, hd5, s5⟩
  have H5 : Aside (Kd w w5 d b g [] false ∧ Kd w w5 d' b' g' [] false) := ⟨H4.out.1.turn s5 hd5 rfl, H4.out.2.apart s5 H3.out.1.new H3.out.2.2.symm⟩
  clear KR hd5 s5 H4
  have KH := Lib.hid (held_run H5.out.1.dc)
  have KP := Lib.hid (pastes_run H5.out.1.dc)
  have KZ := Lib.hid (zero_run H5.out.1.dc.ar)
  go_wp2_with fail
  refine KH.out.mono ?_
  rintro _ w5 ⟨rfl, rfl⟩
  clear KH
  go_wp2_with fail
  refine KP.out.mono ?_
  rintro _ w5 ⟨rfl, rfl⟩
  clear KP
  go_wp2_with fail
  refine KZ.out.mono ?_
  rintro _ w6 ⟨rfl, q6, hw6⟩
  have H6 : Aside (Kd w w6 d b g [] false ∧ Kd w w6 d' b' g' [] false) := by
    subst hw6
    exact ⟨H5.out.1.stays (Stp.drewN [] _ q6), H5.out.2.stays (Stp.drewN [] _ q6)⟩
  have e0 : zeros [] = true := rfl
  rw [e0]
  clear KZ H5 hw6 e0
  have KF := Lib.hid (feed_old H6.out.1 HT.out.1 a1 m cap1 s HT.out.2.2.2.1 HT.out.2.2.2.2 (by have := HM.out; omega))
  obtain ⟨R, hR⟩ : ∃ R, R = rd false ([] ++ s) := ⟨_, rfl⟩
  have HR := Lib.hid (And.intro hR (show R.ks.length ≤ 1000 by
    have := rd_len false ([] ++ s)
    have h1 := HM.out
    have h2 := HT.out.2.2.2.2
    rw [← hR] at this
    simp at this
    omega))
  rw [← hR] at KF
  clear hR
  go_wp2_with fail
  refine KF.out.mono ?_
  rintro _ w7 ⟨v7, rfl, h7⟩
  have H7 : Aside (Kd w w7 d b g R.h R.p ∧ Kd w w7 d' b' g' [] false) := ⟨by
    have h8 := h7
    rw [HR.out.1] at h8 ⊢
    exact H6.out.1.fed h8, H6.out.2.apart h7.stp H6.out.1.new H3.out.2.2.symm⟩
  obtain ⟨a7, c7, rfl, hk7, _, _, hb7⟩ := h7.row.form
  have HK7 : Aside (Kts w7 a7 R.ks ∧ ∀ ad, a7 = some ad → ad.block ≠ d' ∧ ad.block ≠ b' ∧ ad.block ≠ g') := ⟨hk7, fun ad e => by
    have h1 := hb7 ad e
    have h2 := H6.out.2.dc.lt
    omega⟩
  clear KF h7 H6 hk7 hb7
  have KG := Lib.hid (feed_old H7.out.2 HT.out.1 a1 m cap1 s HT.out.2.2.2.1 HT.out.2.2.2.2 (by have := HM.out; omega))
  rw [← HR.out.1] at KG
  go_wp2_with fail
  refine KG.out.mono ?_
  rintro _ w8 ⟨v8, rfl, h8⟩
  have H8 : Aside (Kd w w8 d b g R.h R.p ∧ Kd w w8 d' b' g' R.h R.p) := ⟨H7.out.1.apart h8.stp H7.out.2.new H3.out.2.2, by
    have h9 := h8
    rw [HR.out.1] at h9 ⊢
    exact H7.out.2.fed h9⟩
  obtain ⟨a8, c8, rfl, hk8, _, _, _⟩ := h8.row.form
  have HK8 : Aside (Kts w8 a7 R.ks ∧ Kts w8 a8 R.ks) := ⟨HK7.out.1.other h8.stp (fun _ ad e => by have := HK7.out.2 ad e; simp; omega), hk8⟩
  clear KG h8 hk8 HK7 H7
  have KS : Hid (Calls Tryd.prog 15 #[.slice a7 R.ks.length c7, .slice a8 R.ks.length c8] w8 (Tells (.bool true) w8)) := Lib.hid (by
    have := same_run a7 a8 R.ks.length R.ks.length c7 c8 R.ks R.ks w8 HK8.out.1 HK8.out.2 rfl rfl (by have := HR.out.2; omega)
    simpa using this)
  go_wp2_with fail
  refine KS.out.mono ?_
  rintro _ w9 ⟨rfl, s9⟩
  have H9 : Aside (Kd w w9 d b g R.h R.p ∧ Kd w w9 d' b' g' R.h R.p) := ⟨H8.out.1.stays s9, H8.out.2.stays s9⟩
  clear KS s9 HK8 H8
  have K1 := Lib.hid (held_run H9.out.1.dc)
  have K2 := Lib.hid (held_run H9.out.2.dc)
  have K3 := Lib.hid (pastes_run H9.out.1.dc)
  have K4 := Lib.hid (pastes_run H9.out.2.dc)
  have HS : Aside (Stp [] w [] w9) := H9.out.1.stp
  generalize R.h.length = nh at *
  generalize R.p = pp at *
  clear H9
  go_wp2_with fail
  refine K1.out.mono ?_
  rintro _ w9 ⟨rfl, rfl⟩
  clear K1
  go_wp2_with fail
  refine K2.out.mono ?_
  rintro _ w9 ⟨rfl, rfl⟩
  clear K2
  go_wp2_with fail
  refine K3.out.mono ?_
  rintro _ w9 ⟨rfl, rfl⟩
  clear K3
  go_wp2_with fail
  refine K4.out.mono ?_
  rintro _ w9 ⟨rfl, rfl⟩
  clear K4
  go_wp2
  go_ret
  exact ⟨by simp, HS.out⟩
end Go.Proofs.YthffjcacdcipeaaDoor
