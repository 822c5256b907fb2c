/-
  The walk of ScreenSigns.
-/
import Derived.Test.YtdaenaoagejgeaaDoorSg
namespace Go.Proofs.YtdaenaoagejgeaaDoor
open Go.RowKit Go.Lib
set_option linter.unusedVariables false

/-- What a screen tells, from a world on. -/
structure Told (W : World) (s : Nat) (zb zr : Int) (pa : Bool) : Prop where
  place : ∀ W', Stp [] W [] W' → Calls Tryd.prog 15 #[.pointer (some ⟨s, 0, none⟩)] W' (Tells (.tuple #[.int .i64 (zr - 1), .int .i64 0]) W')
  bells : ∀ W', Stp [] W [] W' → Calls Tryd.prog 17 #[.pointer (some ⟨s, 0, none⟩)] W' (Tells (.int .i64 zb) W')
  pastes : ∀ W', Stp [] W [] W' → Calls Tryd.prog 18 #[.pointer (some ⟨s, 0, none⟩)] W' (Tells (.bool pa) W')
  rows : ∀ W', Stp [] W [] W' → Calls Tryd.prog 16 #[.pointer (some ⟨s, 0, none⟩)] W' (Tells (.int .i64 zr) W')
  odd : ∀ W', Stp [] W [] W' → Calls Tryd.prog 19 #[.pointer (some ⟨s, 0, none⟩)] W' (Tells (.int .i64 0) W')
theorem Sgn.told {w W : World} {s bl ro : Nat} {F : List Nat} {L : List UInt8} {pa : Bool} (h : Ks w W s F L) (g : Sgn L bl ro pa) (hL : L.length ≤ 90000) : Told W s (bl : Int) (ro : Int) pa := by
  obtain ⟨⟨up, e, hr⟩, hh⟩ := g
  have er : (rowsL L).length = ro := by unfold rowsL; rw [e]; simp; omega
  have e1 : ((up.length : Nat) : Int) = (ro : Int) - 1 := by omega
  refine ⟨fun W' hs => ?_, fun W' hs => ?_, fun W' hs => ?_, fun W' hs => ?_, fun W' hs => ?_⟩
  · have := place_run (h.sc.stays hs) hL
    rw [e] at this
    simp only [e1] at this
    exact this
  · have := bells_run (h.sc.stays hs)
    rw [e] at this
    exact this
  · have := pastes_run (h.sc.stays hs)
    rw [e] at this
    exact this
  · have := rows_run (h.sc.stays hs)
    rw [er] at this
    exact this
  · have := odd_run (h.sc.stays hs)
    rw [e] at this
    exact this
/-- What stands in a round. -/
def SgR (w wr : World) (s k bl ro : Nat) (pa : Bool) : Prop := ∃ F L, Ks w wr s F L ∧ Sgn L bl ro pa ∧ L.length ≤ 8 * k ∧ bl ≤ k ∧ ro ≤ k + 1
set_option maxHeartbeats 2000000 in
set_option maxRecDepth 100000 in
theorem signs_walk (a0 : Option Addr) (cap0 n : Nat) (l : List UInt8) (w : World) (hb : Bts w a0 l) (hn : n = l.length) (hT : Tabs w) :
    Calls Tryd.prog 6 #[.slice a0 n cap0] w (Tells (.bool true) w) := by
  have HT : Aside (Tabs w ∧ Bts w a0 l ∧ n = l.length) := ⟨hT, hb, hn⟩
  have K1 := Lib.hid (knew_run (Stp.refl [] w))
  have HD : (decide (300 < (n : Int)) = true ∨ decide (300 < (n : Int)) = false) := by cases decide (300 < (n : Int)) <;> simp
  have KB := Lib.hid vbell_run
  have KS := Lib.hid vstart_run
  have KO := Lib.hid vstop_run
  have KC := Lib.hid vclose_run
  clear hT hb hn
  go_enter Tryd.func6, Tryd.ntmps6
  go_wp2_with fail
  refine K1.out.mono ?_
  rintro _ w1 ⟨s, F, rfl, k1, hF, t1⟩
  have H1 : Aside (Ks w w1 s F []) := k1
  have KA := Lib.hid (alive_run w1 (k1.tabs HT.out.1))
  clear K1 k1 hF t1
  go_wp2_with fail
  refine KA.out.mono ?_
  rintro _ w2 ⟨rfl, s2⟩
  have H2 : Aside (Ks w w2 s F []) := H1.out.stays s2
  clear KA H1 s2
  rcases HD with hd | hd
  · have KA := Lib.hid (alive_run w2 (H2.out.tabs HT.out.1))
    go_wp2_with fail
    refine KA.out.mono ?_
    rintro _ w3 ⟨rfl, s3⟩
    go_wp2
    go_ret
    exact ⟨rfl, H2.out.stp.trans s3⟩
  have HM : Aside (n ≤ 300) := by
    show n ≤ 300
    have := of_decide_eq_false hd
    omega
  have H3 : Aside (SgR w w2 s 0 0 1 false) := ⟨F, [], H2.out, Sgn.zero, by simp, by omega, by omega⟩
  clear H2
  go_wp2_with fail
  go_loopg [4, 5, 6, 26] n (fun gk v4 v5 v6 vi wr => ∃ (k bl ro : Nat) (pa : Bool), vi = .int .i64 (k : Int) ∧ v4 = .int .i64 (bl : Int) ∧ v5 = .int .i64 (ro : Int) ∧ v6 = .bool pa ∧ k ≤ n ∧ n - k ≤ gk ∧ bl ≤ 300 ∧ ro ≤ 301 ∧ Aside (SgR w wr s k bl ro pa))
  case atStart => exact ⟨0, 0, 1, false, rfl, rfl, rfl, rfl, by omega, by omega, by omega, by omega, H3.out⟩
  case round =>
    obtain ⟨k, bl, ro, pa, rfl, rfl, rfl, rfl, hk, hg, hbl, hro, HS⟩ := hrel
    by_cases hlt : k < n
    · have hltz : (k : Int) < (n : Int) := by omega
      have hk3 : (k : Int) ≤ 300 := by have := HM.out; omega
      obtain ⟨b, off, rfl, hc⟩ : ∃ b off, a0 = some ⟨b, off, none⟩ ∧ wr.cell? ⟨b, off + k, none⟩ = some (bval (l[k]!)) := by
        obtain ⟨F0, L0, hk0, _⟩ := HS.out
        exact (HT.out.2.1.stays hk0.stp).at (by rw [← HT.out.2.2]; exact hlt)
      unfold bval at hc
      have hc256 : (l[k]!).toNat < 256 := UInt8.toNat_lt _
      generalize (l[k]!).toNat = c at *
      have h4 : ((c : Int) % 4 = 0) ∨ ((c : Int) % 4 = 1) ∨ ((c : Int) % 4 = 2) ∨ ((c : Int) % 4 = 3) := by omega
      obtain ⟨F0, L0, hk0⟩ := HS.out
      have H0 : Aside (Ks w wr s F0 L0 ∧ Sgn L0 bl ro pa ∧ L0.length ≤ 8 * k ∧ bl ≤ k ∧ ro ≤ k + 1) := hk0
      clear HS hk0
      rcases h4 with h4 | h4 | h4 | h4
      · go_wp2_with fail
        refine (KB.out _).mono ?_
        rintro _ w3 ⟨ad, rfl, hbt, s3⟩
        have KF := Lib.hid ((H0.out.1.stays s3).feed HT.out.1 (some ad) 1 1 [7] hbt rfl (fun h => by cases h) (by have := H0.out.2.2.1; have := HM.out; simp; omega))
        clear hbt s3
        go_wp2_with fail
        refine KF.out.mono ?_
        rintro _ w4 ⟨rfl, F1, k1, t1⟩
        have H5 : Aside (SgR w w4 s (k + 1) (bl + 1) (ro) pa) := ⟨F1, L0 ++ [7], k1, H0.out.2.1.bell, by have := H0.out.2.2.1; simp; omega, by have := H0.out.2.2.2.1; omega, by have := H0.out.2.2.2.2; omega⟩
        have HD : Aside (Told w4 s ((bl : Int) + 1) ((ro : Int)) pa) := (show Told w4 s ((bl : Int) + 1) ((ro : Int)) pa by
          have := Sgn.told k1 H0.out.2.1.bell (by have := H0.out.2.2.1; have := HM.out; simp; omega)
          simpa using this)
        have HZ : Aside (k + 1 ≤ n ∧ bl ≤ k ∧ ro ≤ k + 1) := ⟨hlt, H0.out.2.2.2.1, H0.out.2.2.2.2⟩
        clear KF k1 t1
        go_wp2_with fail
        refine (HD.out.place _ (Stp.refl _ _)).mono ?_
        rintro _ w5 ⟨rfl, s5⟩
        go_wp2_with fail
        refine (HD.out.bells _ s5).mono ?_
        rintro _ w6 ⟨rfl, s6⟩
        replace s6 := s5.trans s6
        go_wp2_with fail
        refine (HD.out.pastes _ s6).mono ?_
        rintro _ w7 ⟨rfl, s7⟩
        replace s7 := s6.trans s7
        go_wp2_with fail
        refine (HD.out.rows _ s7).mono ?_
        rintro _ w8 ⟨rfl, s8⟩
        replace s8 := s7.trans s8
        go_wp2_with fail
        refine (HD.out.odd _ s8).mono ?_
        rintro _ w9 ⟨rfl, s9⟩
        replace s9 := s8.trans s9
        go_wp2_with fail
        go_roundg (n - (k + 1))
        case measure => omega
        case rel => exact ⟨k + 1, bl + 1, ro, pa, by go_num, by go_num, by go_num, rfl, by have := HZ.out.1; omega, by omega, by have := HM.out; have := HZ.out; omega, by have := HM.out; have := HZ.out; omega, by
          obtain ⟨F2, L2, k2, q2⟩ := H5.out
          exact ⟨F2, L2, k2.stays s9, q2⟩⟩
      · go_wp2_with fail
        refine (KS.out _).mono ?_
        rintro _ w3 ⟨ad, rfl, hbt, s3⟩
        have KF := Lib.hid ((H0.out.1.stays s3).feed HT.out.1 (some ad) 8 8 S2 hbt rfl (fun h => by cases h) (by have := H0.out.2.2.1; have := HM.out; simp [S2]; omega))
        clear hbt s3
        go_wp2_with fail
        refine KF.out.mono ?_
        rintro _ w4 ⟨rfl, F1, k1, t1⟩
        have H5 : Aside (SgR w w4 s (k + 1) (bl) (ro) true) := ⟨F1, L0 ++ S2, k1, H0.out.2.1.start, by have := H0.out.2.2.1; simp [S2]; omega, by have := H0.out.2.2.2.1; omega, by have := H0.out.2.2.2.2; omega⟩
        have HD : Aside (Told w4 s ((bl : Int)) ((ro : Int)) true) := (show Told w4 s ((bl : Int)) ((ro : Int)) true by
          have := Sgn.told k1 H0.out.2.1.start (by have := H0.out.2.2.1; have := HM.out; simp [S2]; omega)
          simpa using this)
        have HZ : Aside (k + 1 ≤ n ∧ bl ≤ k ∧ ro ≤ k + 1) := ⟨hlt, H0.out.2.2.2.1, H0.out.2.2.2.2⟩
        clear KF k1 t1
        go_wp2_with fail
        refine (HD.out.place _ (Stp.refl _ _)).mono ?_
        rintro _ w5 ⟨rfl, s5⟩
        go_wp2_with fail
        refine (HD.out.bells _ s5).mono ?_
        rintro _ w6 ⟨rfl, s6⟩
        replace s6 := s5.trans s6
        go_wp2_with fail
        refine (HD.out.pastes _ s6).mono ?_
        rintro _ w7 ⟨rfl, s7⟩
        replace s7 := s6.trans s7
        go_wp2_with fail
        refine (HD.out.rows _ s7).mono ?_
        rintro _ w8 ⟨rfl, s8⟩
        replace s8 := s7.trans s8
        go_wp2_with fail
        refine (HD.out.odd _ s8).mono ?_
        rintro _ w9 ⟨rfl, s9⟩
        replace s9 := s8.trans s9
        go_wp2_with fail
        go_roundg (n - (k + 1))
        case measure => omega
        case rel => exact ⟨k + 1, bl, ro, true, by go_num, by go_num, by go_num, rfl, by have := HZ.out.1; omega, by omega, by have := HM.out; have := HZ.out; omega, by have := HM.out; have := HZ.out; omega, by
          obtain ⟨F2, L2, k2, q2⟩ := H5.out
          exact ⟨F2, L2, k2.stays s9, q2⟩⟩
      · go_wp2_with fail
        refine (KO.out _).mono ?_
        rintro _ w3 ⟨ad, rfl, hbt, s3⟩
        have KF := Lib.hid ((H0.out.1.stays s3).feed HT.out.1 (some ad) 8 8 S3 hbt rfl (fun h => by cases h) (by have := H0.out.2.2.1; have := HM.out; simp [S3]; omega))
        clear hbt s3
        go_wp2_with fail
        refine KF.out.mono ?_
        rintro _ w4 ⟨rfl, F1, k1, t1⟩
        have H5 : Aside (SgR w w4 s (k + 1) (bl) (ro) false) := ⟨F1, L0 ++ S3, k1, H0.out.2.1.stop, by have := H0.out.2.2.1; simp [S3]; omega, by have := H0.out.2.2.2.1; omega, by have := H0.out.2.2.2.2; omega⟩
        have HD : Aside (Told w4 s ((bl : Int)) ((ro : Int)) false) := (show Told w4 s ((bl : Int)) ((ro : Int)) false by
          have := Sgn.told k1 H0.out.2.1.stop (by have := H0.out.2.2.1; have := HM.out; simp [S3]; omega)
          simpa using this)
        have HZ : Aside (k + 1 ≤ n ∧ bl ≤ k ∧ ro ≤ k + 1) := ⟨hlt, H0.out.2.2.2.1, H0.out.2.2.2.2⟩
        clear KF k1 t1
        go_wp2_with fail
        refine (HD.out.place _ (Stp.refl _ _)).mono ?_
        rintro _ w5 ⟨rfl, s5⟩
        go_wp2_with fail
        refine (HD.out.bells _ s5).mono ?_
        rintro _ w6 ⟨rfl, s6⟩
        replace s6 := s5.trans s6
        go_wp2_with fail
        refine (HD.out.pastes _ s6).mono ?_
        rintro _ w7 ⟨rfl, s7⟩
        replace s7 := s6.trans s7
        go_wp2_with fail
        refine (HD.out.rows _ s7).mono ?_
        rintro _ w8 ⟨rfl, s8⟩
        replace s8 := s7.trans s8
        go_wp2_with fail
        refine (HD.out.odd _ s8).mono ?_
        rintro _ w9 ⟨rfl, s9⟩
        replace s9 := s8.trans s9
        go_wp2_with fail
        go_roundg (n - (k + 1))
        case measure => omega
        case rel => exact ⟨k + 1, bl, ro, false, by go_num, by go_num, by go_num, rfl, by have := HZ.out.1; omega, by omega, by have := HM.out; have := HZ.out; omega, by have := HM.out; have := HZ.out; omega, by
          obtain ⟨F2, L2, k2, q2⟩ := H5.out
          exact ⟨F2, L2, k2.stays s9, q2⟩⟩
      · go_wp2_with fail
        refine (KC.out _).mono ?_
        rintro _ w3 ⟨ad, rfl, hbt, s3⟩
        have KF := Lib.hid ((H0.out.1.stays s3).feed HT.out.1 (some ad) 2 2 [13, 10] hbt rfl (fun h => by cases h) (by have := H0.out.2.2.1; have := HM.out; simp; omega))
        clear hbt s3
        go_wp2_with fail
        refine KF.out.mono ?_
        rintro _ w4 ⟨rfl, F1, k1, t1⟩
        have H5 : Aside (SgR w w4 s (k + 1) (bl) (ro + 1) pa) := ⟨F1, L0 ++ [13, 10], k1, H0.out.2.1.close, by have := H0.out.2.2.1; simp; omega, by have := H0.out.2.2.2.1; omega, by have := H0.out.2.2.2.2; omega⟩
        have HD : Aside (Told w4 s ((bl : Int)) ((ro : Int) + 1) pa) := (show Told w4 s ((bl : Int)) ((ro : Int) + 1) pa by
          have := Sgn.told k1 H0.out.2.1.close (by have := H0.out.2.2.1; have := HM.out; simp; omega)
          simpa using this)
        have HZ : Aside (k + 1 ≤ n ∧ bl ≤ k ∧ ro ≤ k + 1) := ⟨hlt, H0.out.2.2.2.1, H0.out.2.2.2.2⟩
        clear KF k1 t1
        go_wp2_with fail
        refine (HD.out.place _ (Stp.refl _ _)).mono ?_
        rintro _ w5 ⟨rfl, s5⟩
        go_wp2_with fail
        refine (HD.out.bells _ s5).mono ?_
        rintro _ w6 ⟨rfl, s6⟩
        replace s6 := s5.trans s6
        go_wp2_with fail
        refine (HD.out.pastes _ s6).mono ?_
        rintro _ w7 ⟨rfl, s7⟩
        replace s7 := s6.trans s7
        go_wp2_with fail
        refine (HD.out.rows _ s7).mono ?_
        rintro _ w8 ⟨rfl, s8⟩
        replace s8 := s7.trans s8
        go_wp2_with fail
        refine (HD.out.odd _ s8).mono ?_
        rintro _ w9 ⟨rfl, s9⟩
        replace s9 := s8.trans s9
        go_wp2_with fail
        go_roundg (n - (k + 1))
        case measure => omega
        case rel => exact ⟨k + 1, bl, ro + 1, pa, by go_num, by go_num, by go_num, rfl, by have := HZ.out.1; omega, by omega, by have := HM.out; have := HZ.out; omega, by have := HM.out; have := HZ.out; omega, by
          obtain ⟨F2, L2, k2, q2⟩ := H5.out
          exact ⟨F2, L2, k2.stays s9, q2⟩⟩
    · have hltz : ¬ (k : Int) < (n : Int) := by omega
      obtain ⟨F0, L0, hk0, _⟩ := HS.out
      have HZ := Lib.hid hk0.stp
      clear HS hk0
      go_wp2
      go_ret
      exact ⟨rfl, HZ.out⟩
end Go.Proofs.YtdaenaoagejgeaaDoor
