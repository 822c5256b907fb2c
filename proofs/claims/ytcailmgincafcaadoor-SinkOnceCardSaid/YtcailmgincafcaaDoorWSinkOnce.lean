/-
  The walk of SinkOnce.
-/
import Derived.Test.YtcailmgincafcaaDoorSnw
namespace Go.Proofs.YtcailmgincafcaaDoor
open Go.RowKit Go.Lib
set_option linter.unusedVariables false

theorem dv_given (n x : Nat) (T l : List UInt8) : dvS n x true T l = ⟨0, 11, x, true, T⟩ := rfl
theorem dv_small {n x : Nat} {T l : List UInt8} (h : n < l.length) : dvS n x false T l = ⟨0, 12, x, false, T⟩ := by unfold dvS; rw [if_neg (by simp), if_pos h]
theorem dv_ok {n x : Nat} {T l : List UInt8} (h : ¬ n < l.length) : dvS n x false T l = ⟨l.length, 0, l.length, true, lay T 0 l⟩ := by unfold dvS; rw [if_neg (by simp), if_neg h]
set_option maxHeartbeats 1000000 in
set_option maxRecDepth 100000 in
theorem once_walk (a0 : Option Addr) (c0 n0 : Nat) (l0 : List UInt8) (a1 : Option Addr) (c1 n1 : Nat) (l1 : List UInt8) (a2 : Option Addr) (c2 n2 : Nat) (l2 : List UInt8) (w : World)
    (b0 : Bts w a0 l0) (h0 : n0 = l0.length) (k0 : n0 ≤ c0) (z0 : a0 = none → c0 = 0) (b1 : Bts w a1 l1) (h1 : n1 = l1.length) (k1 : n1 ≤ c1) (m1 : c1 ≤ maxLen) (b2 : Bts w a2 l2) (h2 : n2 = l2.length) (k2 : n2 ≤ c2) (m2 : c2 ≤ maxLen) (hT : U.Tabs w) :
    Calls Tryd.prog 5 #[.slice a0 n0 c0, .slice a1 n1 c1, .slice a2 n2 c2] w (Tells (.bool true) w) := by
  have H := Lib.hid (And.intro b0 (And.intro h0 (And.intro k0 (And.intro z0 hT))))
  have KB1 := Lib.hid (fun W (hs : Stp [] w [] W) => buffer_run a1 n1 c1 l1 W (b1.stays hs) h1 k1 m1 (tabs_stays hT hs))
  have KR1 := Lib.hid (fun W (hs : Stp [] w [] W) => right_run a1 n1 c1 l1 W (b1.stays hs) h1 k1 m1)
  have KB2 := Lib.hid (fun W (hs : Stp [] w [] W) => buffer_run a2 n2 c2 l2 W (b2.stays hs) h2 k2 m2 (tabs_stays hT hs))
  have KA := Lib.hid (fun W (hs : Stp [] w [] W) => alive_run W (tabs_stays hT hs))
  clear b0 h0 k0 z0 b1 h1 k1 m1 b2 h2 k2 m2 hT
  go_enter Tryd.func5, Tryd.ntmps5
  go_wp2_with fail
  refine (KA.out w (Stp.refl _ _)).mono ?_
  rintro _ w1 ⟨rfl, s1⟩
  have H1 := Lib.hid s1
  clear s1
  by_cases hlt : 1500 < n0
  · have hz : (1500 : Int) < (n0 : Int) := by omega
    clear hlt
    go_wp2_with fail
    refine (KA.out w1 H1.out).mono ?_
    rintro _ w2 ⟨rfl, s2⟩
    have H2 := Lib.hid (H1.out.trans s2)
    clear s2 H1
    go_wp2
    go_ret
    exact ⟨rfl, H2.out⟩
  · have hz : ¬ (1500 : Int) < (n0 : Int) := by omega
    have HN := Lib.hid hlt
    clear hlt
    go_wp2_with
      (at_builtin
       refine wpList_own rfl (.tmp 23) (.tmp 24) rfl rfl a0 c0 n0 l0 H.out.2.1 rfl (H.out.1.stays H1.out) H.out.2.2.2.1 (by have := H.out.2.1; have := HN.out; omega) ?_
       intro k kc w2 hk hkc hD hs
       have H2 := Lib.hid (And.intro hD (And.intro hs (And.intro hk hkc)))
       clear hk hkc hD hs)
    have KN := Lib.hid (new_new (w := w) H2.out.1 (H1.out.trans H2.out.2.1) (Nat.le_trans H1.out.size H2.out.2.2.1) (Nat.le_of_eq H.out.2.1) H2.out.2.2.2)
    go_wp2_with fail
    refine KN.out.mono ?_
    rintro _ w3 ⟨s, rfl, h3, s3⟩
    have H3 := Lib.hid h3
    clear h3 s3 KN
    go_wp2_with fail
    refine (KB1.out w3 H3.out.stp).mono ?_
    rintro _ w4 ⟨e, b, g, rfl, h4⟩
    have KD := Lib.hid (deliver_new H3.out h4)
    clear h4
    obtain ⟨X, hX⟩ : ∃ X, X = rt l1 := ⟨_, rfl⟩
    rw [← hX] at KD
    have HX := Lib.hid hX
    clear hX
    by_cases hlt : n0 < X.length
    · have HLT := Lib.hid hlt
      rw [dv_small hlt] at KD
      clear hlt
      go_wp2_with fail
      refine KD.out.mono ?_
      rintro _ w5 ⟨rfl, h5, _⟩
      have H5 := Lib.hid h5
      clear h5 KD
      go_wp2_with fail
      refine (KR1.out w5 H5.out.stp).mono ?_
      rintro _ w6 ⟨p, c, rfl, q1, q2, q3, q4, q5, q6⟩
      have H6 := Lib.hid (H5.out.stays q5)
      rw [← HX.out]
      have hgt : (n0 : Int) < (X.length : Int) := by have := HLT.out; omega
      generalize X.length = m at *
      have cv1 := conv_bts kc n0 H6.out.sk.dst.bts H.out.2.1
      have cv2 := conv_bts c0 n0 (H.out.1.stays H6.out.stp) H.out.2.1
      have e1 : ((st l0).toList == (st l0).toList) = true := by simp
      generalize st l0 = S at *
      clear q1 q2 q3 q4 q5 q6
      go_wp2
      go_ret
      exact ⟨rfl, H6.out.stp⟩
    · have HLT := Lib.hid hlt
      rw [dv_ok hlt] at KD
      clear hlt
      obtain ⟨m, hm⟩ : ∃ m, m = X.length := ⟨_, rfl⟩
      obtain ⟨L, hL⟩ : ∃ L, L = lay l0 0 X := ⟨_, rfl⟩
      rw [← hm, ← hL] at KD
      have HM := Lib.hid (And.intro hm hL)
      clear hm hL
      go_wp2_with fail
      refine KD.out.mono ?_
      rintro _ w5 ⟨rfl, h5, _⟩
      have H5 := Lib.hid h5
      clear h5 KD
      go_wp2_with fail
      refine (KR1.out w5 H5.out.stp).mono ?_
      rintro _ w6 ⟨p, c, rfl, q1, q2, q3, q4, q5, q6⟩
      have H6 := Lib.hid (H5.out.stays q5)
      rw [← HX.out] at q1 q2 ⊢
      rw [← HM.out.1] at q2 ⊢
      have hml : m ≤ n0 := by have := HLT.out; have := HM.out.1; omega
      have hLn : n0 = L.length := by
        rw [HM.out.2, lay_length (by have := H.out.2.1; have := HM.out.1; omega)]
        exact H.out.2.1
      have hgt : ¬ (n0 : Int) < (m : Int) := by omega
      have cv1 : ∀ q, (convert 22 9 (.slice (some ⟨k, 0, none⟩) n0 kc)).run Tryd.prog (w6.drewN q) = .ok (.string (st L)) (w6.drewN q) := fun q => conv_bts kc n0 (H6.out.sk.dst.bts.stays (Stp.drewN [] w6 q)) hLn
      have cv2 : ∀ q, (convert 22 9 (.slice p m c)).run Tryd.prog (w6.drewN q) = .ok (.string (st X)) (w6.drewN q) := fun q => conv_bts c m (q1.stays (Stp.drewN [] w6 q)) HM.out.1
      have s1 := cut_l a0 n0 c0 m hml
      have cv3 : ∀ q, (convert 22 9 (.slice (cutp a0 m c0) (n0 - m) (c0 - m))).run Tryd.prog (w6.drewN q) = .ok (.string (st (l0.drop m))) (w6.drewN q) := fun q =>
        conv_bts _ _ (bts_drop (H.out.1.stays (H6.out.stp.trans (Stp.drewN [] w6 q))) m c0 (by have := H.out.2.1; omega) (by have := H.out.2.1; have := H.out.2.2.1; omega)) (by rw [List.length_drop, ← H.out.2.1])
      have e1 : ((st L).toList == (st X ++ st (l0.drop m)).toList) = true := st_yes (by rw [st_append, HM.out.2, lay_all, ← HM.out.1])
      have e2 : (st X).size + (st (l0.drop m)).size ≤ 1500 := by
        rw [st_size, st_size, List.length_drop]
        have := H.out.2.1; have := HM.out.1; have := HN.out; omega
      have e3 : ((st L).toList == (st L).toList) = true := by simp
      have HS := Lib.hid (rfl : st L = st L)
      obtain ⟨S, hS⟩ : ∃ S, S = st L := ⟨_, rfl⟩
      obtain ⟨SX, hSX⟩ : ∃ S, S = st X := ⟨_, rfl⟩
      obtain ⟨SY, hSY⟩ : ∃ S, S = st (l0.drop m) := ⟨_, rfl⟩
      rw [← hS] at cv1 e1 e3
      rw [← hSX] at cv2 e1 e2
      rw [← hSY] at cv3 e1 e2
      have HSS := Lib.hid hS
      obtain ⟨ay, hay⟩ : ∃ ay, ay = cutp a0 m c0 := ⟨_, rfl⟩
      rw [← hay] at s1 cv3
      obtain ⟨ny, hny⟩ : ∃ ny, ny = n0 - m := ⟨_, rfl⟩
      rw [← hny] at s1 cv3
      obtain ⟨cy, hcy⟩ : ∃ cy, cy = c0 - m := ⟨_, rfl⟩
      rw [← hcy] at s1 cv3
      have HLN := Lib.hid hLn
      clear q1 q2 q3 q4 q5 q6 HS hS hSX hSY hay hny hcy hLn hml
      go_wp2_with fail
      go_quiet (fail)
      have H7 := Lib.hid (H6.out.stays (Stp.drewN [] w6 nq))
      clear cv1 cv2 cv3 s1 e1 e2
      generalize w6.drewN nq = w7 at *
      have cv4 := conv_bts kc n0 H7.out.sk.dst.bts HLN.out
      rw [← HSS.out] at cv4
      go_wp2_with fail
      refine (KB2.out w7 H7.out.stp).mono ?_
      rintro _ w8 ⟨e', b', g', rfl, h8⟩
      have KD := deliver_new H7.out h8
      rw [dv_given] at KD
      have KD := Lib.hid KD
      clear h8 cv4
      go_wp2_with fail
      refine KD.out.mono ?_
      rintro _ w9 ⟨rfl, h9, _⟩
      have H9 := Lib.hid h9
      have cv5 := conv_bts kc n0 H9.out.sk.dst.bts HLN.out
      rw [← HSS.out] at cv5
      clear h9 KD
      go_wp2
      go_ret
      exact ⟨rfl, H9.out.stp⟩
end Go.Proofs.YtcailmgincafcaaDoor
