/-
  RegistryNone, walked.
-/
import Derived.Test.YtmhecgidhdbcgaaAliveR
namespace Go.Proofs.Ytmhecgidhdbcgaa
open Go.RowKit Go.Lib Go.Maps
set_option linter.unusedVariables false

set_option maxRecDepth 100000 in
set_option maxHeartbeats 2000000 in
theorem none_walk (s : ByteArray) (hs : s.size ≤ maxLen) (n : Int) (w : World) : Calls Try.prog 4 #[.string s, .int .i64 n] w (Truth w) := by
  go_enter Try.func4, Try.ntmps4
  go_wp2_with fail
  refine (wiper_nil _).mono ?_
  rintro _ w1 ⟨rfl, st1⟩
  go_wp2_with fail
  refine (make_nil s n _).mono ?_
  rintro _ w1 ⟨rfl, rfl⟩
  go_wp2_with fail
  refine (get_nil s _).mono ?_
  rintro _ w1 ⟨rfl, rfl⟩
  go_wp2_with fail
  refine (newr_run _).mono ?_
  rintro _ w2 ⟨r, F, rfl, hR2, st2⟩
  have H2 := Lib.hid (And.intro hR2 (st1.trans st2))
  clear hR2 st1 st2
  go_wp2_with fail
  refine (aliver_run _).mono ?_
  rintro _ w3 ⟨rfl, st3⟩
  obtain ⟨⟨m, v, D, X⟩, st⟩ := H2.out
  have K1 := Lib.hid (wiper_run (X.stays st3))
  have H3 := Lib.hid (st.trans (st3.widen (fun k h => .inl h)))
  clear X st H2 st3
  go_wp2_with fail
  refine K1.out.mono ?_
  rintro _ w4 ⟨rfl, ⟨m, v, D, X⟩, st4⟩
  have K2 := Lib.hid (get_no X (s := s) (fun x h => by cases h) hs)
  have H4 := Lib.hid (And.intro (show Rx w4 F r m v D [] from X) (H3.out.trans st4).none)
  clear X st4 K1 H3
  go_wp2_with fail
  refine K2.out.mono ?_
  rintro _ w4 ⟨rfl, rfl⟩
  clear K2
  go_wp2_with fail
  refine (names_nil _).mono ?_
  rintro _ w4 ⟨rfl, rfl⟩
  go_wp2_with fail
  refine (zeror_nil _).mono ?_
  rintro _ w5 ⟨rfl, st5⟩
  have H5 := Lib.hid (And.intro (H4.out.1.stays st5) (H4.out.2.trans st5))
  clear st5 H4
  go_wp2_with fail
  refine (cleanr_nil _).mono ?_
  rintro _ w6 ⟨rfl, st6⟩
  have H6 := Lib.hid (And.intro (H5.out.1.stays st6) (H5.out.2.trans st6))
  clear st6 H5
  go_wp2_with fail
  refine (cellsr_nil _).mono ?_
  rintro _ w7 ⟨rfl, st7⟩
  have H7 := Lib.hid (And.intro (H6.out.1.stays st7) (H6.out.2.trans st7))
  have K7 : Calls Try.prog _ _ w7 (Tells (.bool true) w7) := zeror_run H7.out.1
  clear st7 H6
  go_wp2_with fail
  refine K7.mono ?_
  rintro _ w8 ⟨rfl, st8⟩
  have H8 := Lib.hid (And.intro (H7.out.1.stays st8) (H7.out.2.trans st8))
  have K8 := cleanr_run H8.out.1
  clear st8 H7 K7
  go_wp2_with fail
  refine K8.mono ?_
  rintro _ w9 ⟨rfl, st9⟩
  have H9 := Lib.hid (And.intro (H8.out.1.stays st9) (H8.out.2.trans st9))
  have K9 := cells_at H9.out.1 0 rfl
  clear st9 H8 K8
  go_wp2_with fail
  refine K9.mono ?_
  rintro _ w10 ⟨rfl, st10⟩
  have H10 := Lib.hid (And.intro (H9.out.1.stays st10) (H9.out.2.trans st10))
  have K10 := names_run H10.out.1
  clear st10 H9 K9
  go_wp2_with fail
  refine K10.mono ?_
  rintro _ w11 ⟨v11, rfl, ho, st11⟩
  obtain ⟨a, cap, hv, _⟩ := ho.form
  have hv' : v11 = .slice a 0 cap := hv
  have H11 := Lib.hid (H10.out.2.trans st11)
  clear hv ho st11 H10 K10
  subst hv'
  go_wp2
  go_ret
  exact ⟨rfl, H11.out.under⟩
end Go.Proofs.Ytmhecgidhdbcgaa
