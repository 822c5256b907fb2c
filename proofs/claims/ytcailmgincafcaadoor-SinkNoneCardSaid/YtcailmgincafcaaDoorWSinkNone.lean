/-
  The walk of SinkNone.
-/
import Derived.Test.YtcailmgincafcaaDoorSnw
namespace Go.Proofs.YtcailmgincafcaaDoor
open Go.RowKit Go.Lib
set_option linter.unusedVariables false

set_option maxHeartbeats 1000000 in
set_option maxRecDepth 100000 in
theorem none_walk (a : Option Addr) (cap n : Nat) (l : List UInt8) (w : World) (hb : Bts w a l) (hn : n = l.length) (hA : a = none → cap = 0) (hT : U.Tabs w) :
    Calls Tryd.prog 4 #[.slice a n cap] w (Tells (.bool true) w) := by
  have H := Lib.hid (And.intro hb (And.intro hn (And.intro hA hT)))
  have hc0 := Go.Lib.run_convert_bytes_const (P := Tryd.prog) w 22 5 #[.int .u8 97] 1 1 Tryd.underlying22 Tryd.underlying5
  have KB := Lib.hid (buf_const w w [97] 1 rfl (by omega) hT (Stp.refl _ _))
  clear hb hn hA hT
  go_enter Tryd.func4, Tryd.ntmps4
  go_wp2_with fail
  refine KB.out.mono ?_
  rintro _ w1 ⟨e, b, g, rfl, h1⟩
  have H1 := Lib.hid h1.stp
  clear h1 KB hc0
  go_wp2_with fail
  refine (dl_nil _ _).mono ?_
  rintro _ w2 ⟨rfl, hw⟩
  obtain rfl : w1 = w2 := hw.symm
  go_wp2_with fail
  refine (given_nil _).mono ?_
  rintro _ w2 ⟨rfl, hw⟩
  obtain rfl : w1 = w2 := hw.symm
  go_wp2_with fail
  refine (room_nil _).mono ?_
  rintro _ w2 ⟨rfl, hw⟩
  obtain rfl : w1 = w2 := hw.symm
  by_cases hlt : 2000 < n
  · have hz : (2000 : Int) < (n : Int) := by omega
    clear hlt
    go_wp2_with fail
    refine (alive_run w1 (tabs_stays H.out.2.2.2 H1.out)).mono ?_
    rintro _ w2 ⟨rfl, s2⟩
    have H2 := Lib.hid (H1.out.trans s2)
    clear s2 H1
    go_wp2
    go_ret
    exact ⟨rfl, H2.out⟩
  · have hz : ¬ (2000 : Int) < (n : Int) := by omega
    have HN := Lib.hid hlt
    clear hlt
    go_wp2_with
      (at_builtin
       refine wpList_own rfl (.tmp 56) (.tmp 57) rfl rfl a cap n l H.out.2.1 rfl (H.out.1.stays H1.out) H.out.2.2.1 (by have := H.out.2.1; have := HN.out; omega) ?_
       intro k kc w2 hk hkc hD hs
       have H2 := Lib.hid (And.intro hD (And.intro hs (And.intro hk hkc)))
       clear hk hkc hD hs)
    have KN := Lib.hid (new_new (w := w) H2.out.1 (H1.out.trans H2.out.2.1) (Nat.le_trans H1.out.size H2.out.2.2.1) (Nat.le_of_eq H.out.2.1) H2.out.2.2.2)
    go_wp2_with fail
    refine KN.out.mono ?_
    rintro _ w3 ⟨s, rfl, h3, s3⟩
    have H3 := Lib.hid h3
    clear h3 s3 KN
    go_wp2_with fail
    refine (dl_none s w3).mono ?_
    rintro _ w4 ⟨rfl, hw⟩
    obtain rfl : w3 = w4 := hw.symm
    go_wp2_with fail
    refine (given_run H3.out.sk).mono ?_
    rintro _ w4 ⟨rfl, s4⟩
    have H4 := Lib.hid (H3.out.stays s4)
    clear s4
    go_wp2_with fail
    refine (alive_run w4 (tabs_stays H.out.2.2.2 H4.out.stp)).mono ?_
    rintro _ w5 ⟨rfl, s5⟩
    have H5 := Lib.hid (H4.out.stays s5)
    clear s5
    have cv1 := conv_bts kc n H5.out.sk.dst.bts H.out.2.1
    have cv2 := conv_bts cap n (H.out.1.stays H5.out.stp) H.out.2.1
    have e1 : ((st l).toList == (st l).toList) = true := by simp
    generalize st l = S at *
    go_wp2
    go_ret
    exact ⟨rfl, H5.out.stp⟩
end Go.Proofs.YtcailmgincafcaaDoor
