/-
  The walk of SinkDelivers.
-/
import Derived.Test.YtcailmgincafcaaDoorRfk
namespace Go.Proofs.YtcailmgincafcaaDoor
open Go.RowKit Go.Lib
set_option linter.unusedVariables false

theorem Sn.other {w W W' : World} {s k n x : Nat} {gv : Bool} {T : List UInt8} {F F' : List Nat} (h : Sn w W s k n x gv T) (hs : Stp F W F' W') (hF : ∀ i ∈ F, w.heap.size ≤ i ∧ i ≠ s ∧ i ≠ k) : Sn w W' s k n x gv T :=
  ⟨h.sk.other hs (fun h => (hF s h).2.1 rfl) (fun h => (hF k h).2.2 rfl), (h.stp.fresh (hs.more (fun k h => h)) (fun i hi => (hF i hi).1)).none, h.new⟩
theorem dvs_len {n x : Nat} {gv : Bool} {T l : List UInt8} (h : T.length = n) : (dvS n x gv T l).T.length = n := by
  unfold dvS
  split
  · exact h
  · split
    · exact h
    · rw [lay_length (by omega)]
      exact h
/-- The sink, and the document's. -/
structure Pr2 (w W : World) (s k m n x : Nat) (gv : Bool) (T : List UInt8) (A : Option Addr) (c : Nat) : Prop where
  sn : Sn w W s k n x gv T
  rk : Rk W m A c x gv T
  len : T.length = n
  ne : m ≠ s ∧ m ≠ k ∧ w.heap.size ≤ m
  na : ∀ ad, A = some ad → w.heap.size ≤ ad.block ∧ ad.block ≠ s ∧ ad.block ≠ k
theorem Pr2.stays {w W W' : World} {s k m n x : Nat} {gv : Bool} {T : List UInt8} {A : Option Addr} {c : Nat} {F : List Nat} (h : Pr2 w W s k m n x gv T A c) (hs : Stp [] W F W') : Pr2 w W' s k m n x gv T A c :=
  ⟨h.sn.stays hs, h.rk.stays hs, h.len, h.ne, h.na⟩
set_option maxHeartbeats 1000000 in
set_option maxRecDepth 100000 in
theorem delivers_walk (a0 : Option Addr) (c0 n0 : Nat) (l0 : List UInt8) (a1 : Option Addr) (cap1 n1 : Nat) (l : List Sb) (w : World) (b0 : Bts w a0 l0) (h0 : n0 = l0.length) (z0 : a0 = none → c0 = 0) (hb : Ss w a1 l) (hn : n1 = l.length) (hnn : n1 ≤ 9223372036854775807) (hT : U.Tabs w) :
    Calls Tryd.prog 3 #[.slice a0 n0 c0, .slice a1 n1 cap1] w (Tells (.bool true) w) := by
  have H := Lib.hid (And.intro hb (And.intro hn hT))
  have HB := Lib.hid (And.intro b0 (And.intro h0 z0))
  have KA := Lib.hid (fun W (hs : Stp [] w [] W) => alive_run W (tabs_stays hT hs))
  clear hb hn hT b0 h0 z0
  go_enter Tryd.func3, Tryd.ntmps3
  go_wp2_with fail
  refine (KA.out w (Stp.refl _ _)).mono ?_
  rintro _ w1 ⟨rfl, s1⟩
  have H1 := Lib.hid s1
  clear s1
  by_cases hlt : 1500 < n0
  · have hz : (1500 : Int) < (n0 : Int) := by omega
    clear hlt
    go_wp2_with fail
    refine (KA.out w1 H1.out).mono ?_
    rintro _ w2 ⟨rfl, s2⟩
    have H2 := Lib.hid (H1.out.trans s2)
    clear s2 H1
    go_wp2
    go_ret
    exact ⟨rfl, H2.out⟩
  have hz : ¬ (1500 : Int) < (n0 : Int) := by omega
  have HN := Lib.hid hlt
  clear hlt
  by_cases hlt : 30 < n1
  · have hz : (30 : Int) < (n1 : Int) := by omega
    clear hlt
    go_wp2_with fail
    refine (KA.out w1 H1.out).mono ?_
    rintro _ w2 ⟨rfl, s2⟩
    have H2 := Lib.hid (H1.out.trans s2)
    clear s2 H1
    go_wp2
    go_ret
    exact ⟨rfl, H2.out⟩
  have hz2 : ¬ (30 : Int) < (n1 : Int) := by omega
  have hn30 : n1 ≤ 30 := by omega
  clear hlt
  go_wp2_with
    (at_builtin
     refine wpList_own rfl (.tmp 29) (.tmp 30) rfl rfl a0 c0 n0 l0 HB.out.2.1 rfl (HB.out.1.stays H1.out) HB.out.2.2 (by have := HB.out.2.1; have := HN.out; omega) ?_
     intro k kc w2 hk hkc hD hs
     have H2 := Lib.hid (And.intro hD (And.intro hs (And.intro hk hkc)))
     clear hk hkc hD hs)
  have KN := Lib.hid (new_new (w := w) H2.out.1 (H1.out.trans H2.out.2.1) (Nat.le_trans H1.out.size H2.out.2.2.1) (Nat.le_of_eq HB.out.2.1) H2.out.2.2.2)
  go_wp2_with fail
  refine KN.out.mono ?_
  rintro _ w3 ⟨s, rfl, h3, s3⟩
  have H3 := Lib.hid h3
  clear h3 s3 KN
  go_wp2_with
    (at_builtin
     refine wpList_own rfl (.tmp 34) (.tmp 35) rfl rfl a0 c0 n0 l0 HB.out.2.1 rfl (HB.out.1.stays H3.out.stp) HB.out.2.2 (by have := HB.out.2.1; have := HN.out; omega) ?_
     intro k2 kc2 w4 hk hkc hD hs
     have H4 := Lib.hid (And.intro hD (And.intro hs (And.intro hk hkc)))
     clear hk hkc hD hs)
  have KRm : ∀ W, Stp [] w4 [] W → Calls Tryd.prog 10 #[.pointer (some ⟨s, 0, none⟩)] W (Gives (.int .i64 (n0 : Int)) W) := fun W hs => room_run (H3.out.stays (H4.out.2.1.trans hs)).sk
  have KRm := Lib.hid KRm
  go_wp2_with fail
  refine (KRm.out _ (Stp.alloc [] w4 _)).mono ?_
  rintro _ w5 ⟨rfl, hw⟩
  obtain ⟨m, hm⟩ : ∃ m, m = w4.heap.size := ⟨_, rfl⟩
  have HP : Aside (Pr2 w w5 s k m n0 0 false l0 (some ⟨k2, 0, none⟩) kc2) := by
    have ho := heap_alloc_new w4 (.cells #[.slice (some ⟨k2, 0, none⟩) n0 kc2, .int .i64 0, .bool false] 29)
    have hs := Stp.alloc [] w4 (.cells #[.slice (some ⟨k2, 0, none⟩) n0 kc2, .int .i64 0, .bool false] 29)
    rw [← hw, ← hm] at ho
    rw [← hw] at hs
    have i1 := H3.out.sk.lt
    have i2 := H3.out.sk.dst.lt
    have i3 := H4.out.2.1.size
    have i4 := H3.out.stp.size
    have i5 := H4.out.2.2.1
    have i6 := H4.out.1.lt
    have i7 := hs.size
    rw [HB.out.2.1] at ho
    exact ⟨H3.out.stays (H4.out.2.1.trans hs), ⟨ho, (H4.out.1.stays hs).bts, (fun h => by cases h), by rw [← HB.out.2.1]; exact H4.out.2.2.2, fun ad e => by cases e; exact ⟨by show k2 ≠ m; omega, by show k2 < _; omega⟩⟩, HB.out.2.1.symm, ⟨by omega, by omega, by omega⟩,
      fun ad e => by cases e; exact ⟨by show _ ≤ k2; omega, by show k2 ≠ s; omega, by show k2 ≠ k; omega⟩⟩
  rw [← hm]
  clear hw hm KRm
  go_wp2_with fail
  go_loopg [50] n1 (fun gk vi wr => ∃ i : Nat, vi = .int .i64 (i : Int) ∧ i ≤ n1 ∧ n1 - i ≤ gk ∧ Aside (∃ x gv T A c, Pr2 w wr s k m n0 x gv T A c))
  case atStart => exact ⟨0, rfl, Nat.zero_le _, by omega, _, _, _, _, _, HP.out⟩
  case round =>
    obtain ⟨i, rfl, hi, hg, HS⟩ := hrel
    obtain ⟨x, gv, T, A, c, hP⟩ : ∃ x gv T A c, Pr2 w wr s k m n0 x gv T A c := HS.out
    have HP := Lib.hid hP
    clear hP HS
    by_cases hlt : i < n1
    · have hltz : (i : Int) < (n1 : Int) := by omega
      obtain ⟨lb, off, rfl, d0, hbx, hxc, hxm, hxn⟩ := H.out.1.at HP.out.sn.stp (i := i) (by have := H.out.2.1; omega)
      generalize l[i]! = y at *
      obtain ⟨p, cap, xx⟩ := y
      dsimp only at d0 hbx hxc hxm hxn
      obtain ⟨nx, hnx⟩ : ∃ nx, nx = xx.length := ⟨_, rfl⟩
      rw [← hnx] at d0 hxc
      have KR := Lib.hid (fun W (hs : Stp [] w [] W) => right_run p nx cap xx W (hbx.stays hs) hnx hxc hxm)
      have KB := Lib.hid (buffer_run p nx cap xx wr (hbx.stays HP.out.sn.stp) hnx hxc hxm (tabs_stays H.out.2.2 HP.out.sn.stp))
      have HX := Lib.hid (And.intro hlt hxn)
      clear hbx hnx hxc hxm hxn hlt
      go_wp2_with fail
      refine KB.out.mono ?_
      rintro _ w6 ⟨e, b, g, rfl, h6⟩
      have KD := Lib.hid (deliver_new HP.out.sn h6)
      have H6 := Lib.hid (HP.out.stays h6.stp)
      obtain ⟨X, hX⟩ : ∃ X, X = rt xx := ⟨_, rfl⟩
      rw [← hX] at KD
      have HX2 := Lib.hid hX
      clear h6 KB hX
      obtain ⟨r, hr⟩ : ∃ r, r = dvS n0 x gv T X := ⟨_, rfl⟩
      rw [← hr] at KD
      have HR := Lib.hid hr
      clear hr
      go_wp2_with fail
      refine KD.out.mono ?_
      rintro _ w7 ⟨rfl, h7, s7⟩
      have H7 : Aside (Sn w w7 s k n0 r.x r.gv r.T ∧ Rk w7 m A c x gv T) := ⟨h7, H6.out.rk.other s7 (by have := H6.out.ne; simp; omega) (fun ad e => by have := H6.out.na ad e; simp; omega)⟩
      clear h7 s7 KD
      go_wp2_with fail
      refine (KR.out w7 H7.out.1.stp).mono ?_
      rintro _ w8 ⟨q, cq, rfl, q1, q2, q3, q4, q5, q6⟩
      rw [← HX2.out] at q1 ⊢
      have KV := rdeliver_run (H7.out.2.stays q5) q X X.length cq q1 (q4 HX.out.2) rfl (by have := H6.out.len; have := HN.out; omega)
      rw [H6.out.len, ← HR.out] at KV
      have KV := Lib.hid KV
      have H8 : Aside (Sn w w8 s k n0 r.x r.gv r.T) := H7.out.1.stays q5
      have HZ : Aside (w.heap.size ≤ w8.heap.size ∧ s < w8.heap.size ∧ k < w8.heap.size) := ⟨H8.out.stp.size, H8.out.sk.lt, H8.out.sk.dst.lt⟩
      generalize X.length = mm at *
      clear q1 q2 q3 q4 q5 q6
      go_wp2_with fail
      refine KV.out.mono ?_
      rintro _ w9 ⟨rfl, A', c', h9, hA', s9⟩
      have HR2 : Aside (r.T.length = n0) := by rw [HR.out]; exact dvs_len H6.out.len
      have H9 : Aside (Pr2 w w9 s k m n0 r.x r.gv r.T A' c') := ⟨H8.out.other s9 (fun i hi => by have := H6.out.ne; simp at hi; omega), h9, HR2.out, H6.out.ne, fun ad e => by
        rcases hA' ad e with h | h
        · exact H6.out.na ad h
        · have := HZ.out; omega⟩
      clear h9 hA' s9 KV
      go_wp2_with fail
      refine (given_run H9.out.sn.sk).mono ?_
      rintro _ w10 ⟨rfl, s10⟩
      have H10 : Aside (Pr2 w w10 s k m n0 r.x r.gv r.T A' c') := H9.out.stays s10
      clear s10
      obtain ⟨rk, re, rx, rgv, rT⟩ := r
      dsimp only at H10 HR2 ⊢
      have e0 := H10.out.rk.c0
      have e1 := H10.out.rk.c1
      have e2 := H10.out.rk.c2
      rw [HR2.out] at e0
      obtain ⟨S, hS⟩ : ∃ S, S = st rT := ⟨_, rfl⟩
      have cv1 : ∀ q', (convert 22 9 (.slice (some ⟨k, 0, none⟩) n0 kc)).run Tryd.prog (w10.drewN q') = .ok (.string S) (w10.drewN q') := fun q' => by
        rw [hS]
        exact conv_bts kc n0 (H10.out.sn.sk.dst.bts.stays (Stp.drewN [] w10 q')) HR2.out.symm
      have cv2 : ∀ q', (convert 22 9 (.slice A' n0 c')).run Tryd.prog (w10.drewN q') = .ok (.string S) (w10.drewN q') := fun q' => by
        rw [hS]
        exact conv_bts c' n0 (H10.out.rk.bts.stays (Stp.drewN [] w10 q')) HR2.out.symm
      have hss : (S.toList == S.toList) = true := by simp
      have hgg : (rgv != rgv) = false := by simp
      clear hS
      go_wp2_with fail
      go_quiet (fail)
      go_wp2
      go_roundg (n1 - (i + 1))
      case measure => omega
      case rel => exact ⟨i + 1, by go_num, by have := HX.out.1; omega, by omega, _, _, _, _, _, H10.out.stays (Stp.drewN [] w10 nq)⟩
    · have hltz : ¬ (i : Int) < (n1 : Int) := by omega
      go_wp2
      go_ret
      exact ⟨rfl, HP.out.sn.stp⟩
end Go.Proofs.YtcailmgincafcaaDoor
