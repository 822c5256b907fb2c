/-
  The walk of SinkRoom.
-/
import Derived.Test.YtcailmgincafcaaDoorDv
import Derived.Deep.RegionHeld
namespace Go.Proofs.YtcailmgincafcaaDoor
open Go.RowKit Go.Lib
set_option linter.unusedVariables false

set_option maxHeartbeats 1000000 in
set_option maxRecDepth 100000 in
theorem room_walk (x0 : Int) (a1 : Option Addr) (cap1 n1 : Nat) (l : List Sb) (w : World) (hx : (Lit.int .u8 x0).wf = true) (hb : Ss w a1 l) (hn : n1 = l.length) (hnn : n1 ≤ 9223372036854775807) (hT : U.Tabs w) :
    Calls Tryd.prog 6 #[.int .u8 x0, .slice a1 n1 cap1] w (Tells (.bool true) w) := by
  obtain ⟨n, rfl, hn256⟩ := num8 hx
  have H := Lib.hid (And.intro hb (And.intro hn hT))
  have KA := Lib.hid (fun W (hs : Stp [] w [] W) => alive_run W (tabs_stays hT hs))
  obtain ⟨o, hO, hmk⟩ := make_row n (by omega)
  have HO := Lib.hid hO
  have hwr : IntKind.i64.wrap (n : Int) = (n : Int) := by rw [IntKind.wrap_i64]; omega
  have hlz : (List.replicate n (0 : UInt8)).length = n := by simp
  obtain ⟨Z, hZ⟩ : ∃ Z, Z = List.replicate n (0 : UInt8) := ⟨_, rfl⟩
  rw [← hZ] at HO hlz
  have HZ := Lib.hid hlz
  clear hb hn hT hx hO hlz hZ
  go_enter Tryd.func6, Tryd.ntmps6
  go_wp2_with fail
  refine (KA.out w (Stp.refl _ _)).mono ?_
  rintro _ w1 ⟨rfl, s1⟩
  have H1 := Lib.hid s1
  clear s1
  by_cases hlt : 30 < n1
  · have hz : (30 : Int) < (n1 : Int) := by omega
    clear hlt
    go_wp2_with fail
    refine (KA.out w1 H1.out).mono ?_
    rintro _ w2 ⟨rfl, s2⟩
    have H2 := Lib.hid (H1.out.trans s2)
    clear s2 H1
    go_wp2
    go_ret
    exact ⟨rfl, H2.out⟩
  have hz : ¬ (30 : Int) < (n1 : Int) := by omega
  have hn30 : n1 ≤ 30 := by omega
  clear hlt
  have KN := Lib.hid (new_new (w := w) (cap := n) (HO.out w1).dst (H1.out.trans (Stp.alloc [] w1 o)) H1.out.size (Nat.le_of_eq HZ.out.symm) (Nat.le_refl _))
  go_wp2_with fail
  refine KN.out.mono ?_
  rintro _ w3 ⟨s, rfl, h3, s3⟩
  have H3 := Lib.hid h3
  clear h3 s3 KN
  generalize w1.heap.size = k at *
  go_wp2_with fail
  go_loopg [32] n1 (fun gk vi wr => ∃ i : Nat, vi = .int .i64 (i : Int) ∧ i ≤ n1 ∧ n1 - i ≤ gk ∧ Aside (Sn w wr s k n 0 false Z))
  case atStart => exact ⟨0, rfl, Nat.zero_le _, by omega, H3.out⟩
  case round =>
    obtain ⟨i, rfl, hi, hg, HS⟩ := hrel
    by_cases hlt : i < n1
    · have hltz : (i : Int) < (n1 : Int) := by omega
      obtain ⟨lb, off, rfl, c0, hbx, hxc, hxm, hxn⟩ := H.out.1.at HS.out.stp (i := i) (by have := H.out.2.1; omega)
      generalize l[i]! = y at *
      obtain ⟨p, cap, x⟩ := y
      dsimp only at c0 hbx hxc hxm hxn
      obtain ⟨nx, hnx⟩ : ∃ nx, nx = x.length := ⟨_, rfl⟩
      rw [← hnx] at c0 hxc
      have KR := Lib.hid (right_run p nx cap x wr (hbx.stays HS.out.stp) hnx hxc hxm)
      have KB := Lib.hid (fun W (hs : Stp [] w [] W) => buffer_run p nx cap x W (hbx.stays hs) hnx hxc hxm (tabs_stays H.out.2.2 hs))
      have HX := Lib.hid (And.intro hnx (And.intro hlt hbx))
      clear hbx hnx hxc hxm hxn hlt
      go_wp2_with fail
      refine KR.out.mono ?_
      rintro _ w4 ⟨q, c, rfl, q1, q2, q3, q4, q5, q6⟩
      have H4 := Lib.hid (HS.out.stays q5)
      have HQ := Lib.hid q1
      have HF : Aside (rt x ≠ [] → ∀ ad, q = some ad → ad.block < w.heap.size) := fun hne ad e => by
        rcases q6 with rfl | rfl
        · obtain ⟨bb, off, e2, hlt⟩ := HX.out.2.2.blk (fun h => hne (by rw [h]; unfold rt; split <;> rfl))
          rw [e2] at e
          cases e
          exact hlt
        · cases e
      clear q1 q2 q3 q4 q5 q6 KR
      go_wp2_with fail
      refine (KB.out w4 H4.out.stp).mono ?_
      rintro _ w5 ⟨e, b, g, rfl, h5⟩
      have KD := Lib.hid (deliver_new H4.out h5)
      have HQ5 := Lib.hid (HQ.out.stays h5.stp)
      clear h5 KB
      obtain ⟨X, hX⟩ : ∃ X, X = rt x := ⟨_, rfl⟩
      rw [← hX] at KD HQ5 HF ⊢
      have HX2 := Lib.hid hX
      clear hX HQ
      obtain ⟨m, hm⟩ : ∃ m, m = X.length := ⟨_, rfl⟩
      by_cases hsm : n < m
      · rw [dvs_small (by rw [← hm]; exact hsm)] at KD
        rw [← hm]
        have hsz : (n : Int) < (m : Int) := by omega
        clear hm hsm
        go_wp2_with fail
        refine KD.out.mono ?_
        rintro _ w6 ⟨rfl, h6, _⟩
        have H6 := Lib.hid h6
        clear h6 KD
        obtain ⟨SZ, hSZ⟩ : ∃ S, S = st Z := ⟨_, rfl⟩
        have cvo : ∀ W, Stp [] w6 [] W → (convert 22 9 (.slice (some ⟨k, 0, none⟩) n n)).run Tryd.prog W = .ok (.string SZ) W := fun W hs => by
          rw [hSZ]
          exact conv_bts n n (H6.out.sk.dst.bts.stays hs) HZ.out.symm
        have cvm : (convert 22 9 (.slice (some ⟨w6.heap.size, 0, none⟩) n n)).run Tryd.prog (w6.alloc o).drew = .ok (.string SZ) (w6.alloc o).drew := by
          rw [hSZ]
          exact conv_bts n n ((HO.out w6).bts.stays (Stp.drew [] _)) HZ.out.symm
        have hcur : Stp [] w6 [] w6.drew ∧ (convert 22 9 (.slice (some ⟨k, 0, none⟩) n n)).run Tryd.prog w6.drew = .ok (.string SZ) w6.drew := ⟨Stp.drew [] w6, cvo w6.drew (Stp.drew [] w6)⟩
        have hmk1 := hmk w6.drew .u8 .u8
        have hss : (SZ.toList == SZ.toList) = true := by simp
        have CV := Lib.hid cvo
        clear cvo hSZ
        go_wp2_with fail
        clear hmk
        go_region_held (fun W => Stp [] w6 [] W ∧ (convert 22 9 (.slice (some ⟨k, 0, none⟩) n n)).run Tryd.prog W = .ok (.string SZ) W) (first | exact hcur | assumption | exact ⟨hcur.1.trans (Stp.alloc [] _ o), CV.out _ (hcur.1.trans (Stp.alloc [] _ o))⟩) (fail)
        clear hcur cvm hmk1 CV
        go_wp2
        go_roundg (n1 - (i + 1))
        case measure => omega
        case rel => exact ⟨i + 1, by go_num, by have := HX2.out; have := HX.out.2.1; omega, by omega, H6.out.stays ((Stp.alloc [] w6 o).trans (Stp.drew [] _))⟩
      · rw [dvs_ok (by rw [← hm]; exact hsm)] at KD
        rw [← hm] at KD ⊢
        have hsz : ¬ (n : Int) < (m : Int) := by omega
        have hmn : m ≤ n := by omega
        obtain ⟨L, hL⟩ : ∃ L, L = lay Z 0 X := ⟨_, rfl⟩
        rw [← hL] at KD
        have HM := Lib.hid (And.intro hm hL)
        clear hm hL hsm
        go_wp2_with fail
        refine KD.out.mono ?_
        rintro _ w6 ⟨rfl, h6, s6⟩
        have H6 := Lib.hid h6
        have HS6 := Lib.hid s6
        clear h6 s6 KD
        go_wp2_with fail
        refine (given_run H6.out.sk).mono ?_
        rintro _ w7 ⟨rfl, s7⟩
        have H7 := Lib.hid (H6.out.stays s7)
        have HQ7 : Aside (Bts w7 q X) := (HQ5.out.other HS6.out (fun hne ad e hm => by
          have := HF.out hne ad e
          have := H6.out.new
          simp at hm
          omega)).stays s7
        clear s7
        have s1 := cut_h (some ⟨k, 0, none⟩) n n m hmn
        obtain ⟨SX, hSX⟩ : ∃ S, S = st X := ⟨_, rfl⟩
        have cv1 : ∀ q', (convert 22 9 (.slice (some ⟨k, 0, none⟩) m n)).run Tryd.prog (w7.drewN q') = .ok (.string SX) (w7.drewN q') := fun q' => by
          have hb := (H7.out.sk.dst.front m).stays (Stp.drewN [] w7 q')
          have e : L.take m = X := by
            rw [HM.out.2, HM.out.1]
            exact lay_take X Z (by rw [HZ.out, ← HM.out.1]; exact hmn)
          rw [e] at hb
          rw [hSX]
          exact conv_bts n m hb HM.out.1
        have cv2 : ∀ q', (convert 22 9 (.slice q m c)).run Tryd.prog (w7.drewN q') = .ok (.string SX) (w7.drewN q') := fun q' => by
          rw [hSX]
          exact conv_bts c m (HQ7.out.stays (Stp.drewN [] w7 q')) HM.out.1
        have hss : (SX.toList == SX.toList) = true := by simp
        clear hSX hmn
        go_wp2_with fail
        go_quiet (fail)
        go_wp2
        go_ret
        exact ⟨rfl, H7.out.stp.trans (Stp.drewN [] w7 nq)⟩
    · have hltz : ¬ (i : Int) < (n1 : Int) := by omega
      go_wp2_with fail
      refine (given_run HS.out.sk).mono ?_
      rintro _ w7 ⟨rfl, s7⟩
      have H7 := Lib.hid (HS.out.stays s7)
      clear s7
      go_wp2
      go_ret
      exact ⟨rfl, H7.out.stp⟩
end Go.Proofs.YtcailmgincafcaaDoor
