/-
  The walk of SinkApart.
-/
import Derived.Test.YtcailmgincafcaaDoorDv
import Derived.Deep.RegionHeld
namespace Go.Proofs.YtcailmgincafcaaDoor
open Go.RowKit Go.Lib
set_option linter.unusedVariables false

theorem rt_rt (l : List UInt8) : rt (rt l) = rt l := by
  by_cases h : fiB l = true ∧ l.length ≤ 1024
  · rw [rt_yes h, rt_yes h]
  · rw [rt_no h]
    unfold rt
    split <;> rfl
/-- So many sevens, and noughts behind them. -/
def sev (i M : Nat) : List UInt8 := List.replicate i 7 ++ List.replicate (M - i) 0
theorem sev_len {i M : Nat} (h : i ≤ M) : (sev i M).length = M := by simp [sev]; omega
theorem sev_set {i M : Nat} (h : i < M) : (sev i M).set i 7 = sev (i + 1) M := by
  unfold sev
  rw [List.set_append_right _ _ (by simp), List.length_replicate, Nat.sub_self, List.replicate_succ', List.append_assoc]
  congr 1
  rw [show M - i = (M - (i + 1)) + 1 by omega, List.replicate_succ]
  rfl
theorem sn_other {w W W' : World} {s k n x : Nat} {gv : Bool} {T : List UInt8} {F F' : List Nat} (h : Sn w W s k n x gv T) (hs : Stp F W F' W') (hF : ∀ i ∈ F, w.heap.size ≤ i ∧ i ≠ s ∧ i ≠ k) : Sn w W' s k n x gv T :=
  ⟨h.sk.other hs (fun h => (hF s h).2.1 rfl) (fun h => (hF k h).2.2 rfl), (h.stp.fresh (hs.more (fun k h => h)) (fun i hi => (hF i hi).1)).none, h.new⟩
theorem rep_at {M i : Nat} (h : i < M) : (List.replicate M (7 : UInt8))[i]! = 7 := by
  rw [getElem!_pos _ i (by simpa using h)]
  simp
theorem lay7_at {M i : Nat} {X : List UInt8} (hX : X.length ≤ M) (hk : X.length ≤ i) (h : i < M) : (lay (List.replicate M (7 : UInt8)) 0 X)[i]! = 7 := by
  rw [getElem!_pos _ i (by rw [lay_length (by simp; omega)]; simpa using h)]
  simp only [lay_all]
  rw [List.getElem_append_right hk]
  simp
theorem new_at {w W : World} {k n cap : Nat} {T : List UInt8} (hD : Dst W k T) (hs : Stp [] w [] W) (hk : w.heap.size ≤ k) (hn : n ≤ T.length) (hc : n ≤ cap) : Calls Tryd.prog 9 #[.slice (some ⟨k, 0, none⟩) n cap] W
    fun en w' => ∃ s, en = .returned (.pointer (some ⟨s, 0, none⟩)) ∧ W.heap.size ≤ s ∧ Sn w w' s k n 0 false T ∧ Stp [] W [] w' := by
  refine (snew_run hD hn hc).mono ?_
  rintro _ w' ⟨s, rfl, h1, h2, h3⟩
  exact ⟨s, rfl, h1, ⟨h2, hs.trans h3, by have := hs.size; omega, hk⟩, h3⟩
theorem sev_all (M : Nat) : sev M M = List.replicate M 7 := by simp [sev]
set_option maxHeartbeats 1000000 in
set_option maxRecDepth 100000 in
theorem apart_walk (a0 : Option Addr) (c0 n0 : Nat) (l0 : List UInt8) (x1 : Int) (w : World) (b0 : Bts w a0 l0) (h0 : n0 = l0.length) (k0 : n0 ≤ c0) (m0 : c0 ≤ maxLen) (hx : (Lit.int .u8 x1).wf = true) (hT : U.Tabs w) :
    Calls Tryd.prog 7 #[.slice a0 n0 c0, .int .u8 x1] w (Tells (.bool true) w) := by
  obtain ⟨r, rfl, hr256⟩ := num8 hx
  have KR := Lib.hid (right_run a0 n0 c0 l0 w b0 h0 k0 m0)
  have KA := Lib.hid (fun W (hs : Stp [] w [] W) => alive_run W (tabs_stays hT hs))
  have KB := Lib.hid (fun (w1 : World) (q : Option Addr) (c : Nat) (hs : Stp [] w [] w1) (hq : Bts w1 q (rt l0)) (hc : (rt l0).length ≤ c) (hm : c ≤ maxLen) (W : World) (hW : Stp [] w1 [] W) => buffer_run q (rt l0).length c (rt l0) W (hq.stays hW) rfl hc hm (tabs_stays hT (hs.trans hW)))
  have HW := Lib.hid hT
  have hwr : IntKind.i64.wrap (r : Int) = (r : Int) := by rw [IntKind.wrap_i64]; omega
  obtain ⟨N, hN⟩ : ∃ N, N = r % 250 := ⟨_, rfl⟩
  have hrem : Int.tmod (r : Int) 250 = (N : Int) := by rw [hN]; rfl
  have hN250 : N < 250 := by omega
  have hadd : IntKind.i64.wrap ((N : Int) + 300) = ((N + 300 : Nat) : Int) := by rw [IntKind.wrap_i64]; omega
  clear b0 h0 k0 m0 hx hT hN
  obtain ⟨M, hM⟩ : ∃ M, M = N + 300 := ⟨_, rfl⟩
  rw [← hM] at hadd
  obtain ⟨o, hO, hmk⟩ := make_row M (by omega)
  have HM := Lib.hid (And.intro hM hN250)
  have hM6 : M ≤ 600 := by omega
  have HO := Lib.hid hO
  obtain ⟨o2, hO2, hmk2⟩ := make_row 300 (by omega)
  have hmk2 : ∀ w : World, (Instr.makeSlice 22 (.int .i64 300) (.int .i64 300)).run Tryd.prog w = .ok (.slice (some ⟨w.heap.size, 0, none⟩) 300 300) (w.alloc o2) := fun w => hmk2 w .i64 .i64
  have HO2 := Lib.hid hO2
  clear hM hO hO2
  go_enter Tryd.func7, Tryd.ntmps7
  go_wp2_with fail
  refine KR.out.mono ?_
  rintro _ w1 ⟨q, c, rfl, q1, q2, q3, q4, q5, q6⟩
  have H1 := Lib.hid q5
  have KB := Lib.hid (KB.out w1 q c q5 q1 q2 q3)
  obtain ⟨X, hX⟩ : ∃ X, X = rt l0 := ⟨_, rfl⟩
  rw [← hX] at KB ⊢
  have HXX : Aside (rt X = X) := by rw [hX]; exact rt_rt l0
  obtain ⟨nx, hnx⟩ : ∃ nx, nx = X.length := ⟨_, rfl⟩
  rw [← hnx] at KB ⊢
  have HX := Lib.hid hnx
  clear q1 q2 q3 q4 q5 q6 KR hX hnx
  go_wp2_with fail
  refine (KA.out w1 H1.out).mono ?_
  rintro _ w2 ⟨rfl, s2⟩
  have H2 := Lib.hid s2
  clear s2
  by_cases hlt : 200 < nx
  · have hz : (200 : Int) < (nx : Int) := by omega
    clear hlt
    go_wp2_with fail
    refine (KA.out w2 (H1.out.trans H2.out)).mono ?_
    rintro _ w3 ⟨rfl, s3⟩
    have H3 := Lib.hid ((H1.out.trans H2.out).trans s3)
    clear s3 H2
    go_wp2
    go_ret
    exact ⟨rfl, H3.out⟩
  have hz : ¬ (200 : Int) < (nx : Int) := by omega
  clear hlt
  have HKK : Aside (Blk (w2.alloc o) w2.heap.size (sev 0 M) ∧ Stp [] w1 [] (w2.alloc o) ∧ w1.heap.size ≤ w2.heap.size) := ⟨by simpa [sev] using HO.out w2, H2.out.trans (Stp.alloc [] w2 o), H2.out.size⟩
  go_wp2_with fail
  generalize w2.alloc o = w3 at *
  generalize w2.heap.size = k at *
  clear hmk H2
  go_loopg [36] M (fun gk vi wr => ∃ i : Nat, vi = .int .i64 (i : Int) ∧ i ≤ M ∧ M - i ≤ gk ∧ Aside (Blk wr k (sev i M) ∧ Stp [] w1 [] wr))
  case atStart => exact ⟨0, rfl, Nat.zero_le _, by omega, HKK.out.1, HKK.out.2.1⟩
  case round =>
    obtain ⟨i, rfl, hi, hg, HS⟩ := hrel
    by_cases hlt : i < M
    · have hltz : (i : Int) < (M : Int) := by omega
      have hc := HS.out.1.cell (i := i) (by rw [sev_len hi]; exact hlt)
      have hf := HS.out.1.fz i
      unfold bval at hc
      generalize ((((sev i M)[i]!).toNat : Nat) : Int) = z at *
      go_wp2
      go_roundg (M - (i + 1))
      case measure => omega
      case rel =>
        refine ⟨i + 1, by go_num, by omega, by omega, ?_, ?_⟩
        · have := HS.out.1.set i 7
          rw [sev_set hlt] at this
          exact this
        · exact (HS.out.2.fresh (Stp.setCell (F := [k]) (a := ⟨k, i, none⟩) wr _ (by simp)) (fun j hj => by simp at hj; have := HKK.out.2.2; omega)).none
    · have hltz : ¬ (i : Int) < (M : Int) := by omega
      obtain rfl : M = i := by omega
      have hNM : N ≤ M := by have := HM.out; omega
      have s1 := cut_h (some ⟨k, 0, none⟩) M M N hNM
      rw [sev_all] at HS
      have KN := Lib.hid (new_at (w := w1) (W := wr.alloc o2) (k := k) (n := N) (cap := M) (T := List.replicate M 7) (HS.out.1.dst.stays (Stp.alloc [] wr o2)) (HS.out.2.trans (Stp.alloc [] wr o2)) HKK.out.2.2 (by simpa using hNM) hNM)
      have HB2 : Aside (Dst (wr.alloc o2) wr.heap.size (List.replicate 300 0) ∧ w1.heap.size ≤ wr.heap.size ∧ k < wr.heap.size ∧ (wr.alloc o2).heap.size = wr.heap.size + 1) := ⟨(HO2.out wr).dst, HS.out.2.size, HS.out.1.lt, by simp⟩
      clear hi hg hlt hltz
      go_wp2_with fail
      refine KN.out.mono ?_
      rintro _ w4 ⟨s, rfl, hs4, h4, s4⟩
      have KN2 := Lib.hid (new_at (w := w1) (W := w4) (k := wr.heap.size) (n := 300) (cap := 300) (T := List.replicate 300 0) (HB2.out.1.stays s4) h4.stp HB2.out.2.1 (by simp) (by omega))
      have H4 : Aside (Sn w1 w4 s k N 0 false (List.replicate M 7) ∧ s ≠ wr.heap.size ∧ k ≠ wr.heap.size) := ⟨h4, by have := HB2.out; omega, by have := HB2.out; omega⟩
      clear hs4 h4 s4 KN s1 HS HB2
      generalize wr.heap.size = k2 at *
      go_wp2_with fail
      refine KN2.out.mono ?_
      rintro _ w5 ⟨s2, rfl, hs5, h5, s5⟩
      have H5 : Aside (Sn w1 w5 s k N 0 false (List.replicate M 7) ∧ Sn w1 w5 s2 k2 300 0 false (List.replicate 300 0) ∧ ∀ i ∈ [s, k], w1.heap.size ≤ i ∧ i ≠ s2 ∧ i ≠ k2) := ⟨H4.out.1.stays s5, h5, fun i hi => by
        have i1 := H4.out.1.sk.lt
        have i2 := H4.out.1.sk.dst.lt
        have i3 := H4.out.1.new
        have i4 := H4.out.2
        simp at hi
        omega⟩
      clear hs5 h5 s5 KN2 H4
      go_wp2_with fail
      refine (KB.out w5 H5.out.1.stp).mono ?_
      rintro _ w6 ⟨e, b, g, rfl, h6⟩
      have KD := deliver_new H5.out.1 h6
      rw [HXX.out] at KD
      have H6 : Aside (Sn w1 w6 s2 k2 300 0 false (List.replicate 300 0)) := H5.out.2.1.stays h6.stp
      clear h6
      by_cases hle : nx ≤ N
      · rw [dvs_ok (by rw [← HX.out]; omega), ← HX.out] at KD
        have KD := Lib.hid KD
        have hlz : (nx : Int) ≤ (N : Int) := by omega
        have HT7 : Aside ((lay (List.replicate M 7) 0 X).length = M ∧ ∀ i, i < M → nx ≤ i → (lay (List.replicate M 7) 0 X)[i]! = 7) :=
          ⟨by rw [lay_length (by have := HX.out; simp; omega)]; simp, fun i hi hk => lay7_at (by have := HX.out; omega) (by have := HX.out; omega) hi⟩
        obtain ⟨T8, hT8⟩ : ∃ T8, T8 = lay (List.replicate M (7 : UInt8)) 0 X := ⟨_, rfl⟩
        rw [← hT8] at KD HT7
        clear hT8 hle
        go_wp2_with fail
        refine KD.out.mono ?_
        rintro _ w8 ⟨rfl, h8, s8⟩
        have H10 := Lib.hid (And.intro h8 (sn_other H6.out s8 H5.out.2.2))
        clear h8 s8 KD
        have H11 := Lib.hid (And.intro H10.out.1 (And.intro H10.out.2 HT7.out))
        clear HT7
        go_wp2_with fail
        go_loopg [82] M (fun gk vi wr => ∃ i : Nat, vi = .int .i64 (i : Int) ∧ i ≤ M ∧ M - i ≤ gk ∧ wr = w8)
        case atStart => exact ⟨0, rfl, Nat.zero_le _, by omega, rfl⟩
        case round =>
          obtain ⟨i, rfl, hi, hg, hw8⟩ := hrel
          subst hw8
          by_cases hlt : i < M
          · have hltz : (i : Int) < (M : Int) := by omega
            have hc := H11.out.1.sk.dst.cell i (by rw [H11.out.2.2.1]; exact hlt)
            by_cases hk : nx ≤ i
            · rw [H11.out.2.2.2 i hlt hk] at hc
              replace hc : wr.cell? ⟨k, i, none⟩ = some (.int .u8 7) := hc
              have hkz : (nx : Int) ≤ (i : Int) := by omega
              have HL := Lib.hid hlt
              clear hlt hk
              go_wp2
              go_roundg (M - (i + 1))
              case measure => have := HL.out; omega
              case rel => exact ⟨i + 1, by go_num, by have := HL.out; omega, by have := HL.out; omega, rfl⟩
            · unfold bval at hc
              generalize (((T8[i]!).toNat : Nat) : Int) = z at *
              have hkz : ¬ (nx : Int) ≤ (i : Int) := by omega
              have HL := Lib.hid hlt
              clear hlt hk
              go_wp2
              go_roundg (M - (i + 1))
              case measure => have := HL.out; omega
              case rel => exact ⟨i + 1, by go_num, by have := HL.out; omega, by have := HL.out; omega, rfl⟩
          · have hltz : ¬ (i : Int) < (M : Int) := by omega
            clear hi hg hlt
            go_wp2_with fail
            refine (given_run H11.out.2.1.sk).mono ?_
            rintro _ w9 ⟨rfl, s9⟩
            have H12 := Lib.hid (H11.out.2.1.stays s9)
            clear s9
            obtain ⟨SZ, hSZ⟩ : ∃ S, S = st (List.replicate 300 (0 : UInt8)) := ⟨_, rfl⟩
            have cvo : ∀ W, Stp [] w9 [] W → (convert 22 9 (.slice (some ⟨k2, 0, none⟩) 300 300)).run Tryd.prog W = .ok (.string SZ) W := fun W hs => by
              rw [hSZ]
              exact conv_bts 300 300 (H12.out.sk.dst.bts.stays hs) (by simp)
            have cvm : (convert 22 9 (.slice (some ⟨w9.heap.size, 0, none⟩) 300 300)).run Tryd.prog (w9.alloc o2).drew = .ok (.string SZ) (w9.alloc o2).drew := by
              rw [hSZ]
              exact conv_bts 300 300 ((HO2.out w9).bts.stays (Stp.drew [] _)) (by simp)
            have hcur : Stp [] w9 [] w9.drew ∧ (convert 22 9 (.slice (some ⟨k2, 0, none⟩) 300 300)).run Tryd.prog w9.drew = .ok (.string SZ) w9.drew := ⟨Stp.drew [] w9, cvo w9.drew (Stp.drew [] w9)⟩
            have hmk3 := hmk2 w9.drew
            have hss : (SZ.toList == SZ.toList) = true := by simp
            have CV := Lib.hid cvo
            clear cvo hSZ
            go_wp2_with fail
            clear hmk2
            go_region_held (fun W => Stp [] w9 [] W ∧ (convert 22 9 (.slice (some ⟨k2, 0, none⟩) 300 300)).run Tryd.prog W = .ok (.string SZ) W) (first | exact hcur | assumption | exact ⟨hcur.1.trans (Stp.alloc [] _ o2), CV.out _ (hcur.1.trans (Stp.alloc [] _ o2))⟩) (fail)
            clear hcur cvm hmk3 CV
            go_wp2
            go_ret
            exact ⟨rfl, H1.out.trans (H12.out.stp.trans ((Stp.alloc [] w9 o2).trans (Stp.drew [] _)))⟩
      · rw [dvs_small (by rw [← HX.out]; omega)] at KD
        have KD := Lib.hid KD
        have hlz : ¬ (nx : Int) ≤ (N : Int) := by omega
        have HT7 : Aside ((List.replicate M (7 : UInt8)).length = M ∧ ∀ i, i < M → 0 ≤ i → (List.replicate M (7 : UInt8))[i]! = 7) := ⟨by simp, fun i hi _ => rep_at hi⟩
        obtain ⟨T8, hT8⟩ : ∃ T8, T8 = List.replicate M (7 : UInt8) := ⟨_, rfl⟩
        rw [← hT8] at KD HT7
        clear hT8 hle
        go_wp2_with fail
        refine KD.out.mono ?_
        rintro _ w8 ⟨rfl, h8, s8⟩
        have H10 := Lib.hid (And.intro h8 (sn_other H6.out s8 H5.out.2.2))
        clear h8 s8 KD
        have H11 := Lib.hid (And.intro H10.out.1 (And.intro H10.out.2 HT7.out))
        clear HT7
        go_wp2_with fail
        go_loopg [82] M (fun gk vi wr => ∃ i : Nat, vi = .int .i64 (i : Int) ∧ i ≤ M ∧ M - i ≤ gk ∧ wr = w8)
        case atStart => exact ⟨0, rfl, Nat.zero_le _, by omega, rfl⟩
        case round =>
          obtain ⟨i, rfl, hi, hg, hw8⟩ := hrel
          subst hw8
          by_cases hlt : i < M
          · have hltz : (i : Int) < (M : Int) := by omega
            have hc := H11.out.1.sk.dst.cell i (by rw [H11.out.2.2.1]; exact hlt)
            by_cases hk : 0 ≤ i
            · rw [H11.out.2.2.2 i hlt hk] at hc
              replace hc : wr.cell? ⟨k, i, none⟩ = some (.int .u8 7) := hc
              have hkz : (0 : Int) ≤ (i : Int) := by omega
              have HL := Lib.hid hlt
              clear hlt hk
              go_wp2
              go_roundg (M - (i + 1))
              case measure => have := HL.out; omega
              case rel => exact ⟨i + 1, by go_num, by have := HL.out; omega, by have := HL.out; omega, rfl⟩
            · exact absurd (Nat.zero_le i) hk
          · have hltz : ¬ (i : Int) < (M : Int) := by omega
            clear hi hg hlt
            go_wp2_with fail
            refine (given_run H11.out.2.1.sk).mono ?_
            rintro _ w9 ⟨rfl, s9⟩
            have H12 := Lib.hid (H11.out.2.1.stays s9)
            clear s9
            obtain ⟨SZ, hSZ⟩ : ∃ S, S = st (List.replicate 300 (0 : UInt8)) := ⟨_, rfl⟩
            have cvo : ∀ W, Stp [] w9 [] W → (convert 22 9 (.slice (some ⟨k2, 0, none⟩) 300 300)).run Tryd.prog W = .ok (.string SZ) W := fun W hs => by
              rw [hSZ]
              exact conv_bts 300 300 (H12.out.sk.dst.bts.stays hs) (by simp)
            have cvm : (convert 22 9 (.slice (some ⟨w9.heap.size, 0, none⟩) 300 300)).run Tryd.prog (w9.alloc o2).drew = .ok (.string SZ) (w9.alloc o2).drew := by
              rw [hSZ]
              exact conv_bts 300 300 ((HO2.out w9).bts.stays (Stp.drew [] _)) (by simp)
            have hcur : Stp [] w9 [] w9.drew ∧ (convert 22 9 (.slice (some ⟨k2, 0, none⟩) 300 300)).run Tryd.prog w9.drew = .ok (.string SZ) w9.drew := ⟨Stp.drew [] w9, cvo w9.drew (Stp.drew [] w9)⟩
            have hmk3 := hmk2 w9.drew
            have hss : (SZ.toList == SZ.toList) = true := by simp
            have CV := Lib.hid cvo
            clear cvo hSZ
            go_wp2_with fail
            clear hmk2
            go_region_held (fun W => Stp [] w9 [] W ∧ (convert 22 9 (.slice (some ⟨k2, 0, none⟩) 300 300)).run Tryd.prog W = .ok (.string SZ) W) (first | exact hcur | assumption | exact ⟨hcur.1.trans (Stp.alloc [] _ o2), CV.out _ (hcur.1.trans (Stp.alloc [] _ o2))⟩) (fail)
            clear hcur cvm hmk3 CV
            go_wp2
            go_ret
            exact ⟨rfl, H1.out.trans (H12.out.stp.trans ((Stp.alloc [] w9 o2).trans (Stp.drew [] _)))⟩
end Go.Proofs.YtcailmgincafcaaDoor
