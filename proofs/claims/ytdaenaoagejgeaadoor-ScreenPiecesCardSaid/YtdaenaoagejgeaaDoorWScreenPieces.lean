/-
  The walk of ScreenPieces.
-/
import Derived.Test.YtdaenaoagejgeaaDoorSIs
import Derived.Test.YtdaenaoagejgeaaDoorSays
namespace Go.Proofs.YtdaenaoagejgeaaDoor
open Go.RowKit Go.Lib
set_option linter.unusedVariables false

/-- What stands in a round: one screen has had all, the other one P bytes. -/
def PcR (w wr : World) (s t : Nat) (l : List UInt8) (P : Nat) : Prop := ∃ F G, Ks w wr s F l ∧ Ks w wr t G (l.take P) ∧ Ap F G
theorem PcR.stp {w wr : World} {s t P : Nat} {l : List UInt8} (h : PcR w wr s t l P) : Stp [] w [] wr := by
  obtain ⟨F, G, h1, _⟩ := h
  exact h1.stp
theorem PcR.feed {w wr : World} {s t P n : Nat} {l : List UInt8} (h : PcR w wr s t l P) (hT : Tabs w) {a : Option Addr} {r cap : Nat} (hb : Bts w a (l.drop P)) (ha : a = none → cap = 0) (hr : P + r = l.length) (hl : l.length ≤ 1200) (j : Nat) (hj : j ≤ r) :
    Calls Tryd.prog 11 #[.pointer (some ⟨t, 0, none⟩), .slice a j cap] wr (fun e w' => e = .returned (.int .i64 0) ∧ PcR w w' s t l (P + j)) := by
  obtain ⟨F, G, h1, h2, h3⟩ := h
  have hlen : ((l.drop P).take j).length = j := by simp; omega
  have hb2 : Bts wr a ((l.drop P).take j) := by
    have hb := hb.stays h1.stp
    intro hne
    obtain ⟨b, off, e, hc⟩ := hb (by intro e; rw [e] at hne; simp at hne)
    refine ⟨b, off, e, fun i hi => ?_⟩
    rw [hlen] at hi
    rw [hc i (by simp; omega), getElem!_pos _ i (by simp; omega), getElem!_pos _ i (by rw [hlen]; exact hi)]
    simp
  refine (h2.feed hT a j cap ((l.drop P).take j) hb2 hlen.symm ha (by simp; omega)).mono ?_
  rintro e w' ⟨rfl, G', k1, t1⟩
  refine ⟨rfl, F, G', h1.other t1 h2.low h3, ?_, (h3.symm.fed t1 h1.lt).symm⟩
  rw [List.take_add]
  exact k1
set_option maxHeartbeats 2000000 in
set_option maxRecDepth 100000 in
theorem pieces_walk (a0 : Option Addr) (cap0 n : Nat) (l : List UInt8) (a1 : Option Addr) (cap1 m : Nat) (cs : List Int) (w : World) (hb : Bts w a0 l) (hn : n = l.length) (hcap : l.length ≤ cap0) (hmx : cap0 ≤ maxLen) (hz : a0 = none → cap0 = 0)
    (hb1 : Is w a1 cs) (hm : m = cs.length) (hmm : cs.length ≤ 9223372036854775807) (hT : Tabs w) :
    Calls Tryd.prog 5 #[.slice a0 n cap0, .slice a1 m cap1] w (Tells (.bool true) w) := by
  have HT : Aside (Tabs w ∧ Bts w a0 l ∧ n = l.length ∧ Is w a1 cs ∧ m = cs.length ∧ l.length ≤ cap0 ∧ (a0 = none → cap0 = 0)) := ⟨hT, hb, hn, hb1, hm, hcap, hz⟩
  have K1 := Lib.hid (knew_run (Stp.refl [] w))
  clear hT hb hn hb1 hm hcap hmx hz hmm
  have HD : (decide (1200 < (n : Int)) = true ∨ decide (1200 < (n : Int)) = false) := by cases decide (1200 < (n : Int)) <;> simp
  have HE : (decide (60 < (m : Int)) = true ∨ decide (60 < (m : Int)) = false) := by cases decide (60 < (m : Int)) <;> simp
  go_enter Tryd.func5, Tryd.ntmps5
  go_wp2_with fail
  refine K1.out.mono ?_
  rintro _ w1 ⟨s, F, rfl, k1, hF, t1⟩
  have H1 : Aside (Ks w w1 s F []) := k1
  have K2 := Lib.hid (knew_run t1)
  clear K1 k1 hF t1
  go_wp2_with fail
  refine K2.out.mono ?_
  rintro _ w2 ⟨t, G, rfl, k2, hG, t2⟩
  have H2 : Aside (Ks w w2 s F [] ∧ Ks w w2 t G [] ∧ Ap F G) := ⟨H1.out.stays t2, k2, fun j hj hk => by have := H1.out.lt j hj; have := hG j hk; omega⟩
  clear K2 H1 k2 hG t2
  have KA := Lib.hid (alive_run w2 (H2.out.1.tabs HT.out.1))
  go_wp2_with fail
  refine KA.out.mono ?_
  rintro _ w3 ⟨rfl, s3⟩
  have H3 : Aside (Ks w w3 s F [] ∧ Ks w w3 t G [] ∧ Ap F G) := ⟨H2.out.1.stays s3, H2.out.2.1.stays s3, H2.out.2.2⟩
  clear KA H2 s3
  have KA := Lib.hid (alive_run w3 (H3.out.1.tabs HT.out.1))
  rcases HD with hd | hd
  · go_wp2_with fail
    refine KA.out.mono ?_
    rintro _ w4 ⟨rfl, s4⟩
    have H4 : Aside (Stp [] w [] w4) := H3.out.1.stp.trans s4
    clear H3 s4 KA
    go_wp2
    go_ret
    exact ⟨rfl, H4.out⟩
  rcases HE with he | he
  · go_wp2_with fail
    refine KA.out.mono ?_
    rintro _ w4 ⟨rfl, s4⟩
    have H4 : Aside (Stp [] w [] w4) := H3.out.1.stp.trans s4
    clear H3 s4 KA
    go_wp2
    go_ret
    exact ⟨rfl, H4.out⟩
  clear KA
  have hn12 : (n : Int) ≤ 1200 := by have := of_decide_eq_false hd; omega
  have hm60 : (m : Int) ≤ 60 := by have := of_decide_eq_false he; omega
  have HL : Aside (n ≤ cap0 ∧ l.length ≤ 1200 ∧ l.length = n) := by
    obtain ⟨_, _, q, _, _, q2, _⟩ := HT.out
    exact ⟨by omega, by omega, q.symm⟩
  have KF := Lib.hid (H3.out.1.feed HT.out.1 a0 n cap0 l (HT.out.2.1.stays H3.out.1.stp) HT.out.2.2.1 HT.out.2.2.2.2.2.2 (by have := HL.out.2.1; simp; omega))
  go_wp2_with fail
  refine KF.out.mono ?_
  rintro _ w4 ⟨rfl, F', k4, t4⟩
  have H4 : Aside (PcR w w4 s t l 0) := ⟨F', G, k4, H3.out.2.1.other t4 H3.out.1.low H3.out.2.2.symm, H3.out.2.2.fed t4 H3.out.2.1.lt⟩
  clear KF H3 k4 t4
  go_wp2_with fail
  go_loopg [7, 45] m (fun gk v7 vi wr => ∃ (k P r cP : Nat) (aP : Option Addr), vi = .int .i64 (k : Int) ∧ v7 = .slice aP r cP ∧ k ≤ m ∧ m - k ≤ gk ∧ r ≤ 1200 ∧ r ≤ cP ∧ Aside (P + r = n ∧ Bts w aP (l.drop P) ∧ (aP = none → cP = 0) ∧ PcR w wr s t l P))
  case atStart => exact ⟨0, 0, n, cap0, a0, rfl, rfl, by omega, by omega, by omega, HL.out.1, by omega, HT.out.2.1, HT.out.2.2.2.2.2.2, H4.out⟩
  case round =>
    obtain ⟨k, P, r, cP, aP, rfl, rfl, hk, hg, hr, hrc, HS⟩ := hrel
    by_cases hlt : k < m
    · have hltz : (k : Int) < (m : Int) := by omega
      obtain ⟨bb, off, rfl, hbb, hcc⟩ := HT.out.2.2.2.1 (by intro e; have h1 := HT.out.2.2.2.2.1; rw [e] at h1; simp at h1; omega)
      have hcell : wr.cell? ⟨bb, off + k, none⟩ = some (.int .i64 (cs[k]!)) := (HS.out.2.2.2.stp.cell (a := ⟨bb, off + k, none⟩) hbb (by simp)).trans (hcc k (by rw [← HT.out.2.2.2.2.1]; exact hlt))
      clear hcc
      generalize cs[k]! = c at *
      obtain ⟨z, hz⟩ : ∃ z, z = c % 18446744073709551616 := ⟨_, rfl⟩
      have e1 : IntKind.u64.wrap c = z := by rw [hz, IntKind.wrap_u64]
      have e2 : 0 ≤ z := by omega
      have e3 : z < 18446744073709551616 := by omega
      have e4 : IntKind.u64.wrap ((r : Int) + 1) = (r : Int) + 1 := by rw [IntKind.wrap_u64]; omega
      have e5 : IntKind.i64.wrap ((r : Int) + 1) = (r : Int) + 1 := by rw [IntKind.wrap_i64]; omega
      clear hz
      obtain ⟨j, hj⟩ : ∃ j : Nat, z % ((r : Int) + 1) = (j : Int) := ⟨(z % ((r : Int) + 1)).toNat, by
        have := Int.emod_nonneg z (show ((r : Int) + 1) ≠ 0 by omega)
        omega⟩
      have hjr : j ≤ r := by
        have := Int.emod_lt_of_pos z (show 0 < ((r : Int) + 1) by omega)
        omega
      have e6 : IntKind.i64.wrap (j : Int) = (j : Int) := by rw [IntKind.wrap_i64]; omega
      have s1 := cut_h aP r cP j (by omega)
      have s2 := cut_l aP r cP j hjr
      have KG := Lib.hid (HS.out.2.2.2.feed (n := n) HT.out.1 (cap := cP) HS.out.2.1 HS.out.2.2.1 (by have := HS.out.1; have := HL.out.2.2; omega) HL.out.2.1 j hjr)
      go_wp2_with fail
      refine KG.out.mono ?_
      rintro _ w5 ⟨rfl, h5⟩
      have H5 : Aside (P + j + (r - j) = n ∧ Bts w (cutp aP j cP) (l.drop (P + j)) ∧ (cutp aP j cP = none → cP - j = 0) ∧ PcR w w5 s t l (P + j)) := by
        have h0 := HS.out.1
        have h9 := HL.out.2.2
        refine ⟨by omega, ?_, fun e => ?_, h5⟩
        · have h1 := HS.out.2.1.cut (i := j) (j := r) (N := cP) hjr (by simp; omega) (by simp; omega)
          rw [List.drop_drop, List.take_of_length_le (by simp; omega)] at h1
          exact h1
        · have : aP = none := by
            unfold cutp at e
            split at e
            · exact e
            · cases aP with
              | none => rfl
              | some x => cases e
          rw [HS.out.2.2.1 this]
          omega
      clear KG h5 HS hcell
      go_wp2_with fail
      go_roundg (m - (k + 1))
      case measure => omega
      case rel => exact ⟨k + 1, P + j, r - j, cP - j, cutp aP j cP, by go_num, rfl, by omega, by omega, by omega, by omega, H5.out⟩
    · have hltz : ¬ (k : Int) < (m : Int) := by omega
      have KG := Lib.hid (HS.out.2.2.2.feed (n := n) HT.out.1 (cap := cP) HS.out.2.1 HS.out.2.2.1 (by have := HS.out.1; have := HL.out.2.2; omega) HL.out.2.1 r (Nat.le_refl _))
      go_wp2_with fail
      refine KG.out.mono ?_
      rintro _ w5 ⟨rfl, h5⟩
      have hS : ∃ r c b o N pa tx, Says w5 s r c b o N pa tx ∧ Says w5 t r c b o N pa tx ∧ N ≤ 1201 ∧ Stp [] w [] w5 := by
        have e : P + r = l.length := by have := HS.out.1; have := HL.out.2.2; omega
        obtain ⟨F2, G2, q1, q2, _⟩ := h5
        rw [e, List.take_length] at q2
        refine ⟨_, _, _, _, _, _, _, q1.says (by have := HL.out.2.1; omega), q2.says (by have := HL.out.2.1; omega), ?_, q1.stp⟩
        have := (seen_ok l).rows
        have := HL.out.2.1
        simp [rowsL]
        omega
      obtain ⟨pr, pc, pb, po, N, pa, tx, g1, g2, gN, gs⟩ := hS
      have HA := Lib.hid g1
      have HB := Lib.hid g2
      have HZ := Lib.hid gs
      clear KG h5 HS g1 g2 gs
      obtain ⟨M, hM, hMN⟩ : ∃ M : Nat, min (N : Int) 2000 = (M : Int) ∧ M ≤ N := ⟨N, by omega, Nat.le_refl _⟩
      have hNz : (N : Int) ≤ 1201 := by omega
      go_wp2_with fail
      refine (HA.out.place _ (Stp.refl _ _)).mono ?_
      rintro _ w6 ⟨rfl, s6⟩
      go_wp2_with fail
      refine (HB.out.place _ s6).mono ?_
      rintro _ w7 ⟨rfl, s7⟩
      replace s7 := s6.trans s7
      clear s6
      go_wp2_with fail
      refine (HA.out.rows _ s7).mono ?_
      rintro _ w8 ⟨rfl, s8⟩
      replace s8 := s7.trans s8
      clear s7
      go_wp2_with fail
      refine (HB.out.rows _ s8).mono ?_
      rintro _ w9 ⟨rfl, s9⟩
      replace s9 := s8.trans s9
      clear s8
      go_wp2_with fail
      refine (HA.out.bells _ s9).mono ?_
      rintro _ wa ⟨rfl, sa⟩
      replace sa := s9.trans sa
      clear s9
      go_wp2_with fail
      refine (HB.out.bells _ sa).mono ?_
      rintro _ wb ⟨rfl, sb⟩
      replace sb := sa.trans sb
      clear sa
      go_wp2_with fail
      refine (HA.out.pastes _ sb).mono ?_
      rintro _ wc ⟨rfl, sc⟩
      replace sc := sb.trans sc
      clear sb
      go_wp2_with fail
      refine (HB.out.pastes _ sc).mono ?_
      rintro _ wd ⟨rfl, sd⟩
      replace sd := sc.trans sd
      clear sc
      go_wp2_with fail
      refine (HA.out.odd _ sd).mono ?_
      rintro _ we ⟨rfl, se⟩
      replace se := sd.trans se
      clear sd
      go_wp2_with fail
      refine (HB.out.odd _ se).mono ?_
      rintro _ wf ⟨rfl, sf⟩
      replace sf := se.trans sf
      clear se
      go_wp2_with fail
      refine (HA.out.rows _ sf).mono ?_
      rintro _ wg ⟨rfl, sg⟩
      have HG : Aside (Stp [] w5 [] wg) := sf.trans sg
      clear sf sg
      go_wp2_with fail
      go_loopg [118] M (fun gk vi wr => ∃ i : Nat, vi = .int .i64 (i : Int) ∧ i ≤ M ∧ M - i ≤ gk ∧ Aside (Stp [] w5 [] wr))
      case atStart => exact ⟨0, rfl, by omega, by omega, HG.out⟩
      case round =>
        obtain ⟨i, rfl, hi, hgi, HI⟩ := hrel
        by_cases hil : i < M
        · have hilz : (i : Int) < (M : Int) := by omega
          have hi3 : (i : Int) ≤ 1201 := by omega
          have KA := Lib.hid (HA.out.row _ HI.out i (by omega))
          go_wp2_with fail
          refine KA.out.mono ?_
          rintro _ wh ⟨rfl, sh⟩
          replace sh := HI.out.trans sh
          have KB := Lib.hid (HB.out.row _ sh i (by omega))
          go_wp2_with fail
          refine KB.out.mono ?_
          rintro _ wi ⟨rfl, si⟩
          have HJ : Aside (Stp [] w5 [] wi) := sh.trans si
          clear KA KB HI sh si
          go_wp2_with fail
          go_roundg (M - (i + 1))
          case measure => omega
          case rel => exact ⟨i + 1, by go_num, by omega, by omega, HJ.out⟩
        · have hilz : ¬ (i : Int) < (M : Int) := by omega
          have HK := Lib.hid (HZ.out.trans HI.out)
          clear HI HG HZ
          go_wp2
          go_ret
          exact ⟨rfl, HK.out⟩
end Go.Proofs.YtdaenaoagejgeaaDoor
