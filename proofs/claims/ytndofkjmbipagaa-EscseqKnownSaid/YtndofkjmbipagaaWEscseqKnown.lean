/-
  The walk of EscseqKnown.
-/
import Derived.Test.YtndofkjmbipagaaSrt
import Derived.Test.YtndofkjmbipagaaWEscseqBehind
import Derived.Deep.DeepCutAuto
import Derived.Deep.CutBlock
namespace Go.Proofs.Ytndofkjmbipagaa
open Go.RowKit Go.Lib
set_option linter.unusedVariables false

theorem kno_tab : ∀ i, i < 15 → 1 ≤ (kno[i]!).length ∧ (kno[i]!).length ≤ 6 ∧ nx (kno[i]!) = ⟨kk (kno[i]!), (kno[i]!).length, 0⟩ ∧ kk (kno[i]!) ≠ 15 := by decide
theorem kno_cut : ∀ i, i < 15 → ∀ j, j < 6 → 1 ≤ j → j < (kno[i]!).length → (nx ((kno[i]!).take j)).e = 7 := by decide
theorem kno_len : kno.length = 15 := rfl
set_option maxHeartbeats 4000000 in
set_option maxRecDepth 100000 in
theorem known_walk (a : Option Addr) (cap : Nat) (m : List UInt8) (w : World) (hb : Bts w a m) (hc : m.length ≤ cap) (hz : a = none → cap = 0) : Calls Try.prog 4 #[.slice a m.length cap] w (Truth w) := by
  have KA := Lib.hid alive_run
  have KL := Lib.hid all_run
  have KR := Lib.hid rknown_run
  have HB : Aside (Bts w a m ∧ m.length ≤ cap ∧ (a = none → cap = 0)) := ⟨hb, hc, hz⟩
  obtain ⟨nm, hnm⟩ : ∃ nm, nm = m.length := ⟨_, rfl⟩
  have HNM : Aside (nm = m.length) := hnm
  rw [← hnm]
  clear hb hc hz hnm
  go_enter Try.func4, Try.ntmps4
  go_wp2_with fail
  refine (KL.out _).mono ?_
  rintro _ w1 ⟨v, rfl, ho, s1⟩
  obtain ⟨al, cl, rfl, _, _, _, hal⟩ := ho.form
  have hne : ∃ ad, al = some ad := by
    rcases al with _ | ad
    · rcases ho.2 with ⟨h, h0⟩ | ⟨g, cap', cur, h, _⟩
      · rw [kno_len] at h0
        omega
      · cases h
    · exact ⟨ad, rfl⟩
  obtain ⟨ad, rfl⟩ := hne
  obtain ⟨gl, rfl, _, hgl, hcl⟩ := hal ad rfl
  have H1 : Aside ((∀ i, i < 15 → w1.cell? ⟨gl, i, none⟩ = some (.string (st (kno[i]!)))) ∧ Stp [] w [] w1) := ⟨fun i hi => hcl i _ (by rw [getElem!_pos kno i hi]; exact List.getElem?_eq_getElem hi), s1⟩
  rw [kno_len]
  clear ho hcl hal hgl s1
  go_wp2_with fail
  refine (KR.out _).mono ?_
  rintro _ w2 ⟨g2, rfl, hr, s2⟩
  have H2 : Aside ((∀ i, i < 15 → w2.cell? ⟨gl, i, none⟩ = some (.string (st (kno[i]!)))) ∧ SBlk w2 g2 kno ∧ Stp [] w [] w2) := ⟨fun i hi => s2.keeps rfl (H1.out.1 i hi), hr, H1.out.2.trans s2⟩
  clear hr s2
  go_wp2_with fail
  refine (KA.out _).mono ?_
  rintro _ w3 ⟨rfl, s3⟩
  have H3 : Aside ((∀ i, i < 15 → w3.cell? ⟨gl, i, none⟩ = some (.string (st (kno[i]!)))) ∧ SBlk w3 g2 kno ∧ Stp [] w [] w3) := ⟨fun i hi => s3.keeps rfl (H2.out.1 i hi), H2.out.2.1.stays s3, H2.out.2.2.trans s3⟩
  clear s3
  by_cases h1000 : 1000 < nm
  · have hz : (1000 : Int) < (nm : Int) := by omega
    go_wp2_with fail
    refine (KA.out _).mono ?_
    rintro _ w4 ⟨rfl, s4⟩
    go_wp2
    go_ret
    exact ⟨rfl, (H3.out.2.2.trans s4).under⟩
  · have hz : decide ((1000 : Int) < (nm : Int)) = false := decide_eq_false (by omega)
    have HM : Aside (m.length ≤ 1000) := by rw [← HNM.out]; show nm ≤ 1000; omega
    clear h1000
    go_wp2
    go_loopg [37] 15 (fun gk v37 wr => ∃ i : Nat, v37 = .int .i64 (i : Int) ∧ i ≤ 15 ∧ 15 - i ≤ gk ∧ Aside (Stp [] w3 [] wr))
    case atStart => exact ⟨0, rfl, by omega, by omega, Stp.refl [] w3⟩
    case round =>
      obtain ⟨i, rfl, hi, hgk, HS⟩ := hrel
      by_cases hlt : i < 15
      · have hltz : (i : Int) < 15 := by omega
        obtain ⟨t1, t2, t3, t4⟩ := kno_tab i hlt
        have tc := kno_cut i hlt
        have HC : Aside (∀ W, Stp [] w3 [] W → W.cell? ⟨gl, i, none⟩ = some (.string (st (kno[i]!))) ∧ W.cell? ⟨g2, i, none⟩ = some (.string (st (kno[i]!)))) :=
          fun W hW => ⟨hW.keeps rfl (H3.out.1 i hlt), (H3.out.2.1.stays hW).cell (i := i) hlt⟩
        have hap : nx (kno[i]! ++ m) = ⟨kk (kno[i]!), (kno[i]!).length, 0⟩ := by rw [nx_app m (by rw [t3]), t3]
        have hsz : (st (kno[i]!)).size = (kno[i]!).length := st_size _
        obtain ⟨g4, cap4, w4, hcv, hmk, hg4, s4⟩ := conv_mk wr (kno[i]!) (by omega)
        have hx1 := (HC.out wr HS.out).1
        have HCut : Aside (∀ j, 1 ≤ j → j < (kno[i]!).length → (st (kno[i]!)).extract 0 j = st ((kno[i]!).take j) ∧ (nx ((kno[i]!).take j)).e = 7 ∧ ((kno[i]!).take j).length = j) := fun j h1 h2 =>
          ⟨by rw [st_extract]; simp, tc j (by omega) h1 h2, by rw [List.length_take]; omega⟩
        generalize kno[i]! = s at *
        have H4 : Aside (Mk w4 g4 cap4 s ∧ w.heap.size ≤ g4 ∧ Stp [] w3 [] w4 ∧ Stp [] w [] w4 ∧ s.length ≤ 6 ∧ Stp [] wr [] w4 ∧ wr.heap.size ≤ g4) := ⟨hmk, Nat.le_trans (Nat.le_trans H3.out.2.2.size HS.out.size) hg4, HS.out.trans s4, H3.out.2.2.trans (HS.out.trans s4), t2, s4, hg4⟩
        obtain ⟨sm, HSM⟩ : ∃ sm, Aside (s ++ m = sm) := ⟨s ++ m, show s ++ m = s ++ m from rfl⟩
        have hk15 : (kk s == 15) = false := beq_eq_false_iff_ne.2 t4
        have KX : Hid (∀ W a' c', Bts W a' sm → sm.length ≤ c' → Calls Try.prog 9 #[.slice a' sm.length c'] W (Tells (.tuple #[.agg #[.int .i64 (kk s), .int .i64 0], .int .i64 (s.length : Int), .int .i64 0]) W)) := Lib.hid (fun W a' c' h hc => by
          have h1 := next_run a' _ c' _ W h rfl hc (by rw [← HSM.out]; have := HM.out; simp; omega)
          rw [← HSM.out, hap] at h1
          rw [← HSM.out]
          exact h1)
        obtain ⟨L, hL⟩ : ∃ L, L = s.length := ⟨_, rfl⟩
        have HL : Aside (L = s.length) := hL
        rw [← hL] at KX hsz t1 t2 hcv
        clear hL hmk s4 hg4 t3 t4 tc hap
        generalize kk s = kx at *
        generalize st s = ss at *
        go_wp2_with (first
          | (at_builtin
             refine wpList_app_mk rfl (.tmp 44) (.tmp 45) rfl g4 cap4 L s HL.out rfl H4.out.1 a cap nm m HNM.out rfl (HB.out.1.stays H4.out.2.2.2.1) HB.out.2.2 (by have := HM.out; have := H4.out.2.2.2.2.1; omega) ?_
             intro v5 w5 hv5
             obtain ⟨a5, c5, rfl, hb5, hl5, s5⟩ := hv5
             rw [HSM.out] at hb5 hl5
             rw [HSM.out]
             have H5 : Aside (Bts w5 a5 sm ∧ sm.length ≤ c5 ∧ Stp [] wr [] w5) := ⟨hb5, hl5, (H4.out.2.2.2.2.2.1.fresh s5 (fun q hq => by rw [List.mem_singleton.1 hq]; exact H4.out.2.2.2.2.2.2)).none⟩
             clear hb5 hl5 s5))
        refine (KX.out _ _ _ H5.out.1 H5.out.2.1).mono ?_
        rintro _ w6 ⟨rfl, s6⟩
        have H6 : Aside (Stp [] w3 [] (w6.alloc (.cells #[.int .i64 kx, .int .i64 0] 25)) ∧ At2 (w6.alloc (.cells #[.int .i64 kx, .int .i64 0] 25)) w6.heap.size kx 0) := ⟨HS.out.trans ((H5.out.2.2.trans s6).trans (Stp.alloc [] _ _)), At2.new w6 kx 0⟩
        clear s6 KX hcv hx1
        go_upto_region 8 with fail
        generalize w6.alloc (.cells #[.int .i64 kx, .int .i64 0] 25) = w7 at *
        generalize w6.heap.size = g6 at *
        obtain ⟨d0, d1, _, _⟩ := H6.out.2.cells
        have hx2 := (HC.out w7 H6.out.1).2
        go_wp2
        clear d0 d1 hx2
        go_loopg [10] L (fun gk2 v10 wx => ∃ j : Nat, v10 = .int .i64 (j : Int) ∧ 1 ≤ j ∧ j ≤ L ∧ L - j ≤ gk2 ∧ Aside (Stp [] w3 [] wx))
        case atStart => exact ⟨1, rfl, by omega, by omega, by omega, H6.out.1⟩
        case round =>
          obtain ⟨j, rfl, hj1, hjL, hgk2, HX⟩ := hrel
          by_cases hjl : j < L
          · have hjz : (j : Int) < (L : Int) := by omega
            obtain ⟨hext, he7, hlj⟩ := HCut.out j hj1 (by rw [← HL.out]; exact hjl)
            obtain ⟨a7, c7, w8, hcv7, hb7, hc7, _, s7⟩ := conv_st wr (s.take j) (by rw [hlj]; omega)
            have K := Lib.hid (begins_run a7 _ c7 (s.take j) w8 hb7 rfl hc7 (by rw [hlj]; omega))
            rw [he7] at K
            have K : Hid (Calls Try.prog 11 #[.slice a7 (s.take j).length c7] w8 (Tells (.bool true) w8)) := K
            rw [hlj] at K hcv7
            have H8 : Aside (Stp [] w3 [] w8) := HX.out.trans s7
            have hjs : (j : Int) ≤ (ss.size : Int) := by rw [hsz]; omega
            clear hb7 hc7 s7 he7 hlj
            generalize st (s.take j) = s8 at *
            go_wp2_with fail
            refine K.out.mono ?_
            rintro _ w9 ⟨rfl, s9⟩
            have H9 : Aside (Stp [] w3 [] w9) := H8.out.trans s9
            clear s9 K
            go_wp2
            go_roundg (L - (j + 1))
            case measure => omega
            case rel => exact ⟨j + 1, by go_num, by omega, by omega, by omega, H9⟩
          · have hjz : decide ((j : Int) < (L : Int)) = false := decide_eq_false (by omega)
            have hjz2 : ¬ (j : Int) < (L : Int) := by omega
            go_wp2
            go_roundg (15 - (i + 1))
            case measure => omega
            case rel => exact ⟨i + 1, by go_num, by omega, by omega, HX⟩
      · have hltz : decide ((i : Int) < 15) = false := decide_eq_false (by omega)
        obtain rfl : i = 15 := by omega
        go_wp2
        go_ret
        exact ⟨rfl, (H3.out.2.2.trans HS.out).under⟩
end Go.Proofs.Ytndofkjmbipagaa
