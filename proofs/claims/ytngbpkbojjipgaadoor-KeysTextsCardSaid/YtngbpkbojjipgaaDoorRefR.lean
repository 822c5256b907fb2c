/-
  The document: Read.
-/
import Derived.Test.YtngbpkbojjipgaaDoorRefP
import Derived.Test.YtngbpkbojjipgaaDoorRefT
import Derived.Test.YtngbpkbojjipgaaDoorRefK
namespace Go.Proofs.YtngbpkbojjipgaaDoor
open Go.RowKit Go.Lib
set_option linter.unusedVariables false

set_option maxHeartbeats 4000000 in
set_option maxRecDepth 100000 in
theorem rread_run (l : List UInt8) (hl : l.length ≤ 900) (w : World) : Calls Tryd.prog 18 #[.string (st l)] w (Tells (rkv l) w) := by
  have KR : Hid (∀ W, Calls Tryd.prog 10 #[] W (NamedG W)) := Lib.hid fun W => (rnames_run W).mono fun e w' h => h.g
  have KU : Hid (∀ W, Calls Tryd.prog 31 #[.string (st l), .int .u8 32] W fun e w' => ∃ v, e = .returned v ∧ SOwn w' W.heap.size v (spl 32 l) ∧ Stp [] W [] w') := Lib.hid fun W => rcut_run l 32 (by omega) W
  have HM : Aside (∀ p ∈ spl 32 l, p.length ≤ l.length) := spl_mem_len 32 l
  have hne := spl_ne 32 l
  go_enter Tryd.func18, Tryd.ntmps18
  go_wp2_with fail
  refine (KR.out _).mono ?_
  rintro _ w1 ⟨g1, p1, rfl, hc1, hm1, n1, h1⟩
  have HS1 : Aside (At2 w1 w.heap.size 0 0 ∧ Nrow w1 g1 ∧ Stp [] w [] w1) := ⟨(At2.new w 0 0).stays h1, n1, (Stp.alloc [] w _).trans h1⟩
  clear n1 h1 KR
  go_wp2
  generalize hgs : w.heap.size = g0 at *
  go_loopg [5] 16 (fun gk vi wr => ∃ i : Nat, vi = .int .i64 (i : Int) ∧ 1 ≤ i ∧ i ≤ 16 ∧ 16 - i ≤ gk ∧ Aside ((∀ j, j < i → j ≠ 0 → kn j ≠ l) ∧ wr = w1))
  case atStart => exact ⟨1, rfl, by omega, by omega, by omega, fun j hj h0 => by omega, rfl⟩
  case round =>
    obtain ⟨i, rfl, hi1, hi, hg, HR⟩ := hrel
    obtain rfl : wr = w1 := HR.out.2
    by_cases hlt : i < 16
    · have hltz : (i : Int) < 16 := by omega
      have d1 := HS1.out.2.1 i hlt
      by_cases he : kn i = l
      · have hq : ((st (kn i)).toList == (st l).toList) = true := st_yes (by rw [he])
        have HV : Aside (rkv l = .tuple #[kv (i : Int) 0, .int .i64 0]) := by
          show rkv l = _
          rw [← he]
          exact rkv_name (by omega) hlt
        obtain ⟨c0, c1, f0, f1⟩ := HS1.out.1.cells
        have hl0 := HS1.out.1.lt
        clear he KU HM hne HR
        generalize st (kn i) = sn at *
        go_wp2
        refine bodyPost_ret (res_key2 rfl _ _ g0 (i : Int) 0 rfl (HS1.out.1.set (i : Int) 0)) rfl ?_
        exact ⟨by rw [HV.out]; rfl, (HS1.out.2.2.fresh (At2.stp _ _ _ _) (by simp [hgs])).none⟩
      · have hq : ((st (kn i)).toList == (st l).toList) = false := st_no (fun e => he (st_inj e))
        have HE : Aside (∀ j, j < i + 1 → j ≠ 0 → kn j ≠ l) := fun j hj h0 => by
          rcases Nat.lt_or_ge j i with q | q
          · exact HR.out.1 j q h0
          · have : j = i := by omega
            rw [this]
            exact he
        clear he
        generalize st (kn i) = sn at *
        go_wp2
        go_roundg (16 - (i + 1))
        case measure => omega
        case rel => exact ⟨i + 1, by go_num, by omega, by omega, by omega, HE.out, rfl⟩
    · have hltz : ¬ (i : Int) < 16 := by omega
      obtain rfl : i = 16 := by omega
      have HN : Aside (∀ j, j < 16 → j ≠ 0 → kn j ≠ l) := HR.out.1
      clear HR hlt hi hi1 hg
      go_wp2_with fail
      refine (KU.out _).mono ?_
      rintro _ w2 ⟨v, rfl, o2, h2⟩
      have HS2 : Aside (At2 w2 g0 0 0 ∧ Stp [] w [] w2) := ⟨HS1.out.1.stays h2, HS1.out.2.2.trans h2⟩
      obtain ⟨c0, c1, f0, f1⟩ := HS2.out.1.cells
      have hl0 := HS2.out.1.lt
      obtain ⟨a4, cap4, hv4, hn4, hc4, hm4, hr4⟩ := o2.form
      obtain ⟨ad, rfl⟩ : ∃ ad, a4 = some ad := by
        rcases a4 with _ | ad
        · exact absurd (hn4 rfl).2 hne
        · exact ⟨ad, rfl⟩
      obtain ⟨g4, rfl, _, hg4, hcell⟩ := hr4 ad rfl
      have HC : Aside (∀ (j : Nat) x, (spl 32 l)[j]? = some x → w2.cell? ⟨g4, j, none⟩ = some (.string (st x))) := hcell
      subst hv4
      clear hr4 hn4 o2 h2 HS1 KU hcell
      by_cases h2 : (spl 32 l).length = 2
      · obtain ⟨a0, b0, hab⟩ : ∃ a0 b0, spl 32 l = [a0, b0] := by
          rcases hL : spl 32 l with _ | ⟨a, _ | ⟨b, _ | ⟨c, r⟩⟩⟩
          · rw [hL] at h2; simp at h2
          · rw [hL] at h2; simp at h2
          · exact ⟨a, b, rfl⟩
          · rw [hL] at h2; simp at h2
        have da := HC.out 0 a0 (by rw [hab]; rfl)
        have db := HC.out 1 b0 (by rw [hab]; rfl)
        have hbl : b0.length ≤ 1000 := by
          have := HM.out b0 (by rw [hab]; simp)
          omega
        have KM : Hid (∀ W, Calls Tryd.prog 32 #[.string (st b0), .int .i64 10, .int .i64 7] W (Gives (.int .i64 (rz (rnum 10 7 b0))) W)) := Lib.hid fun W => rnum7_run b0 hbl W
        have KC : Hid (∀ W, Calls Tryd.prog 14 #[.agg #[.int .i64 0, .int .i64 (rz (rnum 10 7 b0))]] W (Tells (.int .i64 (chk 0 (rz (rnum 10 7 b0)) : Int)) W)) := Lib.hid fun W => rcheck_run 0 _ W
        rw [h2] at hc4 ⊢
        clear HC HM hne hbl
        by_cases ha : a0 = kn 0
        · have hq : ((st a0).toList == [114, 117, 110, 101]) = true := by rw [st_toList, ha]; rfl
          by_cases hk : chk 0 (rz (rnum 10 7 b0)) = 0
          · have HV : Aside (rkv l = .tuple #[kv 0 (rz (rnum 10 7 b0)), .int .i64 0]) := by
              show rkv l = _
              obtain ⟨n, m, e1, e2, _, h0, _⟩ := chk_zero hk
              have hs := (h0 (by omega)).1
              rw [← e2] at hs
              cases hv : rnum 10 7 b0 with
              | none =>
                rw [hv] at hs
                exact absurd hs (by decide)
              | some v =>
                rw [hv] at hs
                rw [rkv_rune (by rw [hab, ha]) hv hs]
                rfl
            rw [hk] at KC
            clear ha hk HN hab h2
            generalize rz (rnum 10 7 b0) = z at *
            generalize st a0 = sa at *
            go_wp2_with (first
              | (go_at_call 32; refine (KM.out _).mono ?_; rintro _ w3 ⟨rfl, hw⟩; obtain rfl : w2 = w3 := hw.symm)
              | (go_at_call 14; refine (KC.out _).mono ?_; rintro _ w4 ⟨rfl, h4⟩
                 have HS4 : Aside (At2 w4 g0 0 0 ∧ At2 w4 w2.heap.size 0 z ∧ Stp [] w [] w4) := ⟨(HS2.out.1.stays (Stp.alloc [] _ _)).stays h4, (At2.new w2 0 z).stays h4, (HS2.out.2.trans (Stp.alloc [] _ _)).trans h4⟩
                 obtain ⟨q0, q1, r0, r1⟩ := HS4.out.1.cells
                 obtain ⟨t0, t1, _, _⟩ := HS4.out.2.1.cells
                 have hl4 := HS4.out.1.lt
                 have hl5 := HS4.out.2.1.lt
                 clear h4))
            refine bodyPost_ret (res_key2 rfl _ _ g0 0 z rfl (HS4.out.1.set 0 z)) rfl ?_
            exact ⟨by rw [HV.out]; rfl, (HS4.out.2.2.fresh (At2.stp _ _ _ _) (by simp [hgs])).none⟩
          · have HV : Aside (rkv l = .tuple #[kv 0 0, .int .i64 8]) := by
              refine rkv_none2 (fun i hi h0 => HN.out i hi h0) fun b hb v hv => ?_
              rw [hab] at hb
              simp only [List.cons.injEq, and_true] at hb
              obtain ⟨_, rfl⟩ := hb
              cases hs : shown (v : Int) with
              | false => rfl
              | true =>
                rw [hv] at hk
                exact absurd (chk_rune hs) hk
            have hkz : (((chk 0 (rz (rnum 10 7 b0)) : Nat) : Int) == 0) = false := beq_eq_false_iff_ne.2 (by omega)
            clear ha hk HN hab h2
            generalize ((chk 0 (rz (rnum 10 7 b0)) : Nat) : Int) = q at *
            generalize rz (rnum 10 7 b0) = z at *
            generalize st a0 = sa at *
            go_wp2_with (first
              | (go_at_call 32; refine (KM.out _).mono ?_; rintro _ w3 ⟨rfl, hw⟩; obtain rfl : w2 = w3 := hw.symm)
              | (go_at_call 14; refine (KC.out _).mono ?_; rintro _ w4 ⟨rfl, h4⟩
                 have HS4 : Aside (At2 w4 g0 0 0 ∧ Stp [] w [] w4) := ⟨(HS2.out.1.stays (Stp.alloc [] _ _)).stays h4, (HS2.out.2.trans (Stp.alloc [] _ _)).trans h4⟩
                 obtain ⟨q0, q1, r0, r1⟩ := HS4.out.1.cells
                 have hl4 := HS4.out.1.lt
                 clear h4))
            refine bodyPost_ret (res_key2 rfl _ _ g0 0 0 rfl (HS4.out.1.set 0 0)) rfl ?_
            exact ⟨by rw [HV.out]; rfl, (HS4.out.2.fresh (At2.stp _ _ _ _) (by simp [hgs])).none⟩
        · have hq : ((st a0).toList == [114, 117, 110, 101]) = false := by rw [st_toList]; exact beq_eq_false_iff_ne.2 ha
          have HV : Aside (rkv l = .tuple #[kv 0 0, .int .i64 8]) := by
            refine rkv_none2 (fun i hi h0 => HN.out i hi h0) fun b hb v hv => ?_
            rw [hab] at hb
            simp only [List.cons.injEq, and_true] at hb
            exact absurd hb.1 ha
          clear ha HN hab h2 KM KC
          generalize st a0 = sa at *
          go_wp2
          refine bodyPost_ret (res_key2 rfl _ _ g0 0 0 rfl (HS2.out.1.set 0 0)) rfl ?_
          exact ⟨by rw [HV.out]; rfl, (HS2.out.2.fresh (At2.stp _ _ _ _) (by simp [hgs])).none⟩
      · have hz : (((spl 32 l).length : Int) == 2) = false := beq_eq_false_iff_ne.2 (by omega)
        have HV : Aside (rkv l = .tuple #[kv 0 0, .int .i64 8]) := by
          refine rkv_none2 (fun i hi h0 => HN.out i hi h0) fun b hb v hv => ?_
          rw [hb] at h2
          exact absurd rfl h2
        clear HC HM hne h2 HN
        generalize (spl 32 l).length = L at *
        go_wp2
        refine bodyPost_ret (res_key2 rfl _ _ g0 0 0 rfl (HS2.out.1.set 0 0)) rfl ?_
        exact ⟨by rw [HV.out]; rfl, (HS2.out.2.fresh (At2.stp _ _ _ _) (by simp [hgs])).none⟩
end Go.Proofs.YtngbpkbojjipgaaDoor
