/-
  The document: Bytes.
-/
import Derived.Test.YthfiilhbgogoaaaGreatDoorRefN
import Derived.Test.YthfiilhbgogoaaaGreatDoorRefC
import Derived.Test.YthfiilhbgogoaaaGreatDoorByt
import Derived.Test.YthfiilhbgogoaaaGreatDoorEr
import Derived.Deep.DeepCutAuto
import Derived.Deep.CutBlock
namespace Go.Proofs.YthfiilhbgogoaaaGreatDoor
open Go.RowKit Go.Lib
set_option linter.unusedVariables false

theorem dvr_hx0 : ∀ n, n < 256 → dvr 16 (UInt8.ofNat n) = (if hx (UInt8.ofNat n) < 0 then none else some (hx (UInt8.ofNat n)).toNat) := by decide +kernel
theorem hx_lt0 : ∀ n, n < 256 → hx (UInt8.ofNat n) < 16 := by decide +kernel
theorem u8_of (c : UInt8) : UInt8.ofNat c.toNat = c := by simp
theorem dvr_hx (c : UInt8) : dvr 16 c = (if hx c < 0 then none else some (hx c).toNat) := by
  have := dvr_hx0 c.toNat c.toNat_lt
  rwa [u8_of] at this
theorem hx_lt16 (c : UInt8) : hx c < 16 := by
  have := hx_lt0 c.toNat c.toNat_lt
  rwa [u8_of] at this
/-- A pair without its nought ahead. -/
def strip (x y : UInt8) : List UInt8 := if x = 48 then [y] else [x, y]
theorem strip_num (x y : UInt8) : rnum 16 2 (strip x y) = if hx x < 0 ∨ hx y < 0 then none else some ((hx x) * 16 + hx y).toNat := by
  have h48 : hx 48 = 0 := by decide
  unfold rnum strip
  by_cases hx48 : x = 48
  · subst hx48
    rw [if_pos rfl, if_neg (by unfold bad; rintro (h | h | ⟨h1, h2⟩) <;> simp_all), h48]
    simp only [nu, dvr_hx y]
    by_cases hy : hx y < 0
    · simp [hy]
    · simp [hy]
  · rw [if_neg hx48, if_neg (by unfold bad; rintro (h | h | ⟨h1, h2⟩) <;> simp_all)]
    simp only [nu, dvr_hx x, dvr_hx y]
    by_cases h1 : hx x < 0
    · simp [h1]
    · by_cases h2 : hx y < 0
      · simp [h1, h2]
      · simp [h1, h2]
        omega
theorem cut_str (ss : ByteArray) (a b : Nat) (hab : a ≤ b) (hb : b ≤ ss.size) (W : World) : (Instr.slice 9 (.string ss) (some (.int .i64 (a : Int))) (some (.int .i64 (b : Int))) none).run Tryz.prog W = .ok (.string (ss.extract a b)) W := by
  have h1 : (0 : Int) ≤ (a : Int) := by omega
  have h2 : (a : Int) ≤ (b : Int) := by omega
  have h3 : (b : Int) ≤ (ss.size : Int) := by omega
  simp [Instr.slice, run_underlying Tryz.underlying9, Instr.sliceBounds, run_sliceBound, *]
theorem bts_one {W : World} {x : UInt8} {z : Int} (h : bval x = .int .u8 z) : Bts (W.alloc (.cells #[.int .u8 z] 5)) (some ⟨W.heap.size, 0, none⟩) [x] := by
  rw [← h]
  exact Blk.bts (C := [x]) (by unfold Blk; rw [heap_alloc_new]; rfl)
theorem pairs_bad {x y : UInt8} (r : List UInt8) (h : hx x < 0 ∨ hx y < 0) : pairs (x :: y :: r) = none := by rw [pairs, if_pos h]
theorem pairs_ok {x y : UInt8} (r : List UInt8) (h : ¬ (hx x < 0 ∨ hx y < 0)) : pairs (x :: y :: r) = (pairs r).map fun d => (hx x * 16 + hx y).toNat.toUInt8 :: d := by rw [pairs, if_neg h]
set_option maxHeartbeats 4000000 in
set_option maxRecDepth 100000 in
theorem rbytes_run (s : List UInt8) (hs : s.length ≤ 100000) (w : World) : Calls Tryz.prog 40 #[.string (st s)] w (Bytes (unhex s) w) := by
  have hsz := st_size s
  by_cases h1 : s = [45]
  · subst h1
    have HU : Aside (unhex [45] = some []) := rfl
    have hst : st [45] = ⟨#[45]⟩ := rfl
    rw [hst]
    clear hsz
    go_enter Tryz.func40, Tryz.ntmps40
    go_wp2
    go_ret2
    exact ⟨Stp.refl _ _, none, 0, rfl, Bts.nil _ _, Nat.le_refl _, fun _ => rfl, fun ad h => by cases h⟩
  have hq : ((st s).toList == [45]) = false := by rw [st_toList]; exact beq_eq_false_iff_ne.2 h1
  by_cases h2 : s = []
  · subst h2
    have HU : Aside (unhex [] = none) := rfl
    have hst : st [] = ⟨#[]⟩ := rfl
    rw [hst] at hq ⊢
    clear hsz
    go_enter Tryz.func40, Tryz.ntmps40
    go_wp2
    go_ret2
    exact ⟨Stp.refl _ _, rfl⟩
  have hemp := emp_st h2
  by_cases h3 : s.length % 2 = 0
  · have HU : Aside (unhex s = pairs s) := by
      show unhex s = pairs s
      unfold unhex
      rw [if_neg h1, if_neg (by rintro (h | h); exact h2 h; exact h h3)]
    have htm : Int.tmod (s.length : Int) 2 = 0 := by rw [Int.tmod_eq_emod_of_nonneg (by omega)]; omega
    obtain ⟨n, hn⟩ : ∃ n, s.length = 2 * n := ⟨s.length / 2, by omega⟩
    have HN : Aside (s.length = 2 * n) := hn
    have hn5 : n ≤ 50000 := by omega
    have hcutA : ∀ i, i < n → ∃ x y, s.drop (2 * i) = x :: y :: s.drop (2 * (i + 1)) := fun i hi => by
      refine ⟨s[2 * i]'(by omega), s[2 * i + 1]'(by omega), ?_⟩
      rw [List.drop_eq_getElem_cons (by omega), List.drop_eq_getElem_cons (show 2 * i + 1 < s.length by omega)]
      rfl
    have HCut := Lib.hid hcutA
    have HQ : Aside (∀ i x y, i < n → s.drop (2 * i) = x :: y :: s.drop (2 * (i + 1)) → (st s).extract (2 * i) (2 * i + 2) = st [x, y]) := fun i x y hi h => by
      rw [st_extract, h]
      simp
    rw [hn] at hsz htm
    obtain ⟨N, hNN⟩ : ∃ N, N = 2 * n := ⟨_, rfl⟩
    rw [← hNN] at hsz htm
    have HNN : Aside (N = 2 * n) := hNN
    clear h1 h2 h3 hcutA hn hNN
    generalize st s = ss at *
    go_enter Tryz.func40, Tryz.ntmps40
    go_wp2
    go_loopg [4, 5] n (fun gk v4 v5 wr => ∃ i j : Nat, v5 = .int .i64 (j : Int) ∧ Aside (j = 2 * i) ∧ i ≤ n ∧ n - i ≤ gk ∧ Aside (∃ D : List UInt8, D.length = i ∧ pairs s = (pairs (s.drop (2 * i))).map (fun d => D ++ d) ∧ Own wr w.heap.size v4 D ∧ Stp [] w [] wr))
    case atStart => exact ⟨0, 0, rfl, rfl, by omega, by omega, [], rfl, by simp, Own.nil _ _, Stp.refl _ _⟩
    case round =>
      obtain ⟨i, j, rfl, HJ, hi, hgk, HS⟩ := hrel
      have hj := HJ.out
      obtain ⟨D, hD, hp, ho, hst⟩ := HS.out
      obtain ⟨a4, c4, hv4, _, _, _, _⟩ := ho.bts
      subst hv4
      by_cases hlt : i < n
      · have hltz : (j : Int) < (N : Int) := by have := HNN.out; omega
        have hltn : 2 * i < 2 * n := by omega
        have hjb : j ≤ 100000 := by omega
        obtain ⟨x, y, hdr⟩ := HCut.out i hlt
        have hex := HQ.out i x y hlt hdr
        have hcut : ∀ W, (Instr.slice 9 (.string ss) (some (.int .i64 (j : Int))) (some (.int .i64 ((j : Int) + 2))) none).run Tryz.prog W = .ok (.string (st [x, y])) W := fun W => by
          have h := cut_str ss j (j + 2) (by omega) (by have := HNN.out; omega) W
          rw [hj, hex] at h
          rw [← hj] at h
          have e2 : ((j + 2 : Nat) : Int) = (j : Int) + 2 := by omega
          rw [e2] at h
          exact h
        have HI := index_st [x, y] 0 (by simp)
        have e1 : ([x, y] : List UInt8)[0]! = x := rfl
        have c0 : ((0 : Nat) : Int) = 0 := rfl
        rw [e1, c0] at HI
        unfold bval at HI
        have HC1 := cut1 x [y]
        have KN := Lib.hid (rnum2_run (strip x y) (by unfold strip; split <;> simp) wr)
        rw [strip_num] at KN
        clear hj
        by_cases hbad : hx x < 0 ∨ hx y < 0
        · rw [if_pos hbad] at KN
          have KN : Hid (Calls Tryz.prog 38 #[.string (st (strip x y)), .int .i64 16, .int .i64 2] wr (Gives (.int .i64 (-1)) wr)) := KN
          have HE : Aside (unhex s = none ∧ Stp [] w [] wr) := ⟨by rw [HU.out, hp, hdr, pairs_bad _ hbad]; rfl, hst⟩
          clear HS hp ho hst hdr hex hbad hD hltn htm
          by_cases h48 : x = 48
          · have hs48 : strip x y = [y] := by unfold strip; rw [if_pos h48]
            rw [hs48] at KN
            subst h48
            have c48 : (((48 : UInt8).toNat : Nat) : Int) = 48 := rfl
            rw [c48] at HI
            generalize st [y] = s1 at *
            generalize st [48, y] = s2 at *
            go_wp2_with fail
            refine KN.out.mono ?_
            rintro _ w1 ⟨rfl, rfl⟩
            go_wp2
            go_ret2
            exact ⟨HE.out.2, by rw [HE.out.1]; rfl⟩
          · have hs48 : strip x y = [x, y] := by unfold strip; rw [if_neg h48]
            rw [hs48] at KN
            have hz48 : ((x.toNat : Nat) : Int) ≠ 48 := fun e => h48 (UInt8.toNat_inj.1 (show x.toNat = 48 by omega))
            have hz482 : (((x.toNat : Nat) : Int) == 48) = false := beq_eq_false_iff_ne.2 hz48
            clear HC1 h48
            generalize ((x.toNat : Nat) : Int) = zx at *
            generalize st [x, y] = s2 at *
            go_wp2_with fail
            refine KN.out.mono ?_
            rintro _ w1 ⟨rfl, rfl⟩
            go_wp2
            go_ret2
            exact ⟨HE.out.2, by rw [HE.out.1]; rfl⟩
        · have hx1 := hx_lt16 x
          have hy1 := hx_lt16 y
          rw [if_neg hbad] at KN
          obtain ⟨V, hV⟩ : ∃ V, V = (hx x * 16 + hx y).toNat := ⟨_, rfl⟩
          have hV255 : V ≤ 255 := by omega
          have hpn : pairs s = (pairs (s.drop (2 * (i + 1)))).map (fun d => (D ++ [V.toUInt8]) ++ d) := by
            rw [hp, hdr, pairs_ok _ hbad, ← hV]
            cases pairs (s.drop (2 * (i + 1))) <;> simp
          rw [← hV] at KN
          have KN : Hid (Calls Tryz.prog 38 #[.string (st (strip x y)), .int .i64 16, .int .i64 2] wr (Gives (.int .i64 (V : Int)) wr)) := KN
          have HE : Aside (D.length = i ∧ pairs s = (pairs (s.drop (2 * (i + 1)))).map (fun d => (D ++ [V.toUInt8]) ++ d) ∧ Own wr w.heap.size (.slice a4 D.length c4) D ∧ Stp [] w [] wr) := ⟨hD, hpn, ho, hst⟩
          have HV : Aside (bval V.toUInt8 = .int .u8 (V : Int)) := by
            show bval V.toUInt8 = _
            unfold bval
            rw [show V.toUInt8.toNat = V from UInt8.toNat_ofNat_of_lt' (show V < 256 by omega)]
          have hVz : (V : Int) ≤ 255 := by omega
          have hVz0 : (0 : Int) ≤ (V : Int) := by omega
          have hv0 : ¬ (V : Int) < 0 := by omega
          clear HS hp ho hst hdr hex hbad hD hltn htm hpn hV hx1 hy1 hV255
          generalize ((V : Nat) : Int) = zv at *
          by_cases h48 : x = 48
          · have hs48 : strip x y = [y] := by unfold strip; rw [if_pos h48]
            rw [hs48] at KN
            subst h48
            have c48 : (((48 : UInt8).toNat : Nat) : Int) = 48 := rfl
            rw [c48] at HI
            generalize st [y] = s1 at *
            generalize st [48, y] = s2 at *
            go_wp2_with fail
            refine KN.out.mono ?_
            rintro _ w1 ⟨rfl, rfl⟩
            go_upto_region 15 with fail
            have HGK : Aside (i < n ∧ n - i ≤ gk ∧ D.length ≤ 50000) := ⟨hlt, hgk, by have := HE.out.1; omega⟩
            have hwm : IntKind.u8.wrap zv = zv := by rw [IntKind.wrap_u8]; omega
            clear hcut HI hs48 hgk hn5 hsz hq hemp hltz hi hlt hv0 c48 HC1
            go_wp2_with (first
              | (at_builtin
                 refine wpList_app rfl (.tmp 38) (.tmp 41) rfl w.heap.size (.slice a4 D.length c4) D rfl (HE.out.2.2.1.other (Stp.alloc [] _ _) (by simp)) (some ⟨w1.heap.size, 0, none⟩) 1 1 [V.toUInt8] rfl rfl (bts_one (z := zv) HV.out) (fun h => by cases h) (by have h1 := HGK.out.2.2; simp; omega) (by have := HE.out.2.2.2.size; rw [World.size_alloc]; omega) ?_
                 intro v2 w2 ho2 hg2
                 have H2 : Aside (Own w2 w.heap.size v2 (D ++ [V.toUInt8]) ∧ Stp [] w [] w2) := ⟨ho2, (HE.out.2.2.2.trans (Stp.alloc [] _ _)).app hg2 (fun j hj => (HE.out.2.2.1.lt j hj).1)⟩
                 clear ho2 hg2))
            go_roundg (n - (i + 1))
            case measure => have := HGK.out; omega
            case rel => exact ⟨i + 1, j + 2, by go_num, show j + 2 = 2 * (i + 1) by have := HJ.out; omega, by have := HGK.out; omega, by have := HGK.out; omega, D ++ [V.toUInt8], by simp [HE.out.1], HE.out.2.1, H2.out.1, H2.out.2⟩
          · have hs48 : strip x y = [x, y] := by unfold strip; rw [if_neg h48]
            rw [hs48] at KN
            have hz48 : ((x.toNat : Nat) : Int) ≠ 48 := fun e => h48 (UInt8.toNat_inj.1 (show x.toNat = 48 by omega))
            have hz482 : (((x.toNat : Nat) : Int) == 48) = false := beq_eq_false_iff_ne.2 hz48
            clear HC1 h48
            generalize ((x.toNat : Nat) : Int) = zx at *
            generalize st [x, y] = s2 at *
            go_wp2_with fail
            refine KN.out.mono ?_
            rintro _ w1 ⟨rfl, rfl⟩
            go_upto_region 15 with fail
            have HGK : Aside (i < n ∧ n - i ≤ gk ∧ D.length ≤ 50000) := ⟨hlt, hgk, by have := HE.out.1; omega⟩
            have hwm : IntKind.u8.wrap zv = zv := by rw [IntKind.wrap_u8]; omega
            clear hcut HI hs48 hgk hn5 hsz hq hemp hltz hi hlt hv0 hz48 hz482
            go_wp2_with (first
              | (at_builtin
                 refine wpList_app rfl (.tmp 38) (.tmp 41) rfl w.heap.size (.slice a4 D.length c4) D rfl (HE.out.2.2.1.other (Stp.alloc [] _ _) (by simp)) (some ⟨w1.heap.size, 0, none⟩) 1 1 [V.toUInt8] rfl rfl (bts_one (z := zv) HV.out) (fun h => by cases h) (by have h1 := HGK.out.2.2; simp; omega) (by have := HE.out.2.2.2.size; rw [World.size_alloc]; omega) ?_
                 intro v2 w2 ho2 hg2
                 have H2 : Aside (Own w2 w.heap.size v2 (D ++ [V.toUInt8]) ∧ Stp [] w [] w2) := ⟨ho2, (HE.out.2.2.2.trans (Stp.alloc [] _ _)).app hg2 (fun j hj => (HE.out.2.2.1.lt j hj).1)⟩
                 clear ho2 hg2))
            go_roundg (n - (i + 1))
            case measure => have := HGK.out; omega
            case rel => exact ⟨i + 1, j + 2, by go_num, show j + 2 = 2 * (i + 1) by have := HJ.out; omega, by have := HGK.out; omega, by have := HGK.out; omega, D ++ [V.toUInt8], by simp [HE.out.1], HE.out.2.1, H2.out.1, H2.out.2⟩
      · have hltz : decide ((j : Int) < (N : Int)) = false := decide_eq_false (by have := HNN.out; omega)
        have hltz2 : ¬ (j : Int) < (N : Int) := by have := HNN.out; omega
        obtain rfl : i = n := by omega
        have hdr : s.drop (2 * i) = [] := List.drop_eq_nil_of_le (by rw [HN.out]; exact Nat.le_refl _)
        clear hj
        obtain ⟨a4', c4', hv4, hb4, hz4, hl4, hf4⟩ := ho.bts
        injection hv4 with e1 _ e3
        subst e1 e3
        have HE : Aside (unhex s = some D ∧ Bts wr a4 D ∧ (a4 = none → c4 = 0) ∧ D.length ≤ c4 ∧ (∀ ad, a4 = some ad → w.heap.size ≤ ad.block) ∧ Stp [] w [] wr ∧ D.length = i) := by
          refine ⟨?_, hb4, hz4, hl4, fun ad h => (hf4 ad h).1, hst, hD⟩
          rw [HU.out, hp, hdr]
          simp [pairs]
        clear HS hp ho hst hdr hb4 hz4 hl4 hf4 htm
        go_wp2
        go_ret2
        refine ⟨HE.out.2.2.2.2.2.1, ?_⟩
        rw [HE.out.1]
        exact ⟨a4, c4, by rw [HE.out.2.2.2.2.2.2]; rfl, HE.out.2.1, HE.out.2.2.2.1, HE.out.2.2.1, HE.out.2.2.2.2.1⟩
  · have HU : Aside (unhex s = none) := by
      show unhex s = none
      unfold unhex
      rw [if_neg h1, if_pos (.inr h3)]
    have htm : Int.tmod (s.length : Int) 2 = 1 := by rw [Int.tmod_eq_emod_of_nonneg (by omega)]; omega
    clear h3 h1 h2
    generalize st s = ss at *
    go_enter Tryz.func40, Tryz.ntmps40
    go_wp2
    go_ret2
    exact ⟨Stp.refl _ _, by rw [HU.out]; rfl⟩
end Go.Proofs.YthfiilhbgogoaaaGreatDoor
