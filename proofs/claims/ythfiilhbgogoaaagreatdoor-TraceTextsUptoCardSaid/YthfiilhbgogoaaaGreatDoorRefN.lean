/-
  The document's Number at eighteen digits, and at two to the base 16.
-/
import Derived.Test.YthfiilhbgogoaaaGreatDoorRefE
namespace Go.Proofs.YthfiilhbgogoaaaGreatDoor
open Go.RowKit Go.Lib
set_option linter.unusedVariables false

theorem pow_mono18 {i : Nat} (h : i ≤ 18) : 10 ^ i ≤ 1000000000000000000 := Nat.pow_le_pow_right (by omega) h
set_option maxHeartbeats 4000000 in
set_option maxRecDepth 100000 in
theorem rnum18_run (l : List UInt8) (hl : l.length ≤ 4000) (w : World) : Calls Tryz.prog 38 #[.string (st l), .int .i64 10, .int .i64 18] w (Gives (.int .i64 (rz (rnum 10 18 l))) w) := by
  have hsz := st_size l
  have HI : Hid (∀ i : Nat, i < l.length → ∀ W, (Instr.index 9 (.string (st l)) (.int .i64 (i : Int))).run Tryz.prog W = .ok (bval (l[i]!)) W) := Lib.hid fun i hi W => index_st _ i hi W
  by_cases h0 : l = []
  · subst h0
    have HE : Aside (rnum 10 18 [] = none) := by
      show rnum 10 18 [] = none
      unfold rnum
      rw [if_pos (.inl rfl)]
    have hst : st [] = ⟨#[]⟩ := rfl
    rw [hst]
    clear hsz HI
    go_enter Tryz.func38, Tryz.ntmps38
    go_wp2
    go_ret
    exact ⟨by rw [HE.out]; rfl, rfl⟩
  have hemp := emp_st h0
  have hlp : 0 < l.length := List.length_pos_iff.2 h0
  by_cases h1 : 18 < l.length
  · have HE : Aside (rnum 10 18 l = none) := by
      show rnum 10 18 l = none
      unfold rnum
      rw [if_pos (.inr (.inl h1))]
    have hz : (18 : Int) < (l.length : Int) := by omega
    clear HI
    go_enter Tryz.func38, Tryz.ntmps38
    go_wp2
    go_ret
    exact ⟨by rw [HE.out]; rfl, rfl⟩
  have hz1 : ¬ (18 : Int) < (l.length : Int) := by omega
  have hix0 := HI.out 0 hlp
  unfold bval at hix0
  have c0 : ((0 : Nat) : Int) = 0 := rfl
  rw [c0] at hix0
  by_cases h2 : l[0]! = 48 ∧ l ≠ [48]
  · have HE : Aside (rnum 10 18 l = none) := by
      show rnum 10 18 l = none
      unfold rnum
      rw [if_pos (.inr (.inr h2))]
    rw [h2.1] at hix0
    have c48 : (((48 : UInt8).toNat : Nat) : Int) = 48 := rfl
    rw [c48] at hix0
    have hq : ((st l).toList == [48]) = false := by rw [st_toList]; exact beq_eq_false_iff_ne.2 h2.2
    clear HI h2
    go_enter Tryz.func38, Tryz.ntmps38
    go_wp2
    go_ret
    exact ⟨by rw [HE.out]; rfl, rfl⟩
  have hnb : ¬ bad 18 l := by
    rintro (h | h | h)
    · exact h0 h
    · exact h1 h
    · exact h2 h
  have HR : Aside (rnum 10 18 l = nu 10 0 l) := by
    show rnum 10 18 l = nu 10 0 l
    unfold rnum
    rw [if_neg hnb]
  have hl18 : l.length ≤ 18 := by omega
  have hgate : ((((l[0]!).toNat : Int) == 48) = false) ∨ ((((l[0]!).toNat : Int) == 48) = true ∧ ((st l).toList == [48]) = true) := by
    by_cases e : l[0]! = 48
    · refine .inr ⟨by rw [e]; rfl, ?_⟩
      have : l = [48] := Classical.byContradiction fun h => h2 ⟨e, h⟩
      rw [st_toList, this]
      rfl
    · exact .inl (beq_eq_false_iff_ne.2 (fun h => e (UInt8.toNat_inj.1 (by have : (l[0]!).toNat = 48 := by omega
                                                                           simpa using this))))
  clear h2 hnb
  generalize hz0 : ((l[0]!).toNat : Int) = z0 at hix0 hgate
  clear hz0
  go_enter Tryz.func38, Tryz.ntmps38
  rcases hgate with hg1 | ⟨hg1, hg2⟩
  all_goals
    go_wp2
    go_loopg [7, 8] l.length (fun gk v7 vi wr => ∃ i acc : Nat, v7 = .int .i64 (acc : Int) ∧ vi = .int .i64 (i : Int) ∧ i ≤ l.length ∧ l.length - i ≤ gk ∧ Aside (nu 10 0 l = nu 10 acc (l.drop i) ∧ acc < 10 ^ i ∧ wr = w))
    case atStart => exact ⟨0, 0, rfl, rfl, by omega, by omega, by simp, by decide, rfl⟩
    case round =>
      obtain ⟨i, acc, rfl, rfl, hi, hg, HS⟩ := hrel
      obtain rfl : wr = w := HS.out.2.2
      by_cases hlt : i < l.length
      · have hltz : (i : Int) < (l.length : Int) := by omega
        have hix := HI.out i hlt
        unfold bval at hix
        have hdr : l.drop i = l[i]! :: l.drop (i + 1) := by rw [getElem!_pos l i hlt]; exact List.drop_eq_getElem_cons hlt
        generalize hcc : l[i]! = c at hix hdr
        clear hcc
        have hc256 : c.toNat < 256 := c.toNat_lt
        have hmul : (10 : Int) * (acc : Int) = ((10 * acc : Nat) : Int) := by omega
        have hmle : 10 * acc ≤ 16 * acc := (by omega)
        have hacc := HS.out.2.1
        have hp1 : 10 ^ (i + 1) = 10 ^ i * 10 := Nat.pow_succ ..
        have hcz0 : (0 : Int) ≤ (c.toNat : Int) := by omega
        have hcz1 : (c.toNat : Int) ≤ 255 := by omega
        rcases Nat.lt_or_ge c.toNat 48 with hA | hA
        · have hAz : (c.toNat : Int) < 48 := by omega
          have hF : nu 10 acc (l.drop i) = none := by
            rw [hdr]
            simp [nu, dvr, hA]
          have HE : Aside (rnum 10 18 l = none) := HR.out.trans (HS.out.1.trans hF)
          clear HS hF hdr
          go_wp2
          go_ret
          exact ⟨by rw [HE.out]; rfl, rfl⟩
        · have hAz : (48 : Int) ≤ (c.toNat : Int) := by omega
          rcases Nat.lt_or_ge 57 c.toNat with hB | hB
          · have hBz : (57 : Int) < (c.toNat : Int) := by omega
            rcases Nat.lt_or_ge c.toNat 97 with hC | hC
            · have hCz : (c.toNat : Int) < 97 := by omega
              have hF : nu 10 acc (l.drop i) = none := by
                rw [hdr]
                simp [nu, dvr, hC, show ¬ c.toNat < 48 by omega, show ¬ c.toNat ≤ 57 by omega]
              have HE : Aside (rnum 10 18 l = none) := HR.out.trans (HS.out.1.trans hF)
              clear HS hF hdr
              go_wp2
              go_ret
              exact ⟨by rw [HE.out]; rfl, rfl⟩
            · have hCz : (97 : Int) ≤ (c.toNat : Int) := by omega
              rcases Nat.lt_or_ge (c.toNat - 87) 10 with hD | hD
              · omega
              · have hF : nu 10 acc (l.drop i) = none := by
                  rw [hdr]
                  simp [nu, dvr, show ¬ c.toNat < 48 by omega, show ¬ c.toNat ≤ 57 by omega, show ¬ c.toNat < 97 by omega, show ¬ c.toNat - 87 < 10 by omega]
                have hDz : (10 : Int) ≤ (c.toNat : Int) - 87 := by omega
                have HE : Aside (rnum 10 18 l = none) := HR.out.trans (HS.out.1.trans hF)
                clear HS hF hdr
                go_wp2
                go_ret
                exact ⟨by rw [HE.out]; rfl, rfl⟩
          · have hBz : (c.toNat : Int) ≤ 57 := by omega
            have hF : nu 10 acc (l.drop i) = nu 10 (10 * acc + (c.toNat - 48)) (l.drop (i + 1)) := by
              rw [hdr]
              simp [nu, dvr, show ¬ c.toNat < 48 by omega, hB]
            have hF2 : 10 * acc + (c.toNat - 48) < 10 ^ (i + 1) := by omega
            have hDz : (c.toNat : Int) - 48 < (10 : Int) := by omega
            have HE : Aside (nu 10 0 l = nu 10 (10 * acc + (c.toNat - 48)) (l.drop (i + 1)) ∧ 10 * acc + (c.toNat - 48) < 10 ^ (i + 1)) := ⟨HS.out.1.trans hF, hF2⟩
            have hsum : (10 : Int) * (acc : Int) + ((c.toNat : Int) - 48) = ((10 * acc + (c.toNat - 48) : Nat) : Int) := by rw [hmul]; omega
            have hub : ((10 * acc + (c.toNat - 48) : Nat) : Int) ≤ 1000000000000000000 := by
              have := pow_mono18 (i := i + 1) (by omega)
              omega
            clear HS hF hF2 hdr hmul
            generalize 10 * acc + (c.toNat - 48) = acc' at *
            have hmub : (10 : Int) * (acc : Int) ≤ 1000000000000000000 := by omega
            have hmlb : (0 : Int) ≤ (10 : Int) * (acc : Int) := (by omega)
            go_wp2
            go_roundg (l.length - (i + 1))
            case measure => omega
            case rel => exact ⟨i + 1, acc', by go_num, by go_num, by omega, by omega, HE.out.1, HE.out.2, rfl⟩
      · have hltz : ¬ (i : Int) < (l.length : Int) := by omega
        have hdr : l.drop i = [] := List.drop_eq_nil_of_le (by omega)
        have HE : Aside (rnum 10 18 l = some acc) := by
          show rnum 10 18 l = some acc
          rw [HR.out, HS.out.1, hdr]
          rfl
        clear HS hdr
        go_wp2
        go_ret
        exact ⟨by rw [HE.out]; rfl, rfl⟩
set_option maxHeartbeats 4000000 in
set_option maxRecDepth 100000 in
theorem rnum2_run (l : List UInt8) (hl : l.length ≤ 4000) (w : World) : Calls Tryz.prog 38 #[.string (st l), .int .i64 16, .int .i64 2] w (Gives (.int .i64 (rz (rnum 16 2 l))) w) := by
  have hsz := st_size l
  have HI : Hid (∀ i : Nat, i < l.length → ∀ W, (Instr.index 9 (.string (st l)) (.int .i64 (i : Int))).run Tryz.prog W = .ok (bval (l[i]!)) W) := Lib.hid fun i hi W => index_st _ i hi W
  by_cases h0 : l = []
  · subst h0
    have HE : Aside (rnum 16 2 [] = none) := by
      show rnum 16 2 [] = none
      unfold rnum
      rw [if_pos (.inl rfl)]
    have hst : st [] = ⟨#[]⟩ := rfl
    rw [hst]
    clear hsz HI
    go_enter Tryz.func38, Tryz.ntmps38
    go_wp2
    go_ret
    exact ⟨by rw [HE.out]; rfl, rfl⟩
  have hemp := emp_st h0
  have hlp : 0 < l.length := List.length_pos_iff.2 h0
  by_cases h1 : 2 < l.length
  · have HE : Aside (rnum 16 2 l = none) := by
      show rnum 16 2 l = none
      unfold rnum
      rw [if_pos (.inr (.inl h1))]
    have hz : (2 : Int) < (l.length : Int) := by omega
    clear HI
    go_enter Tryz.func38, Tryz.ntmps38
    go_wp2
    go_ret
    exact ⟨by rw [HE.out]; rfl, rfl⟩
  have hz1 : ¬ (2 : Int) < (l.length : Int) := by omega
  have hix0 := HI.out 0 hlp
  unfold bval at hix0
  have c0 : ((0 : Nat) : Int) = 0 := rfl
  rw [c0] at hix0
  by_cases h2 : l[0]! = 48 ∧ l ≠ [48]
  · have HE : Aside (rnum 16 2 l = none) := by
      show rnum 16 2 l = none
      unfold rnum
      rw [if_pos (.inr (.inr h2))]
    rw [h2.1] at hix0
    have c48 : (((48 : UInt8).toNat : Nat) : Int) = 48 := rfl
    rw [c48] at hix0
    have hq : ((st l).toList == [48]) = false := by rw [st_toList]; exact beq_eq_false_iff_ne.2 h2.2
    clear HI h2
    go_enter Tryz.func38, Tryz.ntmps38
    go_wp2
    go_ret
    exact ⟨by rw [HE.out]; rfl, rfl⟩
  have hnb : ¬ bad 2 l := by
    rintro (h | h | h)
    · exact h0 h
    · exact h1 h
    · exact h2 h
  have HR : Aside (rnum 16 2 l = nu 16 0 l) := by
    show rnum 16 2 l = nu 16 0 l
    unfold rnum
    rw [if_neg hnb]
  have hl8 : l.length ≤ 8 := by omega
  have hgate : ((((l[0]!).toNat : Int) == 48) = false) ∨ ((((l[0]!).toNat : Int) == 48) = true ∧ ((st l).toList == [48]) = true) := by
    by_cases e : l[0]! = 48
    · refine .inr ⟨by rw [e]; rfl, ?_⟩
      have : l = [48] := Classical.byContradiction fun h => h2 ⟨e, h⟩
      rw [st_toList, this]
      rfl
    · exact .inl (beq_eq_false_iff_ne.2 (fun h => e (UInt8.toNat_inj.1 (by have : (l[0]!).toNat = 48 := by omega
                                                                           simpa using this))))
  clear h2 hnb
  generalize hz0 : ((l[0]!).toNat : Int) = z0 at hix0 hgate
  clear hz0
  go_enter Tryz.func38, Tryz.ntmps38
  rcases hgate with hg1 | ⟨hg1, hg2⟩
  all_goals
    go_wp2
    go_loopg [7, 8] l.length (fun gk v7 vi wr => ∃ i acc : Nat, v7 = .int .i64 (acc : Int) ∧ vi = .int .i64 (i : Int) ∧ i ≤ l.length ∧ l.length - i ≤ gk ∧ Aside (nu 16 0 l = nu 16 acc (l.drop i) ∧ acc < 16 ^ i ∧ wr = w))
    case atStart => exact ⟨0, 0, rfl, rfl, by omega, by omega, by simp, by decide, rfl⟩
    case round =>
      obtain ⟨i, acc, rfl, rfl, hi, hg, HS⟩ := hrel
      obtain rfl : wr = w := HS.out.2.2
      by_cases hlt : i < l.length
      · have hltz : (i : Int) < (l.length : Int) := by omega
        have hix := HI.out i hlt
        unfold bval at hix
        have hdr : l.drop i = l[i]! :: l.drop (i + 1) := by rw [getElem!_pos l i hlt]; exact List.drop_eq_getElem_cons hlt
        generalize hcc : l[i]! = c at hix hdr
        clear hcc
        have hc256 : c.toNat < 256 := c.toNat_lt
        have hmul : (16 : Int) * (acc : Int) = ((16 * acc : Nat) : Int) := by omega
        have hmle : 16 * acc ≤ 16 * acc := (by omega)
        have hacc := HS.out.2.1
        have hp1 : 16 ^ (i + 1) = 16 ^ i * 16 := Nat.pow_succ ..
        have hcz0 : (0 : Int) ≤ (c.toNat : Int) := by omega
        have hcz1 : (c.toNat : Int) ≤ 255 := by omega
        rcases Nat.lt_or_ge c.toNat 48 with hA | hA
        · have hAz : (c.toNat : Int) < 48 := by omega
          have hF : nu 16 acc (l.drop i) = none := by
            rw [hdr]
            simp [nu, dvr, hA]
          have HE : Aside (rnum 16 2 l = none) := HR.out.trans (HS.out.1.trans hF)
          clear HS hF hdr
          go_wp2
          go_ret
          exact ⟨by rw [HE.out]; rfl, rfl⟩
        · have hAz : (48 : Int) ≤ (c.toNat : Int) := by omega
          rcases Nat.lt_or_ge 57 c.toNat with hB | hB
          · have hBz : (57 : Int) < (c.toNat : Int) := by omega
            rcases Nat.lt_or_ge c.toNat 97 with hC | hC
            · have hCz : (c.toNat : Int) < 97 := by omega
              have hF : nu 16 acc (l.drop i) = none := by
                rw [hdr]
                simp [nu, dvr, hC, show ¬ c.toNat < 48 by omega, show ¬ c.toNat ≤ 57 by omega]
              have HE : Aside (rnum 16 2 l = none) := HR.out.trans (HS.out.1.trans hF)
              clear HS hF hdr
              go_wp2
              go_ret
              exact ⟨by rw [HE.out]; rfl, rfl⟩
            · have hCz : (97 : Int) ≤ (c.toNat : Int) := by omega
              rcases Nat.lt_or_ge (c.toNat - 87) 16 with hD | hD
              · have hF : nu 16 acc (l.drop i) = nu 16 (16 * acc + (c.toNat - 87)) (l.drop (i + 1)) := by
                  rw [hdr]
                  simp [nu, dvr, show ¬ c.toNat < 48 by omega, show ¬ c.toNat ≤ 57 by omega, show ¬ c.toNat < 97 by omega, hD]
                have hF2 : 16 * acc + (c.toNat - 87) < 16 ^ (i + 1) := by omega
                have hDz : (c.toNat : Int) - 87 < (16 : Int) := by omega
                have HE : Aside (nu 16 0 l = nu 16 (16 * acc + (c.toNat - 87)) (l.drop (i + 1)) ∧ 16 * acc + (c.toNat - 87) < 16 ^ (i + 1)) := ⟨HS.out.1.trans hF, hF2⟩
                have hsum : (16 : Int) * (acc : Int) + ((c.toNat : Int) - 87) = ((16 * acc + (c.toNat - 87) : Nat) : Int) := by rw [hmul]; omega
                have hub : ((16 * acc + (c.toNat - 87) : Nat) : Int) ≤ 4294967295 := by
                  have := pow_mono8 (i := i + 1) (by omega)
                  omega
                clear HS hF hF2 hdr hmul
                generalize 16 * acc + (c.toNat - 87) = acc' at *
                have hmub : (16 : Int) * (acc : Int) ≤ 4294967295 := by omega
                have hmlb : (0 : Int) ≤ (16 : Int) * (acc : Int) := (by omega)
                go_wp2
                go_roundg (l.length - (i + 1))
                case measure => omega
                case rel => exact ⟨i + 1, acc', by go_num, by go_num, by omega, by omega, HE.out.1, HE.out.2, rfl⟩
              · have hF : nu 16 acc (l.drop i) = none := by
                  rw [hdr]
                  simp [nu, dvr, show ¬ c.toNat < 48 by omega, show ¬ c.toNat ≤ 57 by omega, show ¬ c.toNat < 97 by omega, show ¬ c.toNat - 87 < 16 by omega]
                have hDz : (16 : Int) ≤ (c.toNat : Int) - 87 := by omega
                have HE : Aside (rnum 16 2 l = none) := HR.out.trans (HS.out.1.trans hF)
                clear HS hF hdr
                go_wp2
                go_ret
                exact ⟨by rw [HE.out]; rfl, rfl⟩
          · have hBz : (c.toNat : Int) ≤ 57 := by omega
            have hF : nu 16 acc (l.drop i) = nu 16 (16 * acc + (c.toNat - 48)) (l.drop (i + 1)) := by
              rw [hdr]
              simp [nu, dvr, show ¬ c.toNat < 48 by omega, hB]
            have hF2 : 16 * acc + (c.toNat - 48) < 16 ^ (i + 1) := by omega
            have hDz : (c.toNat : Int) - 48 < (16 : Int) := by omega
            have HE : Aside (nu 16 0 l = nu 16 (16 * acc + (c.toNat - 48)) (l.drop (i + 1)) ∧ 16 * acc + (c.toNat - 48) < 16 ^ (i + 1)) := ⟨HS.out.1.trans hF, hF2⟩
            have hsum : (16 : Int) * (acc : Int) + ((c.toNat : Int) - 48) = ((16 * acc + (c.toNat - 48) : Nat) : Int) := by rw [hmul]; omega
            have hub : ((16 * acc + (c.toNat - 48) : Nat) : Int) ≤ 4294967295 := by
              have := pow_mono8 (i := i + 1) (by omega)
              omega
            clear HS hF hF2 hdr hmul
            generalize 16 * acc + (c.toNat - 48) = acc' at *
            have hmub : (16 : Int) * (acc : Int) ≤ 4294967295 := by omega
            have hmlb : (0 : Int) ≤ (16 : Int) * (acc : Int) := (by omega)
            go_wp2
            go_roundg (l.length - (i + 1))
            case measure => omega
            case rel => exact ⟨i + 1, acc', by go_num, by go_num, by omega, by omega, HE.out.1, HE.out.2, rfl⟩
      · have hltz : ¬ (i : Int) < (l.length : Int) := by omega
        have hdr : l.drop i = [] := List.drop_eq_nil_of_le (by omega)
        have HE : Aside (rnum 16 2 l = some acc) := by
          show rnum 16 2 l = some acc
          rw [HR.out, HS.out.1, hdr]
          rfl
        clear HS hdr
        go_wp2
        go_ret
        exact ⟨by rw [HE.out]; rfl, rfl⟩
end Go.Proofs.YthfiilhbgogoaaaGreatDoor
