/-
  The document's Number.
-/
import Derived.Test.YthfiilhbgogoaaaGreatDoorRefD
namespace Go.Proofs.YthfiilhbgogoaaaGreatDoor
open Go.RowKit Go.Lib
set_option linter.unusedVariables false

/-! ### Numbers, by the document -/
def dvr (b : Nat) (c : UInt8) : Option Nat :=
  if c.toNat < 48 then none else if c.toNat ≤ 57 then some (c.toNat - 48) else if c.toNat < 97 then none else if c.toNat - 87 < b then some (c.toNat - 87) else none
def nu (b acc : Nat) : List UInt8 → Option Nat
  | [] => some acc
  | c :: r => match dvr b c with
    | none => none
    | some d => nu b (b * acc + d) r
theorem nu_append (b : Nat) : ∀ (l m : List UInt8) (acc : Nat), nu b acc (l ++ m) = (nu b acc l).bind fun a => nu b a m
  | [], m, acc => rfl
  | c :: r, m, acc => by
    simp only [List.cons_append, nu]
    split
    · rfl
    · exact nu_append b r m _
theorem dvr_dch10 : ∀ d, d < 10 → dvr 10 (dch d) = some d := by decide
theorem dvr_dch16 : ∀ d, d < 16 → dvr 16 (dch d) = some d := by decide
theorem nu_dig {b : Nat} (hb : 2 ≤ b) (h16 : b = 10 ∨ b = 16) : ∀ n, nu b 0 (dig b n) = some n := by
  have one : ∀ a d, d < b → nu b a [dch d] = some (b * a + d) := by
    intro a d hd
    have : dvr b (dch d) = some d := by
      rcases h16 with rfl | rfl
      · exact dvr_dch10 d hd
      · exact dvr_dch16 d hd
    simp only [nu, this]
  intro n
  induction n using Nat.strongRecOn with
  | _ n ih =>
    rcases Nat.lt_or_ge n b with h | h
    · rw [dig_lt h, one 0 n h]
      simp
    · rw [dig_ge hb h, nu_append, ih (n / b) (Nat.div_lt_self (by omega) (by omega))]
      show nu b (n / b) [dch (n % b)] = some n
      rw [one (n / b) (n % b) (Nat.mod_lt _ (by omega)), Nat.div_add_mod]
def bad (most : Nat) (l : List UInt8) : Prop := l = [] ∨ most < l.length ∨ (l[0]! = 48 ∧ l ≠ [48])
instance (most : Nat) (l : List UInt8) : Decidable (bad most l) := by unfold bad; infer_instance
def rnum (b most : Nat) (l : List UInt8) : Option Nat := if bad most l then none else nu b 0 l
/-- -1, where there is none. -/
def rz (r : Option Nat) : Int := match r with
  | some v => v
  | none => -1
theorem rnum_dig {b most n : Nat} (h16 : b = 10 ∨ b = 16) (hl : (dig b n).length ≤ most) : rnum b most (dig b n) = some n := by
  unfold rnum
  rw [if_neg, nu_dig (by omega) h16]
  rintro (h | h | ⟨h1, h2⟩)
  · exact dig_ne b n h
  · omega
  · rcases Nat.eq_zero_or_pos n with e | e
    · subst e
      rw [dig_lt (by omega)] at h2
      exact h2 rfl
    · obtain ⟨c, r, e2, hc⟩ := dig_head (b := b) (by omega) (by omega) n e
      rw [e2] at h1
      exact hc h1
theorem nu_lt {b : Nat} (hb : b ≤ 16) : ∀ (l : List UInt8) (acc k v : Nat), acc < 16 ^ k → nu b acc l = some v → v < 16 ^ (k + l.length)
  | [], acc, k, v, h, e => by
    simp only [nu, Option.some.injEq] at e
    subst e
    simpa using h
  | c :: r, acc, k, v, h, e => by
    simp only [nu] at e
    split at e
    · cases e
    · rename_i d hd
      have hd16 : d < 16 := by
        unfold dvr at hd
        split at hd
        · cases hd
        · split at hd
          · cases hd; omega
          · split at hd
            · cases hd
            · split at hd
              · cases hd; omega
              · cases hd
      have h2 : b * acc + d < 16 ^ (k + 1) := by
        have : b * acc ≤ 16 * acc := Nat.mul_le_mul_right _ hb
        rw [Nat.pow_succ]
        omega
      have := nu_lt hb r _ (k + 1) v h2 e
      rw [List.length_cons, show k + (r.length + 1) = k + 1 + r.length by omega]
      exact this
theorem rnum_lt {b most v : Nat} {l : List UInt8} (hb : b ≤ 16) (hm : most ≤ 8) (h : rnum b most l = some v) : v < 4294967296 := by
  unfold rnum at h
  split at h
  · cases h
  · rename_i hbad
    have hl : l.length ≤ 8 := by
      rcases Nat.lt_or_ge most l.length with g | g
      · exact absurd (.inr (.inl g)) hbad
      · omega
    have := nu_lt hb l 0 0 v (by decide) h
    have h8 : 16 ^ (0 + l.length) ≤ 16 ^ 8 := Nat.pow_le_pow_right (by omega) (by omega)
    have e8 : 16 ^ 8 = 4294967296 := by decide
    omega
theorem pow_mono8 {i : Nat} (h : i ≤ 8) : 16 ^ i ≤ 4294967296 := Nat.pow_le_pow_right (by omega) h

set_option maxHeartbeats 4000000 in
set_option maxRecDepth 100000 in
theorem rnum10_run (l : List UInt8) (hl : l.length ≤ 4000) (w : World) : Calls Tryz.prog 38 #[.string (st l), .int .i64 10, .int .i64 3] w (Gives (.int .i64 (rz (rnum 10 3 l))) w) := by
  have hsz := st_size l
  have HI : Hid (∀ i : Nat, i < l.length → ∀ W, (Instr.index 9 (.string (st l)) (.int .i64 (i : Int))).run Tryz.prog W = .ok (bval (l[i]!)) W) := Lib.hid fun i hi W => index_st _ i hi W
  by_cases h0 : l = []
  · subst h0
    have HE : Aside (rnum 10 3 [] = none) := by
      show rnum 10 3 [] = none
      unfold rnum
      rw [if_pos (.inl rfl)]
    have hst : st [] = ⟨#[]⟩ := rfl
    rw [hst]
    clear hsz HI
    go_enter Tryz.func38, Tryz.ntmps38
    go_wp2
    go_ret
    exact ⟨by rw [HE.out]; rfl, rfl⟩
  have hemp := emp_st h0
  have hlp : 0 < l.length := List.length_pos_iff.2 h0
  by_cases h1 : 3 < l.length
  · have HE : Aside (rnum 10 3 l = none) := by
      show rnum 10 3 l = none
      unfold rnum
      rw [if_pos (.inr (.inl h1))]
    have hz : (3 : Int) < (l.length : Int) := by omega
    clear HI
    go_enter Tryz.func38, Tryz.ntmps38
    go_wp2
    go_ret
    exact ⟨by rw [HE.out]; rfl, rfl⟩
  have hz1 : ¬ (3 : Int) < (l.length : Int) := by omega
  have hix0 := HI.out 0 hlp
  unfold bval at hix0
  have c0 : ((0 : Nat) : Int) = 0 := rfl
  rw [c0] at hix0
  by_cases h2 : l[0]! = 48 ∧ l ≠ [48]
  · have HE : Aside (rnum 10 3 l = none) := by
      show rnum 10 3 l = none
      unfold rnum
      rw [if_pos (.inr (.inr h2))]
    rw [h2.1] at hix0
    have c48 : (((48 : UInt8).toNat : Nat) : Int) = 48 := rfl
    rw [c48] at hix0
    have hq : ((st l).toList == [48]) = false := by rw [st_toList]; exact beq_eq_false_iff_ne.2 h2.2
    clear HI h2
    go_enter Tryz.func38, Tryz.ntmps38
    go_wp2
    go_ret
    exact ⟨by rw [HE.out]; rfl, rfl⟩
  have hnb : ¬ bad 3 l := by
    rintro (h | h | h)
    · exact h0 h
    · exact h1 h
    · exact h2 h
  have HR : Aside (rnum 10 3 l = nu 10 0 l) := by
    show rnum 10 3 l = nu 10 0 l
    unfold rnum
    rw [if_neg hnb]
  have hl8 : l.length ≤ 8 := by omega
  have hgate : ((((l[0]!).toNat : Int) == 48) = false) ∨ ((((l[0]!).toNat : Int) == 48) = true ∧ ((st l).toList == [48]) = true) := by
    by_cases e : l[0]! = 48
    · refine .inr ⟨by rw [e]; rfl, ?_⟩
      have : l = [48] := Classical.byContradiction fun h => h2 ⟨e, h⟩
      rw [st_toList, this]
      rfl
    · exact .inl (beq_eq_false_iff_ne.2 (fun h => e (UInt8.toNat_inj.1 (by have : (l[0]!).toNat = 48 := by omega
                                                                           simpa using this))))
  clear h2 hnb
  generalize hz0 : ((l[0]!).toNat : Int) = z0 at hix0 hgate
  clear hz0
  go_enter Tryz.func38, Tryz.ntmps38
  rcases hgate with hg1 | ⟨hg1, hg2⟩
  all_goals
    go_wp2
    go_loopg [7, 8] l.length (fun gk v7 vi wr => ∃ i acc : Nat, v7 = .int .i64 (acc : Int) ∧ vi = .int .i64 (i : Int) ∧ i ≤ l.length ∧ l.length - i ≤ gk ∧ Aside (nu 10 0 l = nu 10 acc (l.drop i) ∧ acc < 16 ^ i ∧ wr = w))
    case atStart => exact ⟨0, 0, rfl, rfl, by omega, by omega, by simp, by decide, rfl⟩
    case round =>
      obtain ⟨i, acc, rfl, rfl, hi, hg, HS⟩ := hrel
      obtain rfl : wr = w := HS.out.2.2
      by_cases hlt : i < l.length
      · have hltz : (i : Int) < (l.length : Int) := by omega
        have hix := HI.out i hlt
        unfold bval at hix
        have hdr : l.drop i = l[i]! :: l.drop (i + 1) := by rw [getElem!_pos l i hlt]; exact List.drop_eq_getElem_cons hlt
        generalize hcc : l[i]! = c at hix hdr
        clear hcc
        have hc256 : c.toNat < 256 := c.toNat_lt
        have hmul : (10 : Int) * (acc : Int) = ((10 * acc : Nat) : Int) := by omega
        have hmle : 10 * acc ≤ 16 * acc := (by omega)
        have hacc := HS.out.2.1
        have hp1 : 16 ^ (i + 1) = 16 ^ i * 16 := Nat.pow_succ ..
        have hcz0 : (0 : Int) ≤ (c.toNat : Int) := by omega
        have hcz1 : (c.toNat : Int) ≤ 255 := by omega
        rcases Nat.lt_or_ge c.toNat 48 with hA | hA
        · have hAz : (c.toNat : Int) < 48 := by omega
          have hF : nu 10 acc (l.drop i) = none := by
            rw [hdr]
            simp [nu, dvr, hA]
          have HE : Aside (rnum 10 3 l = none) := HR.out.trans (HS.out.1.trans hF)
          clear HS hF hdr
          go_wp2
          go_ret
          exact ⟨by rw [HE.out]; rfl, rfl⟩
        · have hAz : (48 : Int) ≤ (c.toNat : Int) := by omega
          rcases Nat.lt_or_ge 57 c.toNat with hB | hB
          · have hBz : (57 : Int) < (c.toNat : Int) := by omega
            rcases Nat.lt_or_ge c.toNat 97 with hC | hC
            · have hCz : (c.toNat : Int) < 97 := by omega
              have hF : nu 10 acc (l.drop i) = none := by
                rw [hdr]
                simp [nu, dvr, hC, show ¬ c.toNat < 48 by omega, show ¬ c.toNat ≤ 57 by omega]
              have HE : Aside (rnum 10 3 l = none) := HR.out.trans (HS.out.1.trans hF)
              clear HS hF hdr
              go_wp2
              go_ret
              exact ⟨by rw [HE.out]; rfl, rfl⟩
            · have hCz : (97 : Int) ≤ (c.toNat : Int) := by omega
              rcases Nat.lt_or_ge (c.toNat - 87) 10 with hD | hD
              · omega
              · have hF : nu 10 acc (l.drop i) = none := by
                  rw [hdr]
                  simp [nu, dvr, show ¬ c.toNat < 48 by omega, show ¬ c.toNat ≤ 57 by omega, show ¬ c.toNat < 97 by omega, show ¬ c.toNat - 87 < 10 by omega]
                have hDz : (10 : Int) ≤ (c.toNat : Int) - 87 := by omega
                have HE : Aside (rnum 10 3 l = none) := HR.out.trans (HS.out.1.trans hF)
                clear HS hF hdr
                go_wp2
                go_ret
                exact ⟨by rw [HE.out]; rfl, rfl⟩
          · have hBz : (c.toNat : Int) ≤ 57 := by omega
            have hF : nu 10 acc (l.drop i) = nu 10 (10 * acc + (c.toNat - 48)) (l.drop (i + 1)) := by
              rw [hdr]
              simp [nu, dvr, show ¬ c.toNat < 48 by omega, hB]
            have hF2 : 10 * acc + (c.toNat - 48) < 16 ^ (i + 1) := by omega
            have hDz : (c.toNat : Int) - 48 < (10 : Int) := by omega
            have HE : Aside (nu 10 0 l = nu 10 (10 * acc + (c.toNat - 48)) (l.drop (i + 1)) ∧ 10 * acc + (c.toNat - 48) < 16 ^ (i + 1)) := ⟨HS.out.1.trans hF, hF2⟩
            have hsum : (10 : Int) * (acc : Int) + ((c.toNat : Int) - 48) = ((10 * acc + (c.toNat - 48) : Nat) : Int) := by rw [hmul]; omega
            have hub : ((10 * acc + (c.toNat - 48) : Nat) : Int) ≤ 4294967295 := by
              have := pow_mono8 (i := i + 1) (by omega)
              omega
            clear HS hF hF2 hdr hmul
            generalize 10 * acc + (c.toNat - 48) = acc' at *
            have hmub : (10 : Int) * (acc : Int) ≤ 4294967295 := by omega
            have hmlb : (0 : Int) ≤ (10 : Int) * (acc : Int) := (by omega)
            go_wp2
            go_roundg (l.length - (i + 1))
            case measure => omega
            case rel => exact ⟨i + 1, acc', by go_num, by go_num, by omega, by omega, HE.out.1, HE.out.2, rfl⟩
      · have hltz : ¬ (i : Int) < (l.length : Int) := by omega
        have hdr : l.drop i = [] := List.drop_eq_nil_of_le (by omega)
        have HE : Aside (rnum 10 3 l = some acc) := by
          show rnum 10 3 l = some acc
          rw [HR.out, HS.out.1, hdr]
          rfl
        clear HS hdr
        go_wp2
        go_ret
        exact ⟨by rw [HE.out]; rfl, rfl⟩
set_option maxHeartbeats 4000000 in
set_option maxRecDepth 100000 in
theorem rnum16_run (l : List UInt8) (hl : l.length ≤ 4000) (w : World) : Calls Tryz.prog 38 #[.string (st l), .int .i64 16, .int .i64 8] w (Gives (.int .i64 (rz (rnum 16 8 l))) w) := by
  have hsz := st_size l
  have HI : Hid (∀ i : Nat, i < l.length → ∀ W, (Instr.index 9 (.string (st l)) (.int .i64 (i : Int))).run Tryz.prog W = .ok (bval (l[i]!)) W) := Lib.hid fun i hi W => index_st _ i hi W
  by_cases h0 : l = []
  · subst h0
    have HE : Aside (rnum 16 8 [] = none) := by
      show rnum 16 8 [] = none
      unfold rnum
      rw [if_pos (.inl rfl)]
    have hst : st [] = ⟨#[]⟩ := rfl
    rw [hst]
    clear hsz HI
    go_enter Tryz.func38, Tryz.ntmps38
    go_wp2
    go_ret
    exact ⟨by rw [HE.out]; rfl, rfl⟩
  have hemp := emp_st h0
  have hlp : 0 < l.length := List.length_pos_iff.2 h0
  by_cases h1 : 8 < l.length
  · have HE : Aside (rnum 16 8 l = none) := by
      show rnum 16 8 l = none
      unfold rnum
      rw [if_pos (.inr (.inl h1))]
    have hz : (8 : Int) < (l.length : Int) := by omega
    clear HI
    go_enter Tryz.func38, Tryz.ntmps38
    go_wp2
    go_ret
    exact ⟨by rw [HE.out]; rfl, rfl⟩
  have hz1 : ¬ (8 : Int) < (l.length : Int) := by omega
  have hix0 := HI.out 0 hlp
  unfold bval at hix0
  have c0 : ((0 : Nat) : Int) = 0 := rfl
  rw [c0] at hix0
  by_cases h2 : l[0]! = 48 ∧ l ≠ [48]
  · have HE : Aside (rnum 16 8 l = none) := by
      show rnum 16 8 l = none
      unfold rnum
      rw [if_pos (.inr (.inr h2))]
    rw [h2.1] at hix0
    have c48 : (((48 : UInt8).toNat : Nat) : Int) = 48 := rfl
    rw [c48] at hix0
    have hq : ((st l).toList == [48]) = false := by rw [st_toList]; exact beq_eq_false_iff_ne.2 h2.2
    clear HI h2
    go_enter Tryz.func38, Tryz.ntmps38
    go_wp2
    go_ret
    exact ⟨by rw [HE.out]; rfl, rfl⟩
  have hnb : ¬ bad 8 l := by
    rintro (h | h | h)
    · exact h0 h
    · exact h1 h
    · exact h2 h
  have HR : Aside (rnum 16 8 l = nu 16 0 l) := by
    show rnum 16 8 l = nu 16 0 l
    unfold rnum
    rw [if_neg hnb]
  have hl8 : l.length ≤ 8 := by omega
  have hgate : ((((l[0]!).toNat : Int) == 48) = false) ∨ ((((l[0]!).toNat : Int) == 48) = true ∧ ((st l).toList == [48]) = true) := by
    by_cases e : l[0]! = 48
    · refine .inr ⟨by rw [e]; rfl, ?_⟩
      have : l = [48] := Classical.byContradiction fun h => h2 ⟨e, h⟩
      rw [st_toList, this]
      rfl
    · exact .inl (beq_eq_false_iff_ne.2 (fun h => e (UInt8.toNat_inj.1 (by have : (l[0]!).toNat = 48 := by omega
                                                                           simpa using this))))
  clear h2 hnb
  generalize hz0 : ((l[0]!).toNat : Int) = z0 at hix0 hgate
  clear hz0
  go_enter Tryz.func38, Tryz.ntmps38
  rcases hgate with hg1 | ⟨hg1, hg2⟩
  all_goals
    go_wp2
    go_loopg [7, 8] l.length (fun gk v7 vi wr => ∃ i acc : Nat, v7 = .int .i64 (acc : Int) ∧ vi = .int .i64 (i : Int) ∧ i ≤ l.length ∧ l.length - i ≤ gk ∧ Aside (nu 16 0 l = nu 16 acc (l.drop i) ∧ acc < 16 ^ i ∧ wr = w))
    case atStart => exact ⟨0, 0, rfl, rfl, by omega, by omega, by simp, by decide, rfl⟩
    case round =>
      obtain ⟨i, acc, rfl, rfl, hi, hg, HS⟩ := hrel
      obtain rfl : wr = w := HS.out.2.2
      by_cases hlt : i < l.length
      · have hltz : (i : Int) < (l.length : Int) := by omega
        have hix := HI.out i hlt
        unfold bval at hix
        have hdr : l.drop i = l[i]! :: l.drop (i + 1) := by rw [getElem!_pos l i hlt]; exact List.drop_eq_getElem_cons hlt
        generalize hcc : l[i]! = c at hix hdr
        clear hcc
        have hc256 : c.toNat < 256 := c.toNat_lt
        have hmul : (16 : Int) * (acc : Int) = ((16 * acc : Nat) : Int) := by omega
        have hmle : 16 * acc ≤ 16 * acc := (by omega)
        have hacc := HS.out.2.1
        have hp1 : 16 ^ (i + 1) = 16 ^ i * 16 := Nat.pow_succ ..
        have hcz0 : (0 : Int) ≤ (c.toNat : Int) := by omega
        have hcz1 : (c.toNat : Int) ≤ 255 := by omega
        rcases Nat.lt_or_ge c.toNat 48 with hA | hA
        · have hAz : (c.toNat : Int) < 48 := by omega
          have hF : nu 16 acc (l.drop i) = none := by
            rw [hdr]
            simp [nu, dvr, hA]
          have HE : Aside (rnum 16 8 l = none) := HR.out.trans (HS.out.1.trans hF)
          clear HS hF hdr
          go_wp2
          go_ret
          exact ⟨by rw [HE.out]; rfl, rfl⟩
        · have hAz : (48 : Int) ≤ (c.toNat : Int) := by omega
          rcases Nat.lt_or_ge 57 c.toNat with hB | hB
          · have hBz : (57 : Int) < (c.toNat : Int) := by omega
            rcases Nat.lt_or_ge c.toNat 97 with hC | hC
            · have hCz : (c.toNat : Int) < 97 := by omega
              have hF : nu 16 acc (l.drop i) = none := by
                rw [hdr]
                simp [nu, dvr, hC, show ¬ c.toNat < 48 by omega, show ¬ c.toNat ≤ 57 by omega]
              have HE : Aside (rnum 16 8 l = none) := HR.out.trans (HS.out.1.trans hF)
              clear HS hF hdr
              go_wp2
              go_ret
              exact ⟨by rw [HE.out]; rfl, rfl⟩
            · have hCz : (97 : Int) ≤ (c.toNat : Int) := by omega
              rcases Nat.lt_or_ge (c.toNat - 87) 16 with hD | hD
              · have hF : nu 16 acc (l.drop i) = nu 16 (16 * acc + (c.toNat - 87)) (l.drop (i + 1)) := by
                  rw [hdr]
                  simp [nu, dvr, show ¬ c.toNat < 48 by omega, show ¬ c.toNat ≤ 57 by omega, show ¬ c.toNat < 97 by omega, hD]
                have hF2 : 16 * acc + (c.toNat - 87) < 16 ^ (i + 1) := by omega
                have hDz : (c.toNat : Int) - 87 < (16 : Int) := by omega
                have HE : Aside (nu 16 0 l = nu 16 (16 * acc + (c.toNat - 87)) (l.drop (i + 1)) ∧ 16 * acc + (c.toNat - 87) < 16 ^ (i + 1)) := ⟨HS.out.1.trans hF, hF2⟩
                have hsum : (16 : Int) * (acc : Int) + ((c.toNat : Int) - 87) = ((16 * acc + (c.toNat - 87) : Nat) : Int) := by rw [hmul]; omega
                have hub : ((16 * acc + (c.toNat - 87) : Nat) : Int) ≤ 4294967295 := by
                  have := pow_mono8 (i := i + 1) (by omega)
                  omega
                clear HS hF hF2 hdr hmul
                generalize 16 * acc + (c.toNat - 87) = acc' at *
                have hmub : (16 : Int) * (acc : Int) ≤ 4294967295 := by omega
                have hmlb : (0 : Int) ≤ (16 : Int) * (acc : Int) := (by omega)
                go_wp2
                go_roundg (l.length - (i + 1))
                case measure => omega
                case rel => exact ⟨i + 1, acc', by go_num, by go_num, by omega, by omega, HE.out.1, HE.out.2, rfl⟩
              · have hF : nu 16 acc (l.drop i) = none := by
                  rw [hdr]
                  simp [nu, dvr, show ¬ c.toNat < 48 by omega, show ¬ c.toNat ≤ 57 by omega, show ¬ c.toNat < 97 by omega, show ¬ c.toNat - 87 < 16 by omega]
                have hDz : (16 : Int) ≤ (c.toNat : Int) - 87 := by omega
                have HE : Aside (rnum 16 8 l = none) := HR.out.trans (HS.out.1.trans hF)
                clear HS hF hdr
                go_wp2
                go_ret
                exact ⟨by rw [HE.out]; rfl, rfl⟩
          · have hBz : (c.toNat : Int) ≤ 57 := by omega
            have hF : nu 16 acc (l.drop i) = nu 16 (16 * acc + (c.toNat - 48)) (l.drop (i + 1)) := by
              rw [hdr]
              simp [nu, dvr, show ¬ c.toNat < 48 by omega, hB]
            have hF2 : 16 * acc + (c.toNat - 48) < 16 ^ (i + 1) := by omega
            have hDz : (c.toNat : Int) - 48 < (16 : Int) := by omega
            have HE : Aside (nu 16 0 l = nu 16 (16 * acc + (c.toNat - 48)) (l.drop (i + 1)) ∧ 16 * acc + (c.toNat - 48) < 16 ^ (i + 1)) := ⟨HS.out.1.trans hF, hF2⟩
            have hsum : (16 : Int) * (acc : Int) + ((c.toNat : Int) - 48) = ((16 * acc + (c.toNat - 48) : Nat) : Int) := by rw [hmul]; omega
            have hub : ((16 * acc + (c.toNat - 48) : Nat) : Int) ≤ 4294967295 := by
              have := pow_mono8 (i := i + 1) (by omega)
              omega
            clear HS hF hF2 hdr hmul
            generalize 16 * acc + (c.toNat - 48) = acc' at *
            have hmub : (16 : Int) * (acc : Int) ≤ 4294967295 := by omega
            have hmlb : (0 : Int) ≤ (16 : Int) * (acc : Int) := (by omega)
            go_wp2
            go_roundg (l.length - (i + 1))
            case measure => omega
            case rel => exact ⟨i + 1, acc', by go_num, by go_num, by omega, by omega, HE.out.1, HE.out.2, rfl⟩
      · have hltz : ¬ (i : Int) < (l.length : Int) := by omega
        have hdr : l.drop i = [] := List.drop_eq_nil_of_le (by omega)
        have HE : Aside (rnum 16 8 l = some acc) := by
          show rnum 16 8 l = some acc
          rw [HR.out, HS.out.1, hdr]
          rfl
        clear HS hdr
        go_wp2
        go_ret
        exact ⟨by rw [HE.out]; rfl, rfl⟩
end Go.Proofs.YthfiilhbgogoaaaGreatDoor
