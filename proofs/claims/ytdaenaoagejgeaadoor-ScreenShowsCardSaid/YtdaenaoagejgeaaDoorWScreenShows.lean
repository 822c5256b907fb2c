import Derived.Test.YtdaenaoagejgeaaDoorTell
import Derived.Test.YtdaenaoagejgeaaDoorSIs
import Derived.Test.YtdaenaoagejgeaaDoorIts
import Derived.Test.YtdaenaoagejgeaaDoorSays
import Derived.Test.YtdaenaoagejgeaaDoorSeen
import Derived.Deep.RegionHeld
import Derived.Test.YtdaenaoagejgeaaDoorRefNx
/-
  The document's Number.
-/
namespace Go.Proofs.YtdaenaoagejgeaaDoor
open Go.RowKit Go.Lib
set_option linter.unusedVariables false

theorem index_st (l : List UInt8) (i : Nat) (hi : i < l.length) (w : World) : (Instr.index 9 (.string (st l)) (.int .i64 (i : Int))).run Tryd.prog w = .ok (bval (l[i]!)) w := by
  rw [run_index_string w 9 (st l) .i64 i Tryd.underlying9, dif_pos ⟨by omega, by rw [st_size]; omega⟩]
  have h2 : (st l)[((i : Nat) : Int).toNat]'(by rw [st_size]; omega) = l[i]! := by
    rw [getElem!_pos l i hi]
    simp only [Int.toNat_natCast]
    have h3 : (st l).data.toList[i]'(by rw [st_data]; exact hi) = l[i] := by
      have : ∀ (m : List UInt8) (e : m = l) (q : i < m.length), m[i] = l[i] := fun m e q => by subst e; rfl
      exact this _ (st_data l) _
    rw [← h3]
    rfl
  rw [h2]
  rfl
theorem emp_st {l : List UInt8} (h : l ≠ []) : (st l).toList.isEmpty = false := by
  rw [st_toList]
  cases l
  · exact absurd rfl h
  · rfl
/-! ### Numbers, by the document -/
def dvr (b : Nat) (c : UInt8) : Option Nat :=
  if c.toNat < 48 then none else if c.toNat ≤ 57 then some (c.toNat - 48) else if c.toNat < 97 then none else if c.toNat - 87 < b then some (c.toNat - 87) else none
def nu (b acc : Nat) : List UInt8 → Option Nat
  | [] => some acc
  | c :: r => match dvr b c with
    | none => none
    | some d => nu b (b * acc + d) r
theorem nu_append (b : Nat) : ∀ (l m : List UInt8) (acc : Nat), nu b acc (l ++ m) = (nu b acc l).bind fun a => nu b a m
  | [], m, acc => rfl
  | c :: r, m, acc => by
    simp only [List.cons_append, nu]
    split
    · rfl
    · exact nu_append b r m _
theorem dvr_dch10 : ∀ d, d < 10 → dvr 10 (dch d) = some d := by decide
theorem dvr_dch16 : ∀ d, d < 16 → dvr 16 (dch d) = some d := by decide
theorem nu_dig {b : Nat} (hb : 2 ≤ b) (h16 : b = 10 ∨ b = 16) : ∀ n, nu b 0 (dig b n) = some n := by
  have one : ∀ a d, d < b → nu b a [dch d] = some (b * a + d) := by
    intro a d hd
    have : dvr b (dch d) = some d := by
      rcases h16 with rfl | rfl
      · exact dvr_dch10 d hd
      · exact dvr_dch16 d hd
    simp only [nu, this]
  intro n
  induction n using Nat.strongRecOn with
  | _ n ih =>
    rcases Nat.lt_or_ge n b with h | h
    · rw [dig_lt h, one 0 n h]
      simp
    · rw [dig_ge hb h, nu_append, ih (n / b) (Nat.div_lt_self (by omega) (by omega))]
      show nu b (n / b) [dch (n % b)] = some n
      rw [one (n / b) (n % b) (Nat.mod_lt _ (by omega)), Nat.div_add_mod]
def bad (most : Nat) (l : List UInt8) : Prop := l = [] ∨ most < l.length ∨ (l[0]! = 48 ∧ l ≠ [48])
instance (most : Nat) (l : List UInt8) : Decidable (bad most l) := by unfold bad; infer_instance
def rnum (b most : Nat) (l : List UInt8) : Option Nat := if bad most l then none else nu b 0 l
/-- -1, where there is none. -/
def rz (r : Option Nat) : Int := match r with
  | some v => v
  | none => -1
theorem rnum_dig {b most n : Nat} (h16 : b = 10 ∨ b = 16) (hl : (dig b n).length ≤ most) : rnum b most (dig b n) = some n := by
  unfold rnum
  rw [if_neg, nu_dig (by omega) h16]
  rintro (h | h | ⟨h1, h2⟩)
  · exact dig_ne b n h
  · omega
  · rcases Nat.eq_zero_or_pos n with e | e
    · subst e
      rw [dig_lt (by omega)] at h2
      exact h2 rfl
    · obtain ⟨c, r, e2, hc⟩ := dig_head (b := b) (by omega) (by omega) n e
      rw [e2] at h1
      exact hc h1
theorem nu_lt {b : Nat} (hb : b ≤ 16) : ∀ (l : List UInt8) (acc k v : Nat), acc < 16 ^ k → nu b acc l = some v → v < 16 ^ (k + l.length)
  | [], acc, k, v, h, e => by
    simp only [nu, Option.some.injEq] at e
    subst e
    simpa using h
  | c :: r, acc, k, v, h, e => by
    simp only [nu] at e
    split at e
    · cases e
    · rename_i d hd
      have hd16 : d < 16 := by
        unfold dvr at hd
        split at hd
        · cases hd
        · split at hd
          · cases hd; omega
          · split at hd
            · cases hd
            · split at hd
              · cases hd; omega
              · cases hd
      have h2 : b * acc + d < 16 ^ (k + 1) := by
        have : b * acc ≤ 16 * acc := Nat.mul_le_mul_right _ hb
        rw [Nat.pow_succ]
        omega
      have := nu_lt hb r _ (k + 1) v h2 e
      rw [List.length_cons, show k + (r.length + 1) = k + 1 + r.length by omega]
      exact this
theorem rnum_lt {b most v : Nat} {l : List UInt8} (hb : b ≤ 16) (hm : most ≤ 8) (h : rnum b most l = some v) : v < 4294967296 := by
  unfold rnum at h
  split at h
  · cases h
  · rename_i hbad
    have hl : l.length ≤ 8 := by
      rcases Nat.lt_or_ge most l.length with g | g
      · exact absurd (.inr (.inl g)) hbad
      · omega
    have := nu_lt hb l 0 0 v (by decide) h
    have h8 : 16 ^ (0 + l.length) ≤ 16 ^ 8 := Nat.pow_le_pow_right (by omega) (by omega)
    have e8 : 16 ^ 8 = 4294967296 := by decide
    omega
theorem pow_mono8 {i : Nat} (h : i ≤ 8) : 16 ^ i ≤ 4294967296 := Nat.pow_le_pow_right (by omega) h

set_option maxHeartbeats 4000000 in
set_option maxRecDepth 100000 in
theorem rnum4_run (l : List UInt8) (hl : l.length ≤ 4000) (w : World) : Calls Tryd.prog 44 #[.string (st l), .int .i64 10, .int .i64 4] w (Gives (.int .i64 (rz (rnum 10 4 l))) w) := by
  have hsz := st_size l
  have HI : Hid (∀ i : Nat, i < l.length → ∀ W, (Instr.index 9 (.string (st l)) (.int .i64 (i : Int))).run Tryd.prog W = .ok (bval (l[i]!)) W) := Lib.hid fun i hi W => index_st _ i hi W
  by_cases h0 : l = []
  · subst h0
    have HE : Aside (rnum 10 4 [] = none) := by
      show rnum 10 4 [] = none
      unfold rnum
      rw [if_pos (.inl rfl)]
    have hst : st [] = ⟨#[]⟩ := rfl
    rw [hst]
    clear hsz HI
    go_enter Tryd.func44, Tryd.ntmps44
    go_wp2
    go_ret
    exact ⟨by rw [HE.out]; rfl, rfl⟩
  have hemp := emp_st h0
  have hlp : 0 < l.length := List.length_pos_iff.2 h0
  by_cases h1 : 4 < l.length
  · have HE : Aside (rnum 10 4 l = none) := by
      show rnum 10 4 l = none
      unfold rnum
      rw [if_pos (.inr (.inl h1))]
    have hz : (4 : Int) < (l.length : Int) := by omega
    clear HI
    go_enter Tryd.func44, Tryd.ntmps44
    go_wp2
    go_ret
    exact ⟨by rw [HE.out]; rfl, rfl⟩
  have hz1 : ¬ (4 : Int) < (l.length : Int) := by omega
  have hix0 := HI.out 0 hlp
  unfold bval at hix0
  have c0 : ((0 : Nat) : Int) = 0 := rfl
  rw [c0] at hix0
  by_cases h2 : l[0]! = 48 ∧ l ≠ [48]
  · have HE : Aside (rnum 10 4 l = none) := by
      show rnum 10 4 l = none
      unfold rnum
      rw [if_pos (.inr (.inr h2))]
    rw [h2.1] at hix0
    have c48 : (((48 : UInt8).toNat : Nat) : Int) = 48 := rfl
    rw [c48] at hix0
    have hq : ((st l).toList == [48]) = false := by rw [st_toList]; exact beq_eq_false_iff_ne.2 h2.2
    clear HI h2
    go_enter Tryd.func44, Tryd.ntmps44
    go_wp2
    go_ret
    exact ⟨by rw [HE.out]; rfl, rfl⟩
  have hnb : ¬ bad 4 l := by
    rintro (h | h | h)
    · exact h0 h
    · exact h1 h
    · exact h2 h
  have HR : Aside (rnum 10 4 l = nu 10 0 l) := by
    show rnum 10 4 l = nu 10 0 l
    unfold rnum
    rw [if_neg hnb]
  have hl8 : l.length ≤ 8 := by omega
  have hgate : ((((l[0]!).toNat : Int) == 48) = false) ∨ ((((l[0]!).toNat : Int) == 48) = true ∧ ((st l).toList == [48]) = true) := by
    by_cases e : l[0]! = 48
    · refine .inr ⟨by rw [e]; rfl, ?_⟩
      have : l = [48] := Classical.byContradiction fun h => h2 ⟨e, h⟩
      rw [st_toList, this]
      rfl
    · exact .inl (beq_eq_false_iff_ne.2 (fun h => e (UInt8.toNat_inj.1 (by have : (l[0]!).toNat = 48 := by omega
                                                                           simpa using this))))
  clear h2 hnb
  generalize hz0 : ((l[0]!).toNat : Int) = z0 at hix0 hgate
  clear hz0
  go_enter Tryd.func44, Tryd.ntmps44
  rcases hgate with hg1 | ⟨hg1, hg2⟩
  all_goals
    go_wp2
    go_loopg [7, 8] l.length (fun gk v7 vi wr => ∃ i acc : Nat, v7 = .int .i64 (acc : Int) ∧ vi = .int .i64 (i : Int) ∧ i ≤ l.length ∧ l.length - i ≤ gk ∧ Aside (nu 10 0 l = nu 10 acc (l.drop i) ∧ acc < 16 ^ i ∧ wr = w))
    case atStart => exact ⟨0, 0, rfl, rfl, by omega, by omega, by simp, by decide, rfl⟩
    case round =>
      obtain ⟨i, acc, rfl, rfl, hi, hg, HS⟩ := hrel
      obtain rfl : wr = w := HS.out.2.2
      by_cases hlt : i < l.length
      · have hltz : (i : Int) < (l.length : Int) := by omega
        have hix := HI.out i hlt
        unfold bval at hix
        have hdr : l.drop i = l[i]! :: l.drop (i + 1) := by rw [getElem!_pos l i hlt]; exact List.drop_eq_getElem_cons hlt
        generalize hcc : l[i]! = c at hix hdr
        clear hcc
        have hc256 : c.toNat < 256 := c.toNat_lt
        have hmul : (10 : Int) * (acc : Int) = ((10 * acc : Nat) : Int) := by omega
        have hmle : 10 * acc ≤ 16 * acc := (by omega)
        have hacc := HS.out.2.1
        have hp1 : 16 ^ (i + 1) = 16 ^ i * 16 := Nat.pow_succ ..
        have hcz0 : (0 : Int) ≤ (c.toNat : Int) := by omega
        have hcz1 : (c.toNat : Int) ≤ 255 := by omega
        rcases Nat.lt_or_ge c.toNat 48 with hA | hA
        · have hAz : (c.toNat : Int) < 48 := by omega
          have hF : nu 10 acc (l.drop i) = none := by
            rw [hdr]
            simp [nu, dvr, hA]
          have HE : Aside (rnum 10 4 l = none) := HR.out.trans (HS.out.1.trans hF)
          clear HS hF hdr
          go_wp2
          go_ret
          exact ⟨by rw [HE.out]; rfl, rfl⟩
        · have hAz : (48 : Int) ≤ (c.toNat : Int) := by omega
          rcases Nat.lt_or_ge 57 c.toNat with hB | hB
          · have hBz : (57 : Int) < (c.toNat : Int) := by omega
            rcases Nat.lt_or_ge c.toNat 97 with hC | hC
            · have hCz : (c.toNat : Int) < 97 := by omega
              have hF : nu 10 acc (l.drop i) = none := by
                rw [hdr]
                simp [nu, dvr, hC, show ¬ c.toNat < 48 by omega, show ¬ c.toNat ≤ 57 by omega]
              have HE : Aside (rnum 10 4 l = none) := HR.out.trans (HS.out.1.trans hF)
              clear HS hF hdr
              go_wp2
              go_ret
              exact ⟨by rw [HE.out]; rfl, rfl⟩
            · have hCz : (97 : Int) ≤ (c.toNat : Int) := by omega
              rcases Nat.lt_or_ge (c.toNat - 87) 10 with hD | hD
              · omega
              · have hF : nu 10 acc (l.drop i) = none := by
                  rw [hdr]
                  simp [nu, dvr, show ¬ c.toNat < 48 by omega, show ¬ c.toNat ≤ 57 by omega, show ¬ c.toNat < 97 by omega, show ¬ c.toNat - 87 < 10 by omega]
                have hDz : (10 : Int) ≤ (c.toNat : Int) - 87 := by omega
                have HE : Aside (rnum 10 4 l = none) := HR.out.trans (HS.out.1.trans hF)
                clear HS hF hdr
                go_wp2
                go_ret
                exact ⟨by rw [HE.out]; rfl, rfl⟩
          · have hBz : (c.toNat : Int) ≤ 57 := by omega
            have hF : nu 10 acc (l.drop i) = nu 10 (10 * acc + (c.toNat - 48)) (l.drop (i + 1)) := by
              rw [hdr]
              simp [nu, dvr, show ¬ c.toNat < 48 by omega, hB]
            have hF2 : 10 * acc + (c.toNat - 48) < 16 ^ (i + 1) := by omega
            have hDz : (c.toNat : Int) - 48 < (10 : Int) := by omega
            have HE : Aside (nu 10 0 l = nu 10 (10 * acc + (c.toNat - 48)) (l.drop (i + 1)) ∧ 10 * acc + (c.toNat - 48) < 16 ^ (i + 1)) := ⟨HS.out.1.trans hF, hF2⟩
            have hsum : (10 : Int) * (acc : Int) + ((c.toNat : Int) - 48) = ((10 * acc + (c.toNat - 48) : Nat) : Int) := by rw [hmul]; omega
            have hub : ((10 * acc + (c.toNat - 48) : Nat) : Int) ≤ 4294967295 := by
              have := pow_mono8 (i := i + 1) (by omega)
              omega
            clear HS hF hF2 hdr hmul
            generalize 10 * acc + (c.toNat - 48) = acc' at *
            have hmub : (10 : Int) * (acc : Int) ≤ 4294967295 := by omega
            have hmlb : (0 : Int) ≤ (10 : Int) * (acc : Int) := (by omega)
            go_wp2
            go_roundg (l.length - (i + 1))
            case measure => omega
            case rel => exact ⟨i + 1, acc', by go_num, by go_num, by omega, by omega, HE.out.1, HE.out.2, rfl⟩
      · have hltz : ¬ (i : Int) < (l.length : Int) := by omega
        have hdr : l.drop i = [] := List.drop_eq_nil_of_le (by omega)
        have HE : Aside (rnum 10 4 l = some acc) := by
          show rnum 10 4 l = some acc
          rw [HR.out, HS.out.1, hdr]
          rfl
        clear HS hdr
        go_wp2
        go_ret
        exact ⟨by rw [HE.out]; rfl, rfl⟩
theorem dvr_ten {c : UInt8} {d : Nat} (h : dvr 10 c = some d) : d < 10 ∧ c = dch d := by
  unfold dvr at h
  split at h
  · cases h
  · split at h
    · cases h
      rename_i h1 h2
      refine ⟨by omega, ?_⟩
      rw [dch_ofNat (by omega)]
      apply UInt8.toNat_inj.1
      rw [UInt8.toNat_ofNat', Nat.mod_eq_of_lt (by omega)]
      omega
    · split at h
      · cases h
      · split at h
        · cases h
          omega
        · cases h
theorem nu_sound : ∀ (l : List UInt8) (acc v : Nat), 0 < acc → nu 10 acc l = some v → dig 10 v = dig 10 acc ++ l
  | [], acc, v, _, h => by
    simp only [nu, Option.some.injEq] at h
    rw [h]
    simp
  | c :: r, acc, v, ha, h => by
    simp only [nu] at h
    split at h
    · cases h
    · rename_i d hd
      obtain ⟨h1, rfl⟩ := dvr_ten hd
      rw [nu_sound r (10 * acc + d) v (by omega) h, dig_ge (by omega) (by omega), show (10 * acc + d) / 10 = acc by omega, show (10 * acc + d) % 10 = d by omega]
      simp
theorem rnum_sound {most v : Nat} {l : List UInt8} (h : rnum 10 most l = some v) : dig 10 v = l := by
  unfold rnum at h
  split at h
  · cases h
  · rename_i hb
    cases l with
    | nil => exact absurd (.inl rfl) hb
    | cons c r =>
      simp only [nu] at h
      split at h
      · cases h
      · rename_i d hd
        obtain ⟨h1, rfl⟩ := dvr_ten hd
        rcases Nat.eq_zero_or_pos d with e | e
        · subst e
          have hr : r = [] := by
            rcases Classical.em (r = []) with g | g
            · exact g
            · exact absurd (.inr (.inr ⟨by rfl, by intro q; simp at q; exact g q.2⟩)) hb
          subst hr
          simp only [nu, Option.some.injEq] at h
          rw [← h, dig_lt (by omega)]
        · rw [nu_sound r (10 * 0 + d) v (by omega) h, dig_lt (by omega)]
          simp
end Go.Proofs.YtdaenaoagejgeaaDoor
/-
  Characters are typed: the closure of ScreenTyped; the document's text of a row.
-/
namespace Go.Proofs.YtdaenaoagejgeaaDoor
open Go.RowKit Go.Lib
set_option linter.unusedVariables false

theorem Is.at {w wr : World} {a : Option Addr} {l : List Int} (h : Is w a l) {F : List Nat} (hs : Stp [] w F wr) {i : Nat} (hi : i < l.length) : ∃ b off, a = some ⟨b, off, none⟩ ∧ wr.cell? ⟨b, off + i, none⟩ = some (.int .i64 (l[i]!)) := by
  obtain ⟨b, off, h1, hb, h2⟩ := h (by intro e; subst e; simp at hi)
  exact ⟨b, off, h1, (hs.cell (a := ⟨b, off + i, none⟩) hb (by simp)).trans (h2 i hi)⟩
/-- The characters among numbers that may be shown. -/
def shw (l : List Int) : List Nat := (l.filter (fun c => U.prB c)).map Int.toNat
theorem shw_yes {l : List Int} {i q : Nat} (hi : i < l.length) (hq : l[i]! = (q : Int)) (hp : U.prB (q : Int) = true) : shw (l.take (i + 1)) = shw (l.take i) ++ [q] := by
  unfold shw
  rw [getElem!_pos l i hi] at hq
  rw [List.take_succ_eq_append_getElem hi, List.filter_append, List.map_append]
  simp [hq, hp]
theorem shw_no {l : List Int} {i : Nat} (hi : i < l.length) (hp : U.prB (l[i]!) = false) : shw (l.take (i + 1)) = shw (l.take i) := by
  unfold shw
  rw [getElem!_pos l i hi] at hp
  rw [List.take_succ_eq_append_getElem hi, List.filter_append, List.map_append]
  simp [hp]
theorem shw_len (l : List Int) : (shw l).length ≤ l.length := by
  unfold shw
  rw [List.length_map]
  exact List.length_filter_le _ _
theorem shw_pr (l : List Int) : Pr (shw l) := fun c hc => by
  obtain ⟨z, hz, rfl⟩ := List.mem_map.1 hc
  have h1 : U.prB z = true := by simpa using (List.mem_filter.1 hz).2
  have h2 := of_decide_eq_true h1
  rw [Int.toNat_of_nonneg (by omega)]
  exact h1
/-- Characters laid one behind another. -/
def typ (S : Sn) (cs : List Nat) : Sn := cs.foldl (fun S c => { S with cur := laid S.cur S.col c, col := S.col + 1 }) S
theorem typ_snoc (S : Sn) (cs : List Nat) (c : Nat) : typ S (cs ++ [c]) = { typ S cs with cur := laid (typ S cs).cur (typ S cs).col c, col := (typ S cs).col + 1 } := by
  unfold typ
  rw [List.foldl_append]
  rfl
theorem laid_at (P R : List Nat) (c : Nat) : laid (P ++ R) P.length c = (P ++ [c]) ++ R.drop 1 := by
  unfold laid
  cases R with
  | nil =>
    rw [if_neg (by simp), List.append_nil, Nat.sub_self]
    simp
  | cons x R =>
    rw [if_pos (by simp), List.set_append_right P.length c (Nat.le_refl _)]
    simp
theorem typ_mid (up : List (List Nat)) (be : Nat) (pa : Bool) (od : Nat) : ∀ (Y P R : List Nat), typ ⟨up, P ++ R, P.length, be, pa, od⟩ Y = ⟨up, P ++ Y ++ R.drop Y.length, P.length + Y.length, be, pa, od⟩
  | [], P, R => by simp [typ]
  | c :: Y, P, R => by
    have h1 : typ ⟨up, P ++ R, P.length, be, pa, od⟩ (c :: Y) = typ ⟨up, (P ++ [c]) ++ R.drop 1, (P ++ [c]).length, be, pa, od⟩ Y := by
      unfold typ
      rw [List.foldl_cons]
      simp only [laid_at, List.length_append, List.length_singleton]
    rw [h1, typ_mid up be pa od Y (P ++ [c]) (R.drop 1)]
    simp
    omega
/-- A screen, and the variable that holds it. -/
structure TyR (w W : World) (bs s : Nat) (F : List Nat) (S : Sn) (B : Nat) : Prop where
  ex : ∃ L, Ks w W s F L ∧ seen L = S ∧ held L = [] ∧ L.length ≤ B
  lo : w.heap.size ≤ bs
  nF : bs ∉ F
  lt : bs < W.heap.size
  cl : W.cell? ⟨bs, 0, none⟩ = some (.pointer (some ⟨s, 0, none⟩))
section
variable {w W W' : World} {bs s B : Nat} {F G' : List Nat} {S : Sn}
theorem TyR.stp (h : TyR w W bs s F S B) : Stp [] w [] W := by
  obtain ⟨L, h1, _⟩ := h.ex
  exact h1.stp
theorem TyR.low (h : TyR w W bs s F S B) : ∀ j ∈ F, w.heap.size ≤ j ∧ j < W.heap.size := by
  obtain ⟨L, h1, _⟩ := h.ex
  exact fun j hj => ⟨h1.low j hj, h1.lt j hj⟩
theorem TyR.stays (h : TyR w W bs s F S B) (hs : Stp [] W G' W') : TyR w W' bs s F S B := by
  obtain ⟨L, h1, h2⟩ := h.ex
  exact ⟨⟨L, h1.stays hs, h2⟩, h.lo, h.nF, Nat.lt_of_lt_of_le h.lt hs.size, hs.keeps rfl h.cl⟩
/-- Bytes that are whole are fed. -/
theorem TyR.feed (h : TyR w W bs s F S B) (hT : Tabs w) {b : List UInt8} {S' : Sn} (hx : ∀ L, seen L = S → held L = [] → seen (L ++ b) = S' ∧ held (L ++ b) = []) (a : Option Addr) (n cap : Nat) (hb : Bts W a b) (hn : n = b.length) (ha : a = none → cap = 0) (hl : B + b.length ≤ 90000) :
    Calls Tryd.prog 11 #[.pointer (some ⟨s, 0, none⟩), .slice a n cap] W (fun e w' => e = .returned (.int .i64 0) ∧ ∃ F', TyR w w' bs s F' S' (B + b.length) ∧ Stp F W F' w') := by
  obtain ⟨L, h1, h2, h3, h4⟩ := h.ex
  refine (h1.feed hT a n cap b hb hn ha (by omega)).mono ?_
  rintro e w' ⟨rfl, F', k, hs⟩
  obtain ⟨g1, g2⟩ := hx L h2 h3
  refine ⟨rfl, F', ⟨⟨_, k, g1, g2, by rw [List.length_append]; omega⟩, h.lo, fun hj => ?_, Nat.lt_of_lt_of_le h.lt hs.size, ?_⟩, hs⟩
  · rcases hs.foot bs hj with g | g
    · exact h.nF g
    · have := h.lt
      omega
  · rw [hs.cell (a := ⟨bs, 0, none⟩) h.lt h.nF]
    exact h.cl
end
theorem Stp.late {F F2 K G' : List Nat} {W w3 w5 : World} (h : Stp F W F2 w3) (s : Stp K w3 G' w5) (hK : ∀ j ∈ K, W.heap.size ≤ j) : Stp F W F2 w5 :=
  ⟨s.os.trans h.os, s.tape.trans h.tape, s.output.trans h.output, Nat.le_trans h.size s.size, fun j hj hF => (s.block j (Nat.lt_of_lt_of_le hj h.size) (fun g => by have := hK j g; omega)).trans (h.block j hj hF), h.foot⟩
/-- A step in blocks that are neither the screen's nor the variable's. -/
theorem TyR.other {w W W' : World} {bs s B : Nat} {F G G' : List Nat} {S : Sn} (h : TyR w W bs s F S B) (hs : Stp G W G' W') (hG : ∀ j ∈ G, w.heap.size ≤ j ∧ j ∉ F ∧ j ≠ bs) : TyR w W' bs s F S B := by
  obtain ⟨L, h1, h2⟩ := h.ex
  refine ⟨⟨L, h1.other hs (fun j hj => (hG j hj).1) (fun j hj hk => (hG j hk).2.1 hj), h2⟩, h.lo, h.nF, Nat.lt_of_lt_of_le h.lt hs.size, ?_⟩
  rw [hs.cell (a := ⟨bs, 0, none⟩) h.lt (fun g => (hG bs g).2.2 rfl)]
  exact h.cl
theorem wpList_appN2 {w : World} {ops : Array Oper} {rest : List Oper} {o : Oper} {a : Act} {Q : Exit → Act → World → Prop} (hgd : o.guard = none) (s x : Operand)
    (ho : o.op = .call { callee := .builtin .append, args := #[s, x], argTypes := #[39, 39] }) (base : Nat) (v : Value) (xs : List Nat) (hs : a.eval s = v) (hown : U.OwnI w base v xs)
    (A : Option Addr) (c n : Nat) (l : List Nat) (hn : n = l.length) (hx : a.eval x = .slice A n c) (hl : Its w A l) (hA : A = none → c = 0) (h63 : xs.length + l.length ≤ 1000000) (hbase : base ≤ w.heap.size)
    (h : ∀ v' w', U.OwnI w' base v' (xs ++ l) → Stp v.ownBlock.toList w [] w' → (v'.ownBlock = v.ownBlock ∨ v'.ownBlock = some w.heap.size) → wpList Tryd.prog ops Q rest (a.put o.dst v') w') : wpList Tryd.prog ops Q (o :: rest) a w := by
  subst hn
  refine wpList_plain hgd fun K hK => ?_
  obtain ⟨v', w', hrun, h2, h3, h4⟩ := run_appN o.type hown hl hA h63 hbase
  have hs3 : Stp v.ownBlock.toList w [] w' := ⟨h3.os, h3.tape, h3.output, h3.size, fun k hk hF => h3.block k hk (fun e => hF (by rw [← e]; simp)), fun _ g => by cases g⟩
  unfold Oper.wp execOp
  simp only [ho, resolve, invoke, builtin, Sem.run_bind, Sem.run_pure, Result.andThen_ok, List.map_toArray, List.map_cons, List.map_nil, hs, hx, hrun]
  exact hK _ _ (h v' w' h2 hs3 h4)
theorem one_its (w : World) (c : Nat) : Its (w.alloc (.cells #[.int .i64 (c : Int)] 3)) (some ⟨w.heap.size, 0, none⟩) [c] := by
  obtain ⟨a, k, e2, hi, _⟩ := OwnI.its (OwnI.one w c)
  cases e2
  exact hi
/-- What the closure answers: the characters that it laid, in memory of its own. -/
def Layd (w W : World) (bs s : Nat) (F : List Nat) (S : Sn) (X : List Nat) (B : Nat) (e : Ending) (w' : World) : Prop := ∃ v F', e = .returned v ∧ U.OwnI w' W.heap.size v X ∧ TyR w w' bs s F' (typ S X) B ∧ Stp F W F' w' ∧ ∀ k, v.ownBlock = some k → k ∉ F'
set_option maxHeartbeats 2000000 in
set_option maxRecDepth 100000 in
theorem lay_run {w W : World} {bs s B : Nat} {F : List Nat} {S : Sn} (h : TyR w W bs s F S B) (hT : Tabs w) (a0 : Option Addr) (n cap0 : Nat) (l : List Int) (hb : Is w a0 l) (hn : n = l.length) (hn3 : n ≤ 300) (hB : B ≤ 80000) :
    Calls Tryd.prog 25 #[.slice a0 n cap0, .pointer (some ⟨bs, 0, none⟩)] W (Layd w W bs s F S (shw l) (B + 4 * n)) := by
  have HT : Aside (Is w a0 l ∧ n = l.length ∧ Tabs w ∧ TyR w W bs s F S B ∧ B ≤ 80000) := ⟨hb, hn, hT, h, hB⟩
  clear h hT hb hn hB
  go_enter Tryd.func25, Tryd.ntmps25
  go_wp2_with fail
  go_loopg [4, 11] n (fun gk v4 vi wr => ∃ (i : Nat) (ao : Option Addr) (no co : Nat), vi = .int .i64 (i : Int) ∧ v4 = .slice ao no co ∧ i ≤ n ∧ n - i ≤ gk ∧ Aside (∃ F', U.OwnI wr W.heap.size (.slice ao no co) (shw (l.take i)) ∧ TyR w wr bs s F' (typ S (shw (l.take i))) (B + 4 * i) ∧ Stp F W F' wr ∧ ∀ k, (Value.slice ao no co).ownBlock = some k → k ∉ F'))
  case atStart => exact ⟨0, none, 0, 0, rfl, rfl, by omega, by omega, F, World.ownsRow_nil _ _ _ _, HT.out.2.2.2.1, Stp.refl _ _, fun k hk => by cases hk⟩
  case round =>
    obtain ⟨i, ao, no, co, rfl, rfl, hi, hg, HS⟩ := hrel
    by_cases hlt : i < n
    · have hltz : (i : Int) < (n : Int) := by omega
      have hil : i < l.length := by rw [← HT.out.2.1]; exact hlt
      obtain ⟨F1, q1, q2, q3, q4⟩ := HS.out
      obtain ⟨ab, off, rfl, c0⟩ := HT.out.1.at q2.stp hil
      have HS1 : Aside (U.OwnI wr W.heap.size (.slice ao no co) (shw (l.take i)) ∧ TyR w wr bs s F1 (typ S (shw (l.take i))) (B + 4 * i) ∧ Stp F W F1 wr ∧ ∀ k, (Value.slice ao no co).ownBlock = some k → k ∉ F1) := ⟨q1, q2, q3, q4⟩
      have hsl : (shw (l.take i)).length ≤ 300 := by have := shw_len (l.take i); simp at this; omega
      have HX := Lib.hid (And.intro hil (And.intro hlt hsl))
      have KP := Lib.hid (fun W => U.pr_any (l[i]!) W)
      have cb := q2.cl
      clear q1 q2 q3 q4 HS hil hsl
      by_cases hp : U.prB (l[i]!) = true
      · obtain ⟨q, hq⟩ : ∃ q : Nat, l[i]! = (q : Int) := ⟨(l[i]!).toNat, by have := of_decide_eq_true hp; omega⟩
        have HQ := Lib.hid (shw_yes HX.out.1 hq (hq ▸ hp))
        rw [hq] at KP c0 hp
        rw [hp] at KP
        have hch := (pr_ch hp).1
        have KU := Lib.hid (U.put_yes q wr hch)
        have HPR := Lib.hid hp
        clear hq hch hp
        go_wp2_with fail
        refine KU.out.mono ?_
        rintro _ w1 ⟨v1, rfl, ho1, hb1⟩
        have ho1 := own_of_U ho1 (U.enc_lt q (pr_ch HPR.out).2)
        rw [show (U.enc q).map UInt8.ofNat = enc8 q from rfl] at ho1
        obtain ⟨a5, c5, rfl, hbt5, hz5, _, _⟩ := ho1.bts
        have s1 := Stp.of_below hb1
        have c1 : w1.cell? ⟨bs, 0, none⟩ = some (.pointer (some ⟨s, 0, none⟩)) := s1.keeps rfl cb
        have KF := Lib.hid ((HS1.out.2.1.stays s1).feed HT.out.2.2.1 (fun L e1 e2 => by
          have := seen_chr e2 HPR.out
          rw [e1] at this
          exact this) a5 (enc8 q).length c5 hbt5 rfl hz5 (by have := (enc8_len q).2; have := HT.out.2.2.2.2; omega))
        have H1 : Aside (U.OwnI w1 W.heap.size (.slice ao no co) (shw (l.take i)) ∧ Stp F W F1 w1 ∧ ∀ k, (Value.slice ao no co).ownBlock = some k → k ∉ F1) := ⟨OwnI.other HS1.out.1 s1 (fun _ _ h => by cases h), HS1.out.2.2.1.trans (s1.widen (fun k hk => .inl hk)), HS1.out.2.2.2⟩
        clear KU ho1 hb1 hbt5 hz5 s1 HS1
        go_wp2_with fail
        refine (KP.out _).mono ?_
        rintro _ _ ⟨rfl, rfl⟩
        go_wp2_with fail
        refine KF.out.mono ?_
        rintro _ w2 ⟨rfl, F2, t2, s2⟩
        have H2 : Aside (U.OwnI w2 W.heap.size (.slice ao no co) (shw (l.take i)) ∧ Stp F W F2 w2 ∧ (∀ k, (Value.slice ao no co).ownBlock = some k → k ∉ F2) ∧ TyR w w2 bs s F2 { typ S (shw (l.take i)) with cur := laid (typ S (shw (l.take i))).cur (typ S (shw (l.take i))).col q, col := (typ S (shw (l.take i))).col + 1 } (B + 4 * i + (enc8 q).length)) := by
          obtain ⟨g1, g2, g3⟩ := H1.out
          refine ⟨OwnI.other g1 s2 g3, g2.trans s2, fun k hk hj => ?_, t2⟩
          rcases s2.foot k hj with g | g
          · exact g3 k hk g
          · have := (World.ownsRow.lt g1 k hk).2
            omega
        clear KF H1 s2 t2
        go_wp2_with (at_builtin; refine wpList_appN2 rfl (.tmp 29) (.tmp 31) rfl W.heap.size (.slice ao no co) (shw (l.take i)) rfl (OwnI.other H2.out.1 (Stp.alloc [] w2 _) (fun _ _ h => by cases h)) (some ⟨w2.heap.size, 0, none⟩) 1 1 [q] rfl rfl (one_its w2 q) (fun h => by cases h) (by have := HX.out.2.2; simp; omega) (by have := H2.out.2.1.size; rw [World.size_alloc]; omega) ?_; intro v5 w5 ho5 hs5 hbl5)
        have H5 : Aside (∃ F', U.OwnI w5 W.heap.size v5 (shw (l.take (i + 1))) ∧ TyR w w5 bs s F' (typ S (shw (l.take (i + 1)))) (B + 4 * (i + 1)) ∧ Stp F W F' w5 ∧ ∀ k, v5.ownBlock = some k → k ∉ F') := by
          obtain ⟨g1, g2, g3, g4⟩ := H2.out
          have e4 := (enc8_len q).2
          have g5 := g4.stays (Stp.alloc [] w2 (.cells #[.int .i64 (q : Int)] 3))
          have hk : ∀ j ∈ (Value.slice ao no co).ownBlock.toList, W.heap.size ≤ j ∧ j ∉ F2 := fun j hj => ⟨(World.ownsRow.lt g1 j (by simpa using hj)).1, g3 j (by simpa using hj)⟩
          have hW := HT.out.2.2.2.1
          rw [HQ.out, typ_snoc]
          refine ⟨F2, ho5, ?_, (g2.trans ((Stp.alloc F2 w2 _))).late hs5 (fun j hj => (hk j hj).1), fun k hk2 => ?_⟩
          · have g6 := g5.other hs5 (fun j hj => ⟨Nat.le_trans hW.stp.size (hk j hj).1, (hk j hj).2, fun e => by have := (hk j hj).1; have := hW.lt; omega⟩)
            obtain ⟨L, r1, r2, r3, r4⟩ := g6.ex
            exact ⟨⟨L, r1, r2, r3, by omega⟩, g6.lo, g6.nF, g6.lt, g6.cl⟩
          · rcases hbl5 with e | e
            · exact g3 k (e ▸ hk2)
            · rw [e] at hk2
              cases hk2
              intro hj
              have := (g4.low _ hj).2
              rw [World.size_alloc] at this
              omega
        clear ho5 hs5 hbl5 H2
        go_roundg (n - (i + 1))
        case measure => have := HX.out.2.1; omega
        case rel =>
          obtain ⟨F', r1, r2⟩ := H5.out
          obtain ⟨a6, c6, e6, _⟩ := OwnI.its r1
          subst e6
          exact ⟨i + 1, a6, _, c6, by go_num, rfl, by have := HX.out.2.1; omega, by omega, F', r1, r2⟩
      · have hp : U.prB (l[i]!) = false := by simpa using hp
        have HQ := Lib.hid (shw_no HX.out.1 hp)
        rw [hp] at KP
        generalize l[i]! = x at *
        cases hc : U.isCh x with
        | true =>
          obtain ⟨q, rfl⟩ : ∃ q : Nat, x = (q : Int) := ⟨x.toNat, by have := of_decide_eq_true hc; omega⟩
          have KU := Lib.hid (U.put_yes q wr hc)
          clear hc hp
          go_wp2_with fail
          refine KU.out.mono ?_
          rintro _ w1 ⟨v1, rfl, ho1, hb1⟩
          have s1 := Stp.of_below hb1
          have H1 : Aside (U.OwnI w1 W.heap.size (.slice ao no co) (shw (l.take i)) ∧ TyR w w1 bs s F1 (typ S (shw (l.take i))) (B + 4 * i) ∧ Stp F W F1 w1 ∧ ∀ k, (Value.slice ao no co).ownBlock = some k → k ∉ F1) := ⟨OwnI.other HS1.out.1 s1 (fun _ _ h => by cases h), HS1.out.2.1.stays s1, HS1.out.2.2.1.trans (s1.widen (fun k hk => .inl hk)), HS1.out.2.2.2⟩
          clear KU ho1 hb1 s1 HS1
          go_wp2_with fail
          refine (KP.out _).mono ?_
          rintro _ _ ⟨rfl, rfl⟩
          go_wp2_with fail
          go_roundg (n - (i + 1))
          case measure => have := HX.out.2.1; omega
          case rel =>
            obtain ⟨r1, r2, r3⟩ := H1.out
            rw [← HQ.out] at r1 r2
            obtain ⟨L, t1, t2, t3, t4⟩ := r2.ex
            exact ⟨i + 1, ao, no, co, by go_num, rfl, by have := HX.out.2.1; omega, by omega, F1, r1, ⟨⟨L, t1, t2, t3, by omega⟩, r2.lo, r2.nF, r2.lt, r2.cl⟩, r3⟩
        | false =>
          have KU := Lib.hid (U.put_no x wr hc)
          clear hc hp
          go_wp2_with fail
          refine KU.out.mono ?_
          rintro _ _ ⟨rfl, rfl⟩
          go_wp2_with fail
          go_roundg (n - (i + 1))
          case measure => have := HX.out.2.1; omega
          case rel =>
            obtain ⟨r1, r2, r3⟩ := HS1.out
            rw [← HQ.out] at r1 r2
            obtain ⟨L, t1, t2, t3, t4⟩ := r2.ex
            exact ⟨i + 1, ao, no, co, by go_num, rfl, by have := HX.out.2.1; omega, by omega, F1, r1, ⟨⟨L, t1, t2, t3, by omega⟩, r2.lo, r2.nF, r2.lt, r2.cl⟩, r3⟩
    · have hltz : ¬ (i : Int) < (n : Int) := by omega
      have hl2 : l.take i = l := List.take_of_length_le (by have := HT.out.2.1; omega)
      have HS2 := Lib.hid HS.out
      rw [hl2, show i = n by omega] at HS2
      clear HS hl2
      go_wp2
      go_ret
      obtain ⟨F', r1, r2, r3, r4⟩ := HS2.out
      exact ⟨_, F', rfl, r1, r2, r3, r4⟩
end Go.Proofs.YtdaenaoagejgeaaDoor
/-
  What the document sees, in memory: its rows, each in a slice of its own, its place and the rest.
-/
namespace Go.Proofs.YtdaenaoagejgeaaDoor
open Go.RowKit Go.Lib
set_option linter.unusedVariables false

/-- A row's slice, in memory from B on. -/
def Rv (W : World) (B : Nat) (v : Value) (r : List Nat) : Prop := ∃ a cap, v = .slice a r.length cap ∧ Its W a r ∧ (a = none → cap = 0) ∧ r.length ≤ cap ∧ ∀ ad, a = some ad → v.ownBlock = some ad.block ∧ B ≤ ad.block ∧ ∃ C, W.heap[ad.block]? = some (.cells C 3 (0, 0))
section
variable {W W' : World} {B : Nat} {v : Value} {r : List Nat} {G G' : List Nat}
theorem Rv.nil (W : World) (B : Nat) : Rv W B (.slice none 0 0) [] := ⟨none, 0, rfl, Its.nil _ _, fun _ => rfl, Nat.le_refl _, fun _ h => by cases h⟩
theorem Rv.other (h : Rv W B v r) (hs : Stp G W G' W') (hG : ∀ j ∈ G, ∀ C, W.heap[j]? ≠ some (.cells C 3 (0, 0))) : Rv W' B v r := by
  obtain ⟨a, cap, h1, h2, h3, h4, h5⟩ := h
  have hn : ∀ ad, a = some ad → ad.block ∉ G := fun ad e hj => by
    obtain ⟨_, _, C, hC⟩ := h5 ad e
    exact hG _ hj C hC
  refine ⟨a, cap, h1, h2.other hs (fun _ ad e => hn ad e), h3, h4, fun ad e => ?_⟩
  obtain ⟨g1, g2, C, hC⟩ := h5 ad e
  exact ⟨g1, g2, C, (hs.block _ (Array.getElem?_eq_some_iff.1 hC).1 (hn ad e)).trans hC⟩
theorem Rv.stays (h : Rv W B v r) (hs : Stp [] W G' W') : Rv W' B v r := h.other hs (fun _ h => by cases h)
theorem Rv.take {a : Option Addr} {n cap : Nat} (h : Rv W B (.slice a n cap) r) {i : Nat} (hi : i ≤ r.length) : Rv W B (.slice a i cap) (r.take i) := by
  obtain ⟨a', cap', h1, h2, h3, h4, h5⟩ := h
  cases h1
  have e : (r.take i).length = i := by rw [List.length_take]; omega
  refine ⟨a, cap, by rw [e], ?_, h3, by omega, fun ad e => ?_⟩
  · have := h2
    rw [← List.take_append_drop i r] at this
    exact this.head
  · have := h5 ad e
    exact ⟨by have h := this.1; subst e; exact h, this.2⟩
theorem Rv.of {base : Nat} (h : U.OwnI W base v r) (hB : B ≤ base) : Rv W B v r := by
  obtain ⟨a, cap, h1, h2, h3, h4, h5⟩ := OwnI.its h
  refine ⟨a, cap, h1, h2, h3, h4, fun ad e => ?_⟩
  subst e
  have g := h5 ad rfl
  refine ⟨by rw [h1]; rfl, by omega, ?_⟩
  rcases h.2 with ⟨e2, _⟩ | ⟨g', cap', cur, e2, _, hh, _⟩
  · rw [e2] at h1
    cases h1
  · rw [e2] at h1
    cases h1
    exact ⟨_, hh⟩
end
/-- What the document sees, at m; its row's number is k. -/
structure Rf (W : World) (B m : Nat) (v : Value) (vs : List Value) (S : Sn) (k : Nat) : Prop where
  obj : W.heap[m]? = some (.cells #[v, .int .i64 (k : Int), .int .i64 (S.col : Int), .int .i64 (S.bells : Int), .bool S.pa, .int .i64 (S.odd : Int)] 59 (0, 0))
  lo : B ≤ m
  own : W.ownsRow B 39 1 v vs.length vs
  len : vs.length = S.up.length + 1
  rows : ∀ (i : Nat) u r, vs[i]? = some u → (S.up ++ [S.cur])[i]? = some r → Rv W B u r
section
variable {W W' : World} {B m k : Nat} {v : Value} {vs : List Value} {S : Sn} {G G' : List Nat}
theorem Rf.lt (h : Rf W B m v vs S k) : m < W.heap.size := (Array.getElem?_eq_some_iff.1 h.obj).1
theorem Rf.c0 (h : Rf W B m v vs S k) : W.cell? ⟨m, 0, none⟩ = some v := by rw [cell_of_row W m 0 _ _ _ h.obj]; rfl
theorem Rf.c1 (h : Rf W B m v vs S k) : W.cell? ⟨m, 1, none⟩ = some (.int .i64 (k : Int)) := by rw [cell_of_row W m 1 _ _ _ h.obj]; rfl
theorem Rf.c2 (h : Rf W B m v vs S k) : W.cell? ⟨m, 2, none⟩ = some (.int .i64 (S.col : Int)) := by rw [cell_of_row W m 2 _ _ _ h.obj]; rfl
theorem Rf.c3 (h : Rf W B m v vs S k) : W.cell? ⟨m, 3, none⟩ = some (.int .i64 (S.bells : Int)) := by rw [cell_of_row W m 3 _ _ _ h.obj]; rfl
theorem Rf.c4 (h : Rf W B m v vs S k) : W.cell? ⟨m, 4, none⟩ = some (.bool S.pa) := by rw [cell_of_row W m 4 _ _ _ h.obj]; rfl
theorem Rf.c5 (h : Rf W B m v vs S k) : W.cell? ⟨m, 5, none⟩ = some (.int .i64 (S.odd : Int)) := by rw [cell_of_row W m 5 _ _ _ h.obj]; rfl
theorem Rf.fz (h : Rf W B m v vs S k) (i : Nat) : W.frozen? ⟨m, i, none⟩ = false := frozen_of_row W m i _ _ h.obj
/-- Where the rows stand. -/
theorem Rf.at (h : Rf W B m v vs S k) : ∃ R cap, v = .slice (some ⟨R, 0, none⟩) (S.up.length + 1) cap ∧ B ≤ R ∧ R < W.heap.size ∧ R ≠ m ∧ (∃ C, W.heap[R]? = some (.cells C 39 (0, 0))) ∧ v.ownBlock = some R ∧ S.up.length + 1 ≤ cap := by
  rcases h.own.2 with ⟨_, h0⟩ | ⟨g, cap, cur, rfl, hb, hg, hc, _⟩
  · rw [h.len] at h0
    omega
  · refine ⟨g, cap, by rw [h.len], hb, (Array.getElem?_eq_some_iff.1 hg).1, ?_, ⟨cur, hg⟩, rfl, by rw [← h.len]; exact hc⟩
    rintro rfl
    have := h.obj
    rw [hg] at this
    injection this with this
    injection this with _ e
    exact absurd e (by decide)
theorem Rf.own2 (h : Rf W B m v vs S k) {R n cap : Nat} (hv : v = .slice (some ⟨R, 0, none⟩) n cap) : n = vs.length ∧ W.ownsRow B 39 1 (.slice (some ⟨R, 0, none⟩) n cap) n vs := by
  obtain ⟨R', cap', e, _⟩ := h.at
  rw [hv] at e
  cases e
  have h1 := h.own
  rw [hv, h.len] at h1
  exact ⟨h.len.symm, h1⟩
theorem Rf.cell (h : Rf W B m v vs S k) {R n cap : Nat} (hv : v = .slice (some ⟨R, 0, none⟩) n cap) {i : Nat} {u : Value} (hi : vs[i]? = some u) : W.cell? ⟨R, i, none⟩ = some u := by
  have hlt : i < vs.length := (List.getElem?_eq_some_iff.1 hi).1
  have h1 := World.ownsRow.cellAt (h.own2 hv).2 i (by rw [(h.own2 hv).1]; omega)
  rw [h1]
  exact hi
/-- The row at which the place is. -/
theorem Rf.last (h : Rf W B m v vs S k) : ∃ u, vs[S.up.length]? = some u ∧ Rv W B u S.cur := by
  have h1 := h.len
  obtain ⟨u, hu⟩ : ∃ u, vs[S.up.length]? = some u := ⟨_, List.getElem?_eq_getElem (by omega)⟩
  exact ⟨u, hu, h.rows _ u S.cur hu (by simp)⟩
theorem Rf.other (h : Rf W B m v vs S k) (hs : Stp G W G' W') (h1 : m ∉ G) (h2 : ∀ j, v.ownBlock = some j → j ∉ G) (hG : ∀ j ∈ G, ∀ C, W.heap[j]? ≠ some (.cells C 3 (0, 0))) : Rf W' B m v vs S k := by
  refine ⟨(hs.block m h.lt h1).trans h.obj, h.lo, ?_, h.len, fun i u r hu hr => (h.rows i u r hu hr).other hs hG⟩
  refine ⟨h.own.1, ?_⟩
  rcases h.own.2 with hn | ⟨g, cap, cur, rfl, hb, hgg, rest⟩
  · exact .inl hn
  · exact .inr ⟨g, cap, cur, rfl, hb, (hs.block g (Array.getElem?_eq_some_iff.1 hgg).1 (h2 g rfl)).trans hgg, rest⟩
theorem Rf.stays (h : Rf W B m v vs S k) (hs : Stp [] W G' W') : Rf W' B m v vs S k := h.other hs (fun h => by cases h) (fun _ _ h => by cases h) (fun _ h => by cases h)
/-- A step in one block that is neither the document's nor a row of numbers. -/
theorem Rf.own_m (h : Rf W B m v vs S k) : ∀ C, W.heap[m]? ≠ some (.cells C 3 (0, 0)) := fun C e => by
  rw [h.obj] at e
  injection e with e
  injection e with _ e
  exact absurd e (by decide)
/-- A field is stored. -/
theorem Rf.field (h : Rf W B m v vs S k) {j k' : Nat} {u : Value} {S' : Sn} (hup : S'.up = S.up) (hcur : S'.cur = S.cur)
    (e : (#[v, .int .i64 (k : Int), .int .i64 (S.col : Int), .int .i64 (S.bells : Int), .bool S.pa, .int .i64 (S.odd : Int)] : Array Value).setIfInBounds j u = #[v, .int .i64 (k' : Int), .int .i64 (S'.col : Int), .int .i64 (S'.bells : Int), .bool S'.pa, .int .i64 (S'.odd : Int)]) :
    Rf (W.setCell ⟨m, j, none⟩ u) B m v vs S' k' := by
  have hs : Stp [m] W [m] (W.setCell ⟨m, j, none⟩ u) := Stp.setCell W u (by simp)
  have hm2 : ∀ j ∈ [m], ∀ C, W.heap[j]? ≠ some (.cells C 3 (0, 0)) := fun j hj => by rw [List.mem_singleton.1 hj]; exact h.own_m
  obtain ⟨R, cap, _, _, _, hne, _, hb, _⟩ := h.at
  refine ⟨?_, h.lo, ?_, by rw [hup]; exact h.len, fun i u' r hu hr => ?_⟩
  · have := heap_setCell_same W m j _ _ u h.obj
    rw [this]
    exact congrArg (fun x => some (Obj.cells x 59 (0, 0))) e
  · refine ⟨h.own.1, ?_⟩
    rcases h.own.2 with hn | ⟨g, cap, cur, rfl, hb', hgg, rest⟩
    · exact .inl hn
    · have hg : g ∉ [m] := by
        cases hb
        simpa using hne
      exact .inr ⟨g, cap, cur, rfl, hb', (hs.block g (Array.getElem?_eq_some_iff.1 hgg).1 hg).trans hgg, rest⟩
  · rw [hup, hcur] at hr
    exact (h.rows i u' r hu hr).other hs hm2
/-- The place's row is stored. -/
theorem Rf.store (h : Rf W B m v vs S S.up.length) {R n cap : Nat} (hv : v = .slice (some ⟨R, 0, none⟩) n cap) {u : Value} {r : List Nat} (hu : Rv W B u r) : Rf (W.setCell ⟨R, S.up.length, none⟩ u) B m v (vs.set S.up.length u) { S with cur := r } S.up.length := by
  obtain ⟨R', cap', e, _, hlt, hne, ⟨C, hC⟩, hb, _⟩ := h.at
  obtain rfl : R = R' := by rw [hv] at e; cases e; rfl
  have hs : Stp [R] W [R] (W.setCell ⟨R, S.up.length, none⟩ u) := Stp.setCell W u (by simp)
  have hG : ∀ j ∈ [R], ∀ C, W.heap[j]? ≠ some (.cells C 3 (0, 0)) := fun j hj C' e' => by
    rw [List.mem_singleton.1 hj, hC] at e'
    injection e' with e'
    injection e' with _ e'
    exact absurd e' (by decide)
  have hst := (World.ownsRow.stored (h.own2 hv).2 S.up.length u).1
  refine ⟨(hs.block m h.lt (by simpa using Ne.symm hne)).trans h.obj, h.lo, ?_, by rw [List.length_set]; exact h.len, fun i u' r' hu' hr' => ?_⟩
  · rw [List.length_set, hv, ← (h.own2 hv).1]
    exact hst
  · rcases Nat.lt_trichotomy i S.up.length with g | g | g
    · rw [List.getElem?_set_ne (by omega)] at hu'
      rw [List.getElem?_append_left g] at hr'
      exact (h.rows i u' r' hu' (by rw [List.getElem?_append_left g]; exact hr')).other hs hG
    · subst g
      rw [List.getElem?_set_self (by rw [h.len]; omega)] at hu'
      simp at hr'
      cases hu'
      subst hr'
      exact hu.other hs hG
    · rw [List.getElem?_eq_none (by simp; omega)] at hr'
      cases hr'
end
end Go.Proofs.YtdaenaoagejgeaaDoor
/-
  The document's own: a character that may be shown.
-/
namespace Go.Proofs.YtdaenaoagejgeaaDoor
open Go.RowKit Go.Lib
set_option linter.unusedVariables false

/-- What a step of the document's leaves. -/
def RfTo (W : World) (B m : Nat) (v : Value) (S : Sn) (w' : World) : Prop := ∃ v' vs', Rf w' B m v' vs' S S.up.length ∧ Stp [] W [] W ∧ Below B W w'
theorem pad_set (cur : List Nat) (col c : Nat) : (cur ++ List.replicate (col + 1 - cur.length) 32).set col c = laid cur col c := by
  unfold laid
  by_cases h : col < cur.length
  · rw [if_pos h, show col + 1 - cur.length = 0 by omega, List.replicate_zero, List.append_nil]
  · rw [if_neg h, show col + 1 - cur.length = (col - cur.length) + 1 by omega, List.replicate_succ', List.set_append_right col c (by omega), List.set_append_right (col - cur.length) c (by simp)]
    simp
theorem OwnI.set {w : World} {base g n cap : Nat} {l : List Nat} (h : U.OwnI w base (.slice (some ⟨g, 0, none⟩) n cap) l) (hn : n = l.length) (i c : Nat) : U.OwnI (w.setCell ⟨g, i, none⟩ (.int .i64 (c : Int))) base (.slice (some ⟨g, 0, none⟩) n cap) (l.set i c) ∧ w.frozen? ⟨g, i, none⟩ = false := by
  subst hn
  have h1 := (World.ownsRow.stored h i (.int .i64 (c : Int))).1
  refine ⟨?_, World.ownsRow.frozenAt h _⟩
  unfold U.OwnI
  rw [List.length_set, List.map_set]
  exact h1
theorem OwnI.cellI {w : World} {base g n cap : Nat} {l : List Nat} (h : U.OwnI w base (.slice (some ⟨g, 0, none⟩) n cap) l) (hn : n = l.length) {i : Nat} (hi : i < l.length) : w.cell? ⟨g, i, none⟩ = some (.int .i64 ((l[i] : Nat) : Int)) := by
  subst hn
  have := World.ownsRow.cellAt h i (by omega)
  rw [this, List.getElem?_map, List.getElem?_eq_getElem hi]
  rfl
theorem OwnI.at {w : World} {base : Nat} {v : Value} {l : List Nat} (h : U.OwnI w base v l) (hl : l ≠ []) : ∃ g cap, v = .slice (some ⟨g, 0, none⟩) l.length cap ∧ base ≤ g ∧ g < w.heap.size := by
  rcases h.2 with ⟨_, h0⟩ | ⟨g, cap, cur, rfl, hb, hg, _⟩
  · exact absurd (List.length_eq_zero_iff.1 h0) hl
  · exact ⟨g, cap, rfl, hb, (Array.getElem?_eq_some_iff.1 hg).1⟩
theorem below_set {B : Nat} {W : World} {a : Addr} (ha : B ≤ a.block) (hB : B ≤ W.heap.size) (u : Value) : Below B W (W.setCell a u) :=
  (Stp.setCell (F := [a.block]) W u (by simp)).below (fun k hk => by rw [List.mem_singleton.1 hk]; exact ha) hB
theorem rch_end {W w4 : World} {B m R n cap k0 col : Nat} {v u : Value} {vs : List Value} {S : Sn} {r : List Nat} (h : Rf w4 B m v vs S S.up.length) (hv : v = .slice (some ⟨R, 0, none⟩) n cap) (hu : Rv w4 B u r) (hk : k0 = S.up.length) (hc : col = S.col) (hb : Below B W w4) :
    ∃ vs', Rf ((w4.setCell ⟨R, k0, none⟩ u).setCell ⟨m, 2, none⟩ (.int .i64 ((col : Int) + 1))).drew B m v vs' { S with cur := r, col := S.col + 1 } S.up.length ∧ Below B W ((w4.setCell ⟨R, k0, none⟩ u).setCell ⟨m, 2, none⟩ (.int .i64 ((col : Int) + 1))).drew := by
  subst hk hc
  obtain ⟨R', cap', e, hBR, hRl, _⟩ := h.at
  obtain rfl : R = R' := by rw [hv] at e; cases e; rfl
  have h1 := h.store hv hu
  have h2 : Rf ((w4.setCell ⟨R, S.up.length, none⟩ u).setCell ⟨m, 2, none⟩ (.int .i64 ((S.col : Int) + 1))) B m v (vs.set S.up.length u) { S with cur := r, col := S.col + 1 } S.up.length := h1.field rfl rfl rfl
  have hz : B ≤ w4.heap.size := by omega
  refine ⟨_, h2.stays (Stp.drew [] _), (hb.trans ((below_set (a := ⟨R, S.up.length, none⟩) hBR hz u).trans (below_set (a := ⟨m, 2, none⟩) h.lo (by rw [World.size_setCell]; exact hz) _))).trans ((Stp.drew [] _).below (fun _ h => by cases h) (by rw [World.size_setCell, World.size_setCell]; exact hz))⟩
set_option maxHeartbeats 2000000 in
set_option maxRecDepth 100000 in
theorem rchar_run {W : World} {B m : Nat} {v : Value} {vs : List Value} {S : Sn} (h : Rf W B m v vs S S.up.length) (hB : B ≤ W.heap.size) (c : Nat) (hc : S.col ≤ 2000) (hu : S.up.length ≤ 2000) (hl : S.cur.length ≤ 2000) :
    Calls Tryd.prog 35 #[.pointer (some ⟨m, 0, none⟩), .int .i64 (c : Int)] W
      (fun e w' => e = .returned (.tuple #[]) ∧ ∃ vs', Rf w' B m v vs' { S with cur := laid S.cur S.col c, col := S.col + 1 } S.up.length ∧ Below B W w') := by
  obtain ⟨u, hu0, a, cp, rfl, hits, hnil, hcap, hblk⟩ := h.last
  obtain ⟨R, capR, hv, hBR, hRlt, hRne, hRC, _, hcapR⟩ := h.at
  have cR := h.cell hv hu0
  have c0 := h.c0
  have c1 := h.c1
  have c2 := h.c2
  have hm := h.lt
  rw [hv] at c0
  have HM := Lib.hid hRne
  have H := Lib.hid (And.intro h (And.intro hits (And.intro hnil (And.intro hv hB))))
  have HS0 : Aside (Stp [] W [] (W.alloc (.cells #[] 3)).drew ∧ U.OwnI (W.alloc (.cells #[] 3)).drew W.heap.size (.slice (some ⟨W.heap.size, 0, none⟩) 0 0) []) := ⟨(Stp.alloc [] _ _).trans (Stp.drew [] _), OwnI.new W⟩
  obtain ⟨col, hcol⟩ : ∃ col, col = S.col := ⟨_, rfl⟩
  obtain ⟨k0, hU⟩ : ∃ k0, k0 = S.up.length := ⟨_, rfl⟩
  obtain ⟨cl, hcl⟩ : ∃ cl, cl = S.cur.length := ⟨_, rfl⟩
  have HE := Lib.hid (And.intro hcol (And.intro hU hcl))
  rw [← hcol] at c2 hc
  rw [← hU] at cR c0 c1 hu hcapR
  rw [← hcl] at cR hl
  clear h hits hnil hv hB hcol hU hcl hRC hcap hblk hu0 hBR hRne
  have hUz : (k0 : Int) ≤ 2000 := by omega
  have hidx : (k0 : Int) < (k0 : Int) + 1 := by omega
  have hcz : (col : Int) ≤ 2000 := by omega
  go_enter Tryd.func35, Tryd.ntmps35
  go_wp2_with fail
  go_region_law
    (first
      | (go_loud (refine step_appN (by rfl) (.tmp 5) (.tmp 15) (by rfl) W.heap.size (.slice (some ⟨W.heap.size, 0, none⟩) 0 0) [] (by rfl) HS0.out.2 a cp cl S.cur HE.out.2.2 (by rfl) (H.out.2.1.stays HS0.out.1) H.out.2.2.1 (by have := HE.out.2.2; simp; omega) HS0.out.1.size ?_)
         intro v3 w3 ho3 hg3
         rw [List.nil_append] at ho3
         have H3 : Aside (Stp [] W [] w3 ∧ U.OwnI w3 W.heap.size v3 S.cur) := ⟨HS0.out.1.app hg3 (fun k hk => by simp [Value.ownBlock] at hk; omega), ho3⟩
         clear ho3 hg3))
  all_goals
    have d0 := H3.out.1.keeps rfl c0
    have d1 := H3.out.1.keeps rfl c1
    have d2 := H3.out.1.keeps rfl c2
    have H4 : Aside (Stp [] W [] w3 ∧ U.OwnI w3 W.heap.size v3 (S.cur ++ List.replicate 0 32)) := ⟨H3.out.1, by rw [List.replicate_zero, List.append_nil]; exact H3.out.2⟩
    clear H3 HS0
    obtain ⟨a3, n3, c3, rfl, hn3⟩ : ∃ a n c, v3 = .slice a n c ∧ n = cl := by
      obtain ⟨a3, c3, e3, _⟩ := OwnI.its H4.out.2
      exact ⟨a3, _, c3, e3, by rw [HE.out.2.2]; simp⟩
    go_wp2_with fail
    go_simp
    go_loopg [4] (col + 1) (fun gk v4 wr => ∃ (k : Nat) (ap : Option Addr) (nn cq : Nat), v4 = .slice ap nn cq ∧ nn = cl + k ∧ k ≤ col + 1 - cl ∧ col + 1 - cl - k ≤ gk ∧ Aside (Stp [] W [] wr ∧ U.OwnI wr W.heap.size (.slice ap nn cq) (S.cur ++ List.replicate k 32)))
    case atStart => exact ⟨0, a3, cl, c3, rfl, by omega, by omega, by omega, by have q := H4.out; rw [hn3] at q; exact q⟩
    case round =>
      obtain ⟨k, ap, nn, cq, rfl, hnn, hk, hg, HS⟩ := hrel
      have f2 := HS.out.1.keeps rfl c2
      have hnz : (nn : Int) ≤ 5000 := by omega
      by_cases hle : nn ≤ col
      · have hlez : (nn : Int) ≤ (col : Int) := by omega
        go_wp2_with (at_builtin; go_loud (refine wpList_appN2 rfl (.tmp 24) (.tmp 25) rfl W.heap.size (.slice ap nn cq) (S.cur ++ List.replicate k 32) rfl (OwnI.other HS.out.2 (Stp.alloc [] wr _) (fun _ _ h => by cases h)) (some ⟨wr.heap.size, 0, none⟩) 1 1 [32] rfl rfl (one_its wr 32) (fun h => by cases h) (by have := HE.out.2.2; simp; omega) (by have := HS.out.1.size; rw [World.size_alloc]; omega) ?_); intro v5 w5 ho5 hs5 hbl5)
        have H5 : Aside (Stp [] W [] w5 ∧ U.OwnI w5 W.heap.size v5 (S.cur ++ List.replicate (k + 1) 32)) := by
          refine ⟨(HS.out.1.trans (Stp.alloc [] wr _)).late hs5 (fun j hj => (World.ownsRow.lt HS.out.2 j (by simpa using hj)).1), ?_⟩
          rw [List.replicate_succ', ← List.append_assoc]
          exact ho5
        clear ho5 hs5 hbl5 HS
        go_roundg (col + 1 - cl - (k + 1))
        case measure => omega
        case rel =>
          obtain ⟨a6, c6, e6, _⟩ := OwnI.its H5.out.2
          exact ⟨k + 1, a6, _, c6, e6, by have := HE.out.2.2; simp; omega, by omega, by omega, H5.out.1, by have q := H5.out.2; rw [e6] at q; exact q⟩
      · have hlez : ¬ (nn : Int) ≤ (col : Int) := by omega
        obtain rfl : k = col + 1 - cl := by omega
        obtain ⟨g, cap4, e4, hg4, hgl⟩ := OwnI.at HS.out.2 (by
          intro e
          have h1 := congrArg List.length e
          have h2 := HE.out.2.2
          rw [List.length_append, List.length_replicate, List.length_nil] at h1
          omega)
        obtain ⟨e5, rfl⟩ : ap = some ⟨g, 0, none⟩ ∧ cq = cap4 := by cases e4; exact ⟨rfl, rfl⟩
        subst e5
        have hcz2 : (col : Int) < (nn : Int) := by omega
        have hos := OwnI.set HS.out.2 (by have := HE.out.2.2; simp; omega) col c
        have hfz := hos.2
        obtain ⟨zc, hzc⟩ : ∃ z, wr.cell? ⟨g, col, none⟩ = some (.int .i64 z) := ⟨_, OwnI.cellI HS.out.2 (by have := HE.out.2.2; simp; omega) (by have := HE.out.2.2; simp; omega)⟩
        have H5 : Aside (Stp [] W [] (wr.setCell ⟨g, col, none⟩ (.int .i64 (c : Int))) ∧ U.OwnI (wr.setCell ⟨g, col, none⟩ (.int .i64 (c : Int))) W.heap.size (.slice (some ⟨g, 0, none⟩) nn cq) (laid S.cur col c)) := by
          refine ⟨HS.out.1.late (Stp.setCell (F := [g]) wr _ (by simp)) (fun j hj => by rw [List.mem_singleton.1 hj]; exact hg4), ?_⟩
          have e := pad_set S.cur S.col c
          rw [← HE.out.1, ← HE.out.2.2] at e
          rw [← e]
          exact hos.1
        clear hos HS e4
        go_wp2_with fail
        obtain ⟨w4, hw4⟩ : ∃ w4, w4 = wr.setCell ⟨g, col, none⟩ (.int .i64 (c : Int)) := ⟨_, rfl⟩
        rw [← hw4] at H5 ⊢
        clear hw4
        have HR4 : Aside (Rf w4 B m v vs S S.up.length ∧ Rv w4 B (.slice (some ⟨g, 0, none⟩) (cl + (col + 1 - cl)) cq) (laid S.cur col c)) := ⟨H.out.1.stays H5.out.1, Rv.of (base := W.heap.size) (by have q := H5.out.2; rw [hnn] at q; exact q) H.out.2.2.2.2⟩
        have b0 := H5.out.1.keeps rfl c0
        have b1 := H5.out.1.keeps rfl c1
        have b2 := H5.out.1.keeps rfl c2
        have bR : w4.frozen? ⟨R, k0, none⟩ = false := World.ownsRow.frozenAt (HR4.out.1.own2 H.out.2.2.2.1).2 k0
        have bC := H5.out.1.keeps rfl cR
        have bm : w4.frozen? ⟨m, 2, none⟩ = false := HR4.out.1.fz 2
        have hmw : m < w4.heap.size := HR4.out.1.lt
        have hRw : R < w4.heap.size := Nat.lt_of_lt_of_le hRlt H5.out.1.size
        have hRm := HM.out
        go_region
        all_goals
          go_wp2_with fail
          go_end0
          refine ⟨rfl, ?_⟩
          have e : laid S.cur col c = laid S.cur S.col c := by rw [HE.out.1]
          exact rch_end HR4.out.1 H.out.2.2.2.1 (e ▸ HR4.out.2) HE.out.2.1 HE.out.1 (H5.out.1.below (fun _ h => by cases h) H.out.2.2.2.2)
end Go.Proofs.YtdaenaoagejgeaaDoor
/-
  The document's own: a sequence.
-/
namespace Go.Proofs.YtdaenaoagejgeaaDoor
open Go.RowKit Go.Lib
set_option linter.unusedVariables false

theorem cut_str (ss : ByteArray) (a b : Nat) (hab : a ≤ b) (hb : b ≤ ss.size) (W : World) : (Instr.slice 9 (.string ss) (some (.int .i64 (a : Int))) (some (.int .i64 (b : Int))) none).run Tryd.prog W = .ok (.string (ss.extract a b)) W := by
  have h1 : (0 : Int) ≤ (a : Int) := by omega
  have h2 : (a : Int) ≤ (b : Int) := by omega
  have h3 : (b : Int) ≤ (ss.size : Int) := by omega
  simp [Instr.slice, run_underlying Tryd.underlying9, Instr.sliceBounds, run_sliceBound, *]
theorem cut_mid (x y : UInt8) (l : List UInt8) (n : Nat) (hn : n = l.length + 1) (W : World) : (Instr.slice 9 (.string (st (x :: (l ++ [y])))) (some (.int .i64 1)) (some (.int .i64 (n : Int))) none).run Tryd.prog W = .ok (.string (st l)) W := by
  have e : (st (x :: (l ++ [y]))).extract 1 n = st l := by
    rw [st_extract]
    subst hn
    simp
  have := cut_str (st (x :: (l ++ [y]))) 1 n (by omega) (by rw [st_size]; simp; omega) W
  rw [e] at this
  exact this
theorem dig_more : ∀ k n : Nat, 10 ^ k ≤ n → k + 1 ≤ (dig 10 n).length
  | 0, n, _ => by
    have h := dig_ne 10 n
    rcases e : dig 10 n with _ | ⟨x, l⟩
    · exact absurd e h
    · simp
  | k + 1, n, h => by
    rw [Nat.pow_succ] at h
    have h0 : 0 < 10 ^ k := Nat.pow_pos (by omega)
    have h1 := dig_more k (n / 10) (by omega)
    rw [dig_ge (by omega) (by omega), List.length_append, List.length_singleton]
    omega
theorem dig_five {v : Nat} (h : 10000 ≤ v) : (dig 10 v).length ≥ 5 := dig_more 4 v h
/-- A sequence that goes back, by the document's number. -/
theorem bk_num (l : List UInt8) : (bk (27 :: 91 :: (l ++ [68])) : Int) = max (rz (rnum 10 4 l)) 0 := by
  cases h : rnum 10 4 l with
  | none =>
    have : bk (27 :: 91 :: (l ++ [68])) = 0 := bk_no (fun n h1 h2 e => by
      have e2 := (List.append_inj' (List.cons.inj (List.cons.inj e).2).2 rfl).1
      rw [e2, rnum_dig (.inl rfl) (by have := dig_len (b := 10) (by omega) 3 n (by omega); omega)] at h
      cases h)
    rw [this]
    rfl
  | some v =>
    have hd := rnum_sound h
    have hl : l.length ≤ 4 := by
      unfold rnum at h
      split at h
      · cases h
      · rename_i hb
        unfold bad at hb
        omega
    rcases Nat.eq_zero_or_pos v with e | e
    · subst e
      have : bk (27 :: 91 :: (l ++ [68])) = 0 := bk_no (fun n h1 h2 e => by
        have e2 := (List.append_inj' (List.cons.inj (List.cons.inj e).2).2 rfl).1
        rw [← hd] at e2
        have := dig10_inj e2
        omega)
      rw [this]
      rfl
    · have hv : v ≤ 9999 := by
        rcases Nat.lt_or_ge v 10000 with g | g
        · omega
        · exfalso
          have h5 : (dig 10 v).length ≥ 5 := dig_five g
          rw [hd] at h5
          omega
      have := bk_yes e hv
      rw [hd] at this
      rw [this]
      show (v : Int) = max (v : Int) 0
      omega
/-- What a sequence of the document's leaves. -/
def SqTo (W : World) (B m : Nat) (v : Value) (S : Sn) (r : Option Sn) (e : Ending) (w' : World) : Prop := e = .returned (.bool r.isSome) ∧ ∃ vs', Rf w' B m v vs' (r.getD S) S.up.length ∧ Below B W w'
section
variable {W : World} {B m : Nat} {v : Value} {vs : List Value} {S : Sn}
set_option maxHeartbeats 2000000 in
set_option maxRecDepth 100000 in
theorem rseq_K (h : Rf W B m v vs S S.up.length) (hB : B ≤ W.heap.size) (hc : S.col ≤ 2000) (hu : S.up.length ≤ 2000) (hl : S.cur.length ≤ 2000) :
    Calls Tryd.prog 32 #[.pointer (some ⟨m, 0, none⟩), .string (st [91, 75])] W (SqTo W B m v S (doQ S S1)) := by
  have e1 : ((st [91, 75]).toList == [91, 75]) = true := by rw [st_toList]; rfl
  obtain ⟨u, hu0, a, cp, rfl, hits, hnil, hcap, hblk⟩ := h.last
  obtain ⟨R, capR, hv, hBR, hRlt, hRne, hRC, _, hcapR⟩ := h.at
  have cR := h.cell hv hu0
  have c0 := h.c0
  have c1 := h.c1
  have c2 := h.c2
  have hm := h.lt
  rw [hv] at c0
  have hRv : Rv W B (.slice a S.cur.length cp) S.cur := ⟨a, cp, rfl, hits, hnil, hcap, hblk⟩
  have H := Lib.hid (And.intro h (And.intro hRv (And.intro hv (And.intro hB hBR))))
  have hfR : W.frozen? ⟨R, S.up.length, none⟩ = false := World.ownsRow.frozenAt (h.own2 hv).2 _
  obtain ⟨col, hcol⟩ : ∃ col, col = S.col := ⟨_, rfl⟩
  obtain ⟨k0, hk0⟩ : ∃ k0, k0 = S.up.length := ⟨_, rfl⟩
  obtain ⟨cl, hcl⟩ : ∃ cl, cl = S.cur.length := ⟨_, rfl⟩
  have HE := Lib.hid (And.intro hcol (And.intro hk0 hcl))
  rw [← hcol] at c2 hc
  rw [← hk0] at cR c0 c1 hu hcapR hfR
  rw [← hcl] at cR hl hcap
  clear h hRv hits hnil hv hB hcol hk0 hcl hRC hblk hu0 hBR hRne
  have hkz : (k0 : Int) ≤ 2000 := by omega
  have hidx : (k0 : Int) < (k0 : Int) + 1 := by omega
  have hcz : (col : Int) ≤ 2000 := by omega
  have hclz : (cl : Int) ≤ 2000 := by omega
  by_cases hgt : col < cl
  · have hgtz : (col : Int) < (cl : Int) := by omega
    have hcut := cutI_h a cl cp col (by omega)
    go_enter Tryd.func32, Tryd.ntmps32
    go_wp2_with fail
    go_region
    go_wp2_with fail
    go_region
    go_wp2_with fail
    go_ret
    refine ⟨rfl, ?_⟩
    have hk : k0 = S.up.length := HE.out.2.1
    have hq : (doQ S S1).getD S = { S with cur := S.cur.take S.col } := rfl
    rw [hq, hk]
    obtain ⟨h, hRv, hv, hB, hBR⟩ := H.out
    have h1 := h.stays (Stp.drew [] _)
    have h2 := h1.store hv (u := .slice a col cp) (r := S.cur.take S.col) (by
      have := hRv.stays (Stp.drew [] W)
      rw [← HE.out.1]
      exact this.take (by rw [← HE.out.2.2]; omega))
    have hz : B ≤ W.heap.size := hB
    have e : (W.setCell ⟨R, S.up.length, none⟩ (.slice a col cp)).drew.drew = (W.drew.setCell ⟨R, S.up.length, none⟩ (.slice a col cp)).drew := rfl
    rw [e]
    exact ⟨_, h2.stays (Stp.drew [] _), (((Stp.drew [] W).below (fun _ h => by cases h) hz).trans (below_set (W := W.drew) (a := ⟨R, S.up.length, none⟩) hBR hz _)).trans ((Stp.drew [] _).below (fun _ h => by cases h) (by rw [World.size_setCell]; exact hz))⟩
  · have hgtz : ¬ (col : Int) < (cl : Int) := by omega
    go_enter Tryd.func32, Tryd.ntmps32
    go_wp2_with fail
    go_region
    go_wp2_with fail
    go_ret
    refine ⟨rfl, ?_⟩
    obtain ⟨h, _, _, hB, _⟩ := H.out
    have hq : (doQ S S1).getD S = { S with cur := S.cur.take S.col } := rfl
    have e : S.cur.take S.col = S.cur := List.take_of_length_le (by rw [← HE.out.2.2, ← HE.out.1]; omega)
    rw [hq, e]
    exact ⟨_, h.stays (Stp.drew [] _), (Stp.drew [] W).below (fun _ h => by cases h) hB⟩
set_option maxHeartbeats 2000000 in
set_option maxRecDepth 100000 in
theorem rseq_P2 (h : Rf W B m v vs S S.up.length) (hB : B ≤ W.heap.size) :
    Calls Tryd.prog 32 #[.pointer (some ⟨m, 0, none⟩), .string (st [91, 63, 50, 48, 48, 52, 104])] W (SqTo W B m v S (doQ S S2)) := by
  have e1 : ((st [91, 63, 50, 48, 48, 52, 104]).toList == [91, 75]) = false := by rw [st_toList]; rfl
  have e2 : ((st [91, 63, 50, 48, 48, 52, 104]).toList == [91, 63, 50, 48, 48, 52, 104]) = true := by rw [st_toList]; rfl
  have c4 := h.c4
  have f4 := h.fz 4
  have hm := h.lt
  have H := Lib.hid (And.intro h hB)
  clear h hB
  generalize hp : S.pa = pa at c4
  go_enter Tryd.func32, Tryd.ntmps32
  go_wp2_with fail
  go_ret
  refine ⟨rfl, _, H.out.1.field (S' := { S with pa := true }) rfl rfl rfl, below_set (a := ⟨m, 4, none⟩) H.out.1.lo H.out.2 _⟩
set_option maxHeartbeats 2000000 in
set_option maxRecDepth 100000 in
theorem rseq_P3 (h : Rf W B m v vs S S.up.length) (hB : B ≤ W.heap.size) :
    Calls Tryd.prog 32 #[.pointer (some ⟨m, 0, none⟩), .string (st [91, 63, 50, 48, 48, 52, 108])] W (SqTo W B m v S (doQ S S3)) := by
  have e1 : ((st [91, 63, 50, 48, 48, 52, 108]).toList == [91, 75]) = false := by rw [st_toList]; rfl
  have e2 : ((st [91, 63, 50, 48, 48, 52, 108]).toList == [91, 63, 50, 48, 48, 52, 104]) = false := by rw [st_toList]; rfl
  have e3 : ((st [91, 63, 50, 48, 48, 52, 108]).toList == [91, 63, 50, 48, 48, 52, 108]) = true := by rw [st_toList]; rfl
  have c4 := h.c4
  have f4 := h.fz 4
  have hm := h.lt
  have H := Lib.hid (And.intro h hB)
  clear h hB
  generalize hp : S.pa = pa at c4
  go_enter Tryd.func32, Tryd.ntmps32
  go_wp2_with fail
  go_ret
  refine ⟨rfl, _, H.out.1.field (S' := { S with pa := false }) rfl rfl rfl, below_set (a := ⟨m, 4, none⟩) H.out.1.lo H.out.2 _⟩
theorem doQ_D {t : List UInt8} (n1 : t ≠ [91, 75]) (n2 : t ≠ [91, 63, 50, 48, 48, 52, 104]) (n3 : t ≠ [91, 63, 50, 48, 48, 52, 108]) : doQ S (27 :: t) = if bk (27 :: t) = 0 then none else some { S with col := S.col - bk (27 :: t) } := by
  unfold doQ S1 S2 S3
  rw [if_neg (fun e => n1 (List.cons.inj e).2), if_neg (fun e => n2 (List.cons.inj e).2), if_neg (fun e => n3 (List.cons.inj e).2)]
set_option maxHeartbeats 2000000 in
set_option maxRecDepth 100000 in
theorem rseq_B (h : Rf W B m v vs S S.up.length) (hB : B ≤ W.heap.size) (t : List UInt8) (ht : t.length ≤ 3000) (n1 : t ≠ [91, 75]) (n2 : t ≠ [91, 63, 50, 48, 48, 52, 104]) (n3 : t ≠ [91, 63, 50, 48, 48, 52, 108]) (hn : ∀ l, l ≠ [] → t ≠ 91 :: (l ++ [68])) :
    Calls Tryd.prog 32 #[.pointer (some ⟨m, 0, none⟩), .string (st t)] W (SqTo W B m v S (doQ S (27 :: t))) := by
  have hb : bk (27 :: t) = 0 := bk_no (fun n _ _ e => hn _ (dig_ne 10 n) (List.cons.inj e).2)
  rw [doQ_D n1 n2 n3, if_pos hb]
  have e1 : ((st t).toList == [91, 75]) = false := by rw [st_toList]; simpa using n1
  have e2 : ((st t).toList == [91, 63, 50, 48, 48, 52, 104]) = false := by rw [st_toList]; simpa using n2
  have e3 : ((st t).toList == [91, 63, 50, 48, 48, 52, 108]) = false := by rw [st_toList]; simpa using n3
  have hsz := st_size t
  have HQ : Aside (SqTo W B m v S none (.returned (.bool false)) W) := ⟨rfl, vs, h, Below.refl _ _⟩
  have hcs : ¬ 2 < t.length ∨ (2 < t.length ∧ (t[0]!).toNat ≠ 91) ∨ (2 < t.length ∧ (t[0]!).toNat = 91 ∧ (t[t.length - 1]!).toNat ≠ 68) := by
    by_cases h2 : 2 < t.length
    · by_cases h3 : (t[0]!).toNat = 91
      · refine .inr (.inr ⟨h2, h3, fun h4 => ?_⟩)
        rcases t with _ | ⟨x, r⟩
        · simp at h2
        · have hx : x = 91 := UInt8.toNat_inj.1 h3
          have hr : r ≠ [] := by intro e; subst e; simp at h2
          have hl : r.getLast hr = 68 := by
            apply UInt8.toNat_inj.1
            have e5 : (x :: r)[(x :: r).length - 1]! = r.getLast hr := by
              rw [getElem!_pos _ _ (by simp), List.getLast_eq_getElem]
              simp only [List.length_cons, Nat.add_sub_cancel]
              rw [List.getElem_cons]
              have : r.length ≠ 0 := by simpa using hr
              simp [this]
            rw [← e5]
            exact h4
          have hd : r.dropLast ≠ [] := by
            intro e
            have := congrArg List.length e
            simp at this h2
            omega
          refine hn r.dropLast hd ?_
          rw [hx, ← hl, List.dropLast_concat_getLast]
      · exact .inr (.inl ⟨h2, h3⟩)
    · exact .inl h2
  clear h hB hn n1 n2 n3 hb
  rcases hcs with h2 | ⟨h2, h3⟩ | ⟨h2, h3, h4⟩
  · have h2z : ¬ (2 : Int) < (t.length : Int) := by omega
    generalize t.length = n at *
    generalize st t = x at *
    go_enter Tryd.func32, Tryd.ntmps32
    go_wp2_with fail
    go_ret
    exact HQ.out
  · have h2z : (2 : Int) < (t.length : Int) := by omega
    have i0 : (Instr.index 9 (.string (st t)) (.int .i64 0)).run Tryd.prog W = .ok (.int .u8 ((t[0]!).toNat : Int)) W := index_st t 0 (by omega) W
    have h3z : ¬ ((t[0]!).toNat : Int) = 91 := by omega
    generalize (t[0]!).toNat = c0 at *
    generalize t.length = n at *
    generalize st t = x at *
    go_enter Tryd.func32, Tryd.ntmps32
    go_wp2_with fail
    go_ret
    exact HQ.out
  · have h2z : (2 : Int) < (t.length : Int) := by omega
    have i0 : (Instr.index 9 (.string (st t)) (.int .i64 0)).run Tryd.prog W = .ok (.int .u8 91) W := by
      have := index_st t 0 (by omega) W
      unfold bval at this
      rw [h3] at this
      exact this
    have i1 : (Instr.index 9 (.string (st t)) (.int .i64 ((t.length - 1 : Nat) : Int))).run Tryd.prog W = .ok (.int .u8 ((t[t.length - 1]!).toNat : Int)) W := index_st t (t.length - 1) (by omega) W
    have h4z : ¬ ((t[t.length - 1]!).toNat : Int) = 68 := by omega
    generalize (t[t.length - 1]!).toNat = c1 at *
    obtain ⟨q, hq⟩ : ∃ q : Nat, q = t.length - 1 := ⟨_, rfl⟩
    rw [← hq] at i1
    have hqz : (t.length : Int) - 1 = (q : Int) := by omega
    have hnz : (t.length : Int) ≤ 3000 := by omega
    clear hq
    generalize t.length = n at *
    generalize st t = x at *
    go_enter Tryd.func32, Tryd.ntmps32
    go_wp2_with fail
    go_ret
    exact HQ.out
theorem Rf.turn {W' : World} {k k' : Nat} {S' : Sn} (h : Rf W B m v vs S k) (hs : Stp [m] W [m] W') (hup : S'.up = S.up) (hcur : S'.cur = S.cur)
    (ho : W'.heap[m]? = some (.cells #[v, .int .i64 (k' : Int), .int .i64 (S'.col : Int), .int .i64 (S'.bells : Int), .bool S'.pa, .int .i64 (S'.odd : Int)] 59 (0, 0))) : Rf W' B m v vs S' k' := by
  have hm2 : ∀ j ∈ [m], ∀ C, W.heap[j]? ≠ some (.cells C 3 (0, 0)) := fun j hj => by rw [List.mem_singleton.1 hj]; exact h.own_m
  obtain ⟨R, cap, _, _, _, hne, _, hb, _⟩ := h.at
  refine ⟨ho, h.lo, ?_, by rw [hup]; exact h.len, fun i u' r hu hr => ?_⟩
  · refine ⟨h.own.1, ?_⟩
    rcases h.own.2 with hn | ⟨g, cap, cur, rfl, hb', hgg, rest⟩
    · exact .inl hn
    · have hg : g ∉ [m] := by
        cases hb
        simpa using hne
      exact .inr ⟨g, cap, cur, rfl, hb', (hs.block g (Array.getElem?_eq_some_iff.1 hgg).1 hg).trans hgg, rest⟩
  · rw [hup, hcur] at hr
    exact (h.rows i u' r hu hr).other hs hm2
/-- The column is stored twice. -/
theorem Rf.col2 {k : Nat} (h : Rf W B m v vs S k) (z : Value) : Rf ((W.setCell ⟨m, 2, none⟩ z).setCell ⟨m, 2, none⟩ (.int .i64 0)) B m v vs { S with col := 0 } k := by
  have h1 := heap_setCell_same W m 2 _ _ z h.obj
  have h2 := heap_setCell_same _ m 2 _ _ (.int .i64 0) h1
  exact h.turn ((Stp.setCell (F := [m]) W z (by simp)).trans (Stp.setCell (F := [m]) _ _ (by simp))) rfl rfl h2
theorem dneg_last {l : List UInt8} {c : UInt8} {t : List UInt8} (h : t.getLast? = some c) (hc : c ≠ 68) : 91 :: (l ++ [68]) ≠ t := fun e => by
  rw [← e] at h
  simp [List.getLast?_cons] at h
  exact hc h.symm
set_option maxHeartbeats 2000000 in
set_option maxRecDepth 100000 in
theorem rseq_A (h : Rf W B m v vs S S.up.length) (hB : B ≤ W.heap.size) (l : List UInt8) (hl : l ≠ []) (hl2 : l.length ≤ 2998) (hc : S.col ≤ 2000) :
    Calls Tryd.prog 32 #[.pointer (some ⟨m, 0, none⟩), .string (st (91 :: (l ++ [68])))] W (SqTo W B m v S (doQ S (27 :: 91 :: (l ++ [68])))) := by
  have n1 : 91 :: (l ++ [68]) ≠ [91, 75] := dneg_last (c := 75) rfl (by decide)
  have n2 : 91 :: (l ++ [68]) ≠ [91, 63, 50, 48, 48, 52, 104] := dneg_last (c := 104) rfl (by decide)
  have n3 : 91 :: (l ++ [68]) ≠ [91, 63, 50, 48, 48, 52, 108] := dneg_last (c := 108) rfl (by decide)
  have e1 : ((st (91 :: (l ++ [68]))).toList == [91, 75]) = false := by rw [st_toList]; simpa using n1
  have e2 : ((st (91 :: (l ++ [68]))).toList == [91, 63, 50, 48, 48, 52, 104]) = false := by rw [st_toList]; simpa using n2
  have e3 : ((st (91 :: (l ++ [68]))).toList == [91, 63, 50, 48, 48, 52, 108]) = false := by rw [st_toList]; simpa using n3
  have hl0 : 0 < l.length := List.length_pos_iff.2 hl
  have hlen : (91 :: (l ++ [68])).length = l.length + 2 := by simp
  have hsz := st_size (91 :: (l ++ [68]))
  rw [hlen] at hsz
  have hnum := bk_num l
  have K := Lib.hid (rnum4_run l (by omega) W)
  have i0 : (Instr.index 9 (.string (st (91 :: (l ++ [68])))) (.int .i64 0)).run Tryd.prog W = .ok (.int .u8 91) W := index_st (91 :: (l ++ [68])) 0 (by simp) W
  have i1 : (Instr.index 9 (.string (st (91 :: (l ++ [68])))) (.int .i64 ((l.length + 1 : Nat) : Int))).run Tryd.prog W = .ok (.int .u8 68) W := by
    have := index_st (91 :: (l ++ [68])) (l.length + 1) (by simp) W
    have e : (91 :: (l ++ [68]))[l.length + 1]! = 68 := by
      rw [getElem!_pos _ _ (by simp)]
      simp
    rw [e] at this
    exact this
  have hcut := cut_mid 91 68 l (l.length + 1) rfl W
  have c2 := h.c2
  have f2 := h.fz 2
  have hm := h.lt
  have H := Lib.hid (And.intro h hB)
  have HQ := Lib.hid (doQ_D (S := S) n1 n2 n3)
  obtain ⟨b, hb⟩ : ∃ b, b = bk (27 :: 91 :: (l ++ [68])) := ⟨_, rfl⟩
  have hb9 : b ≤ 9999 := by
    rcases Nat.eq_zero_or_pos b with e | e
    · omega
    · rw [hb] at e ⊢
      exact (bk_form (by omega)).2.1
  rw [← hb] at hnum HQ
  obtain ⟨n, hn⟩ : ∃ n, n = l.length + 2 := ⟨_, rfl⟩
  obtain ⟨q, hq⟩ : ∃ q, q = l.length + 1 := ⟨_, rfl⟩
  rw [← hn] at hsz
  rw [← hq] at i1 hcut
  have hn2 : (2 : Int) < (n : Int) := by omega
  have hnq : (n : Int) - 1 = (q : Int) := by omega
  have hn9 : (n : Int) ≤ 3000 := by omega
  obtain ⟨col, hcol⟩ : ∃ col, col = S.col := ⟨_, rfl⟩
  have HE := Lib.hid hcol
  rw [← hcol] at c2 hc
  clear h hB n1 n2 n3 hlen hl0 hl hl2 hn hq hcol hb
  generalize doQ S (27 :: 91 :: (l ++ [68])) = D at *
  generalize rz (rnum 10 4 l) = z at *
  generalize st (91 :: (l ++ [68])) = x at *
  generalize st l = y at *
  have hcz : (col : Int) ≤ 2000 := by omega
  by_cases hz : 0 < z
  · obtain rfl : z = (b : Int) := by omega
    have hb0 : b ≠ 0 := by omega
    have HD : Aside (D = some { S with col := S.col - b }) := by
      show D = _
      rw [HQ.out, if_neg hb0]
    clear hnum HQ
    by_cases hle : b ≤ col
    · have hlez : ¬ (col : Int) - (b : Int) < 0 := by omega
      have hbz : (b : Int) ≤ 2000 := by omega
      go_enter Tryd.func32, Tryd.ntmps32
      go_wp2_with fail
      refine K.out.mono ?_
      rintro _ _ ⟨rfl, rfl⟩
      go_wp2_with fail
      go_ret
      have e : (col : Int) - (b : Int) = ((col - b : Nat) : Int) := by omega
      rw [e, HD.out]
      have hf := H.out.1.field (j := 2) (u := .int .i64 ((col - b : Nat) : Int)) (S' := { S with col := S.col - b }) (k' := S.up.length) rfl rfl (by rw [HE.out]; rfl)
      exact ⟨rfl, _, hf, below_set (a := ⟨m, 2, none⟩) H.out.1.lo H.out.2 _⟩
    · have hlez : (col : Int) - (b : Int) < 0 := by omega
      go_enter Tryd.func32, Tryd.ntmps32
      go_wp2_with fail
      refine K.out.mono ?_
      rintro _ _ ⟨rfl, rfl⟩
      go_wp2_with fail
      go_ret
      have e : S.col - b = 0 := by rw [← HE.out]; omega
      rw [HD.out, e]
      exact ⟨rfl, _, H.out.1.col2 _, (below_set (a := ⟨m, 2, none⟩) H.out.1.lo H.out.2 _).trans (below_set (a := ⟨m, 2, none⟩) H.out.1.lo (by rw [World.size_setCell]; exact H.out.2) _)⟩
  · have HD : Aside (D = none) := by
      show D = _
      rw [HQ.out, if_pos (by omega)]
    clear hnum HQ
    go_enter Tryd.func32, Tryd.ntmps32
    go_wp2_with fail
    refine K.out.mono ?_
    rintro _ _ ⟨rfl, rfl⟩
    go_wp2_with fail
    go_ret
    rw [HD.out]
    exact ⟨rfl, vs, H.out.1, Below.refl _ _⟩
/-- A sequence's own text, behind its first byte. -/
theorem rseq_run (h : Rf W B m v vs S S.up.length) (hB : B ≤ W.heap.size) (t : List UInt8) (ht : t.length ≤ 3000) (hc : S.col ≤ 2000) (hu : S.up.length ≤ 2000) (hl : S.cur.length ≤ 2000) :
    Calls Tryd.prog 32 #[.pointer (some ⟨m, 0, none⟩), .string (st t)] W (SqTo W B m v S (doQ S (27 :: t))) := by
  by_cases n1 : t = [91, 75]
  · subst n1
    exact rseq_K h hB hc hu hl
  by_cases n2 : t = [91, 63, 50, 48, 48, 52, 104]
  · subst n2
    exact rseq_P2 h hB
  by_cases n3 : t = [91, 63, 50, 48, 48, 52, 108]
  · subst n3
    exact rseq_P3 h hB
  by_cases hn : ∃ l, l ≠ [] ∧ t = 91 :: (l ++ [68])
  · obtain ⟨l, h1, rfl⟩ := hn
    exact rseq_A h hB l h1 (by simp at ht; omega) hc
  · exact rseq_B h hB t ht n1 n2 n3 (fun l h1 h2 => hn ⟨l, h1, h2⟩)
end
end Go.Proofs.YtdaenaoagejgeaaDoor
/-
  The document's own: one row more; what stands in a round of Read.
-/
namespace Go.Proofs.YtdaenaoagejgeaaDoor
open Go.RowKit Go.Lib
set_option linter.unusedVariables false

theorem sl_info : (Tryd.prog.info? 39).map (fun i => (i.zero, i.size, i.bytes)) = some (some (.slice none 0 0), 1, 24) := by kernel_rfl
theorem sl_one (w : World) : (w.alloc (.cells #[.slice none 0 0] 39)).cell? ⟨w.heap.size, 0, none⟩ = some (.slice none 0 0) := by
  rw [cell_of_row _ _ _ _ _ _ (heap_alloc_new w _)]
  rfl
theorem wpList_appRs {W : World} {ops : Array Oper} {rest : List Oper} {o : Oper} {a : Act} {Q : Exit → Act → World → Prop} (hgd : o.guard = none) (s x : Operand)
    (ho : o.op = .call { callee := .builtin .append, args := #[s, x], argTypes := #[57, 57] }) (B : Nat) {v : Value} {vs : List Value} (hs : a.eval s = v) (h : W.ownsRow B 39 1 v vs.length vs) {b : Nat} (hx : a.eval x = .slice (some ⟨b, 0, none⟩) 1 1)
    (hz : W.cell? ⟨b, 0, none⟩ = some (.slice none 0 0)) (hn : vs.length ≤ 1000000) (hB : B ≤ W.heap.size)
    (hQ : ∀ v' w', w'.ownsRow B 39 1 v' (vs ++ [Value.slice none 0 0]).length (vs ++ [Value.slice none 0 0]) → Stp v.ownBlock.toList W [] w' → wpList Tryd.prog ops Q rest (a.put o.dst v') w') : wpList Tryd.prog ops Q (o :: rest) a W := by
  refine wpList_plain hgd fun K hK => ?_
  obtain ⟨i0, hi0, hz0, hzs, hzb⟩ := info_parts sl_info
  obtain ⟨v', w', hrun, h2, h3, _, h5⟩ := run_append_own_at (P := Tryd.prog) W B _ o.type _ i0 _ 1 24 Tryd.underlying57 hi0 hz0 hzs hzb rfl (by omega) v _ _ h ⟨b, 0, none⟩ 1 1 [.slice none 0 0] rfl
    (by
      intro j u hu
      rw [addr_add, Nat.zero_add]
      match j, hu with
      | 0, hu => cases hu; exact hz
      | j + 1, hu => simp at hu)
    (by intro u hu; simp at hu; subst hu; rfl) (by unfold maxLen; omega) (by omega) hB
  have hs3 : Stp v.ownBlock.toList W [] w' := ⟨h3.os, h3.tape, h3.output, h3.size, fun k hk hF => h3.block k hk (fun e => hF (by rw [← e]; simp)), fun _ g => by cases g⟩
  have h2' : w'.ownsRow B 39 1 v' (vs ++ [Value.slice none 0 0]).length (vs ++ [Value.slice none 0 0]) := by
    rw [List.length_append]
    exact h2
  unfold Oper.wp execOp
  simp only [ho, resolve, invoke, builtin, Sem.run_bind, Sem.run_pure, Result.andThen_ok, List.map_toArray, List.map_cons, List.map_nil, hs, hx, hrun]
  exact hK _ _ (hQ v' w' h2' hs3)
section
variable {W w' : World} {B m k : Nat} {v v' : Value} {vs : List Value} {S : Sn}
/-- One row more. -/
theorem Rf.more (h : Rf W B m v vs S k) (ho : w'.ownsRow B 39 1 v' (vs ++ [Value.slice none 0 0]).length (vs ++ [Value.slice none 0 0])) (hs : Stp v.ownBlock.toList W [] w') :
    Rf (w'.setCell ⟨m, 0, none⟩ v') B m v' (vs ++ [Value.slice none 0 0]) { S with up := S.up ++ [S.cur], cur := [] } k := by
  obtain ⟨R, cap, _, hBR, _, hne, ⟨C, hC⟩, hb, _⟩ := h.at
  have hin : ∀ j ∈ v.ownBlock.toList, j = R := fun j hj => by
    rw [hb] at hj
    simpa using hj
  have hm : m ∉ v.ownBlock.toList := fun g => hne (hin m g).symm
  have ob : w'.heap[m]? = _ := (hs.block m h.lt hm).trans h.obj
  have hs2 : Stp [m] w' [m] (w'.setCell ⟨m, 0, none⟩ v') := Stp.setCell w' v' (by simp)
  have hG1 : ∀ j ∈ v.ownBlock.toList, ∀ C, W.heap[j]? ≠ some (.cells C 3 (0, 0)) := fun j hj C' e' => by
    rw [hin j hj, hC] at e'
    injection e' with e'
    injection e' with _ e'
    exact absurd e' (by decide)
  have hG2 : ∀ j ∈ [m], ∀ C, w'.heap[j]? ≠ some (.cells C 3 (0, 0)) := fun j hj C' e' => by
    rw [List.mem_singleton.1 hj, ob] at e'
    injection e' with e'
    injection e' with _ e'
    exact absurd e' (by decide)
  refine ⟨heap_setCell_same w' m 0 _ _ v' ob, h.lo, ?_, by rw [List.length_append, List.length_append, h.len]; rfl, fun i u r hu hr => ?_⟩
  · refine ⟨ho.1, ?_⟩
    rcases ho.2 with hn | ⟨g, cap', cur, rfl, hb', hgg, rest⟩
    · exact .inl hn
    · have hg : g ∉ [m] := by
        rw [List.mem_singleton]
        rintro rfl
        rw [ob] at hgg
        injection hgg with hgg
        injection hgg with _ e
        exact absurd e (by decide)
      exact .inr ⟨g, cap', cur, rfl, hb', (hs2.block g (Array.getElem?_eq_some_iff.1 hgg).1 hg).trans hgg, rest⟩
  · have hlen := h.len
    rcases Nat.lt_or_ge i vs.length with g | g
    · rw [List.getElem?_append_left g] at hu
      have hr' : (S.up ++ [S.cur])[i]? = some r := by
        rw [List.getElem?_append_left (by simp; omega)] at hr
        exact hr
      exact ((h.rows i u r hu hr').other hs hG1).other hs2 hG2
    · rw [List.getElem?_append_right g] at hu
      obtain rfl : i = vs.length := by
        have := (List.getElem?_eq_some_iff.1 hu).1
        simp at this
        omega
      simp at hu
      have : r = [] := by
        rw [hlen] at hr
        rw [List.getElem?_append_right (by simp)] at hr
        simp at hr
        exact hr
      subst hu this
      exact Rv.nil _ _
end
/-- What stands in a round. -/
def RdR (w wr : World) (m : Nat) (l : List UInt8) (i : Nat) (v : Value) (vs : List Value) (S : Sn) : Prop := Rf wr w.heap.size m v vs S S.up.length ∧ Stp [] w [] wr ∧ fd sn0 l = fd S (l.drop i) ∧ Oks S i
section
variable {w wr w' : World} {m i : Nat} {l : List UInt8} {v v' : Value} {vs vs' : List Value} {S : Sn}
theorem RdR.stays (h : RdR w wr m l i v vs S) (hs : Stp [] wr [] w') : RdR w w' m l i v vs S := ⟨h.1.stays hs, h.2.1.trans hs, h.2.2⟩
theorem RdR.step {f : Sf} (h : RdR w wr m l i v vs S) (hf : one S (l.drop i) = some f) (hr : Rf w' w.heap.size m v' vs' f.x f.x.up.length) (hb : Below w.heap.size wr w') : RdR w w' m l (i + f.n) v' vs' f.x := by
  obtain ⟨_, h2, h3, h4⟩ := h
  refine ⟨hr, Stp.of_below (h2.under.trans hb), ?_, h4.one hf⟩
  rw [h3, fd_some hf, List.drop_drop]
theorem RdR.done (h : RdR w wr m l i v vs S) (hf : one S (l.drop i) = none) : Rf wr w.heap.size m v vs (seen l) (seen l).up.length ∧ Stp [] w [] wr := by
  have e : seen l = S := by
    unfold seen
    rw [h.2.2.1, fd_none hf]
  rw [e]
  exact ⟨h.1, h.2.1⟩
end
end Go.Proofs.YtdaenaoagejgeaaDoor
/-
  The document's Read.
-/
namespace Go.Proofs.YtdaenaoagejgeaaDoor
open Go.RowKit Go.Lib
set_option linter.unusedVariables false

theorem rf_new (W : World) : Rf ((W.alloc (.cells #[.slice none 0 0] 39)).alloc (.cells #[.slice (some ⟨W.heap.size, 0, none⟩) 1 1, .int .i64 0, .int .i64 0, .int .i64 0, .bool false, .int .i64 0] 59)) W.heap.size (W.heap.size + 1) (.slice (some ⟨W.heap.size, 0, none⟩) 1 1) [.slice none 0 0] sn0 0 := by
  have h0 : ((W.alloc (.cells #[.slice none 0 0] 39)).alloc (.cells #[.slice (some ⟨W.heap.size, 0, none⟩) 1 1, .int .i64 0, .int .i64 0, .int .i64 0, .bool false, .int .i64 0] 59)).heap[W.heap.size]? = some (.cells #[.slice none 0 0] 39 (0, 0)) := by
    rw [(Stp.alloc [] (W.alloc (.cells #[.slice none 0 0] 39)) _).block W.heap.size (by simp) (by simp), heap_alloc_new]
  have h1 := heap_alloc_new (W.alloc (.cells #[.slice none 0 0] 39)) (.cells #[.slice (some ⟨W.heap.size, 0, none⟩) 1 1, .int .i64 0, .int .i64 0, .int .i64 0, .bool false, .int .i64 0] 59)
  rw [World.size_alloc] at h1
  refine ⟨h1, by omega, ⟨rfl, .inr ⟨W.heap.size, 1, _, rfl, Nat.le_refl _, h0, Nat.le_refl _, by unfold maxLen; omega, rfl, rfl⟩⟩, rfl, fun i u r hu hr => ?_⟩
  match i, hu, hr with
  | 0, hu, hr =>
    cases hu
    cases hr
    exact Rv.nil _ _
  | i + 1, hu, hr => simp at hu
theorem doQ_up {S S' : Sn} {q : List UInt8} (e : doQ S q = some S') : S'.up = S.up := by
  unfold doQ at e
  split at e
  · cases e; rfl
  · split at e
    · cases e; rfl
    · split at e
      · cases e; rfl
      · split at e
        · cases e
        · cases e; rfl
theorem own_form {w : World} {B : Nat} {e : TypeId} {v : Value} {n : Nat} {xs : List Value} (h : w.ownsRow B e 1 v n xs) (hn : n ≠ 0) : ∃ g n' cap, v = .slice (some ⟨g, 0, none⟩) n' cap := by
  rcases h.2 with ⟨_, h0⟩ | ⟨g, cap, cur, rfl, _⟩
  · exact absurd h0 hn
  · exact ⟨g, n, cap, rfl⟩
/-- What Read answers. -/
def RdTo (l : List UInt8) (w : World) (e : Ending) (w' : World) : Prop := ∃ m v vs, e = .returned (.pointer (some ⟨m, 0, none⟩)) ∧ Rf w' w.heap.size m v vs (seen l) (seen l).up.length ∧ Stp [] w [] w'
set_option maxHeartbeats 4000000 in
set_option maxRecDepth 100000 in
theorem rread_run (a : Option Addr) (n cap : Nat) (l : List UInt8) (w : World) (hb : Bts w a l) (hn : n = l.length) (hc : n ≤ cap) (hm : cap ≤ maxLen) (hl : l.length ≤ 1500) :
    Calls Tryd.prog 13 #[.slice a n cap] w (RdTo l w) := by
  have HT : Aside (Bts w a l ∧ n = l.length ∧ n ≤ cap ∧ cap ≤ maxLen ∧ l.length ≤ 1500) := ⟨hb, hn, hc, hm, hl⟩
  have H0 : Aside (RdR w ((w.alloc (.cells #[.slice none 0 0] 39)).alloc (.cells #[.slice (some ⟨w.heap.size, 0, none⟩) 1 1, .int .i64 0, .int .i64 0, .int .i64 0, .bool false, .int .i64 0] 59)) (w.heap.size + 1) l 0 (.slice (some ⟨w.heap.size, 0, none⟩) 1 1) [.slice none 0 0] sn0) :=
    ⟨rf_new w, (Stp.alloc [] _ _).trans (Stp.alloc [] _ _), by simp, Oks.zero⟩
  have hn15 : (n : Int) ≤ 1500 := by omega
  have hc2 : n ≤ cap := hc
  clear hb hn hc hm hl
  go_enter Tryd.func13, Tryd.ntmps13
  go_wp2_with fail
  generalize ((w.alloc (.cells #[.slice none 0 0] 39)).alloc (.cells #[.slice (some ⟨w.heap.size, 0, none⟩) 1 1, .int .i64 0, .int .i64 0, .int .i64 0, .bool false, .int .i64 0] 59)) = w0 at *
  generalize w.heap.size + 1 = m at *
  go_loopg [4] n (fun gk vi wr => ∃ i : Nat, vi = .int .i64 (i : Int) ∧ i ≤ n ∧ n - i ≤ gk ∧ Aside (∃ v vs S, RdR w wr m l i v vs S))
  case atStart => exact ⟨0, rfl, by omega, by omega, _, _, _, H0.out⟩
  case round =>
    obtain ⟨i, rfl, hi, hg, HS⟩ := hrel
    by_cases hlt : i < n
    · have hltz : (i : Int) < (n : Int) := by omega
      obtain ⟨v, vs, S, hR⟩ := HS.out
      have H1 : Aside (RdR w wr m l i v vs S) := hR
      obtain ⟨b, off, ea, hcell⟩ := (HT.out.1.stays hR.2.1).at (i := i) (by rw [← HT.out.2.1]; exact hlt)
      have hdl : (l.drop i).length = n - i := by rw [List.length_drop, HT.out.2.1]
      have hbt := (HT.out.1.stays hR.2.1).cut (i := i) (j := l.length) (N := cap) (by have := HT.out.2.1; omega) (Nat.le_refl _) (by have := HT.out.2.1; omega)
      rw [List.take_of_length_le (by simp)] at hbt
      have hcut := cut_l a n cap i (by omega)
      have hhd : (l.drop i).head? = some (l[i]!) := by
        have hil : i < l.length := by rw [← HT.out.2.1]; exact hlt
        rw [List.head?_drop, List.getElem?_eq_getElem hil, getElem!_pos l i hil]
      have H2 : Aside (Bts wr (cutp a i cap) (l.drop i) ∧ (l.drop i).length = n - i ∧ (l.drop i).head? = some (l[i]!)) := ⟨hbt, hdl, hhd⟩
      subst ea
      unfold bval at hcell
      clear HS hR hbt hdl hhd
      by_cases h27 : l[i]! = 27
      · rw [h27] at hcell
        have hx : ((27 : UInt8).toNat : Int) = 27 := rfl
        rw [hx] at hcell
        clear hx
        obtain ⟨r, hr⟩ : ∃ r, l.drop i = 27 :: r := by
          have := H2.out.2.2
          rw [h27] at this
          rcases e : l.drop i with _ | ⟨x, r⟩
          · rw [e] at this
            cases this
          · rw [e] at this
            cases this
            exact ⟨r, rfl⟩
        have HR := Lib.hid hr
        have KN := Lib.hid (rnext_run (cutp (some ⟨b, off, none⟩) i cap) (n - i) (cap - i) (l.drop i) wr H2.out.1 H2.out.2.1.symm (by omega) (by have := HT.out.2.2.2.1; omega) (by have := HT.out.2.2.2.2; have := H2.out.2.1; have := HT.out.2.1; omega))
        unfold nxv kv at KN
        rw [hr] at KN
        clear hr
        by_cases he : (nx (27 :: r)).e = 0
        · have hp := nx_pos he
          have HO : Aside (one S (l.drop i) = some ⟨(doQ S (27 :: r.take ((nx (27 :: r)).n - 1))).getD (oddS S (nx (27 :: r)).n), (nx (27 :: r)).n⟩) := by
            show one S (l.drop i) = _
            have e : (27 :: r).take (nx (27 :: r)).n = 27 :: r.take ((nx (27 :: r)).n - 1) := by
              conv => lhs; rw [show (nx (27 :: r)).n = ((nx (27 :: r)).n - 1) + 1 by omega]
              rw [List.take_succ_cons]
            rw [HR.out, one_esc, if_pos he, e]
          have hdr : l.drop (i + 1) = r := by
            have := congrArg (List.drop 1) HR.out
            rw [List.drop_drop] at this
            simpa using this
          have hrl : r.length + 1 = n - i := by
            have := H2.out.2.1
            rw [HR.out] at this
            simpa using this
          rw [he] at KN
          have hpl : (nx (27 :: r)).n ≤ n - i := by have := hp.2.1; simp at this; omega
          have hp1 := hp.1
          generalize (nx (27 :: r)).n = zn at *
          generalize (nx (27 :: r)).k = zk at *
          have hbt : Bts wr (cutp (some ⟨b, off, none⟩) (i + 1) cap) (r.take (zn - 1)) := by
            have := (HT.out.1.stays H1.out.2.1).cut (i := i + 1) (j := i + zn) (N := cap) (by omega) (by have := HT.out.2.1; omega) (by have := HT.out.2.1; omega)
            rw [hdr, show i + zn - (i + 1) = zn - 1 by omega] at this
            exact this
          have htl : (r.take (zn - 1)).length = zn - 1 := by rw [List.length_take]; omega
          have hcut2 : ∀ W, (Instr.slice 25 (.slice (some ⟨b, off, none⟩) n cap) (some (.int .i64 ((i : Int) + 1))) (some (.int .i64 ((i : Int) + (zn : Int)))) none).run Tryd.prog W = .ok (.slice (cutp (some ⟨b, off, none⟩) (i + 1) cap) (zn - 1) (cap - (i + 1))) W := fun W => by
            have := cut_lh (some ⟨b, off, none⟩) n cap (i + 1) (i + zn) (by omega) (by omega) W
            rw [show i + zn - (i + 1) = zn - 1 by omega] at this
            have e1 : ((i + 1 : Nat) : Int) = (i : Int) + 1 := by omega
            have e2 : ((i + zn : Nat) : Int) = (i : Int) + (zn : Int) := by omega
            rw [e1, e2] at this
            exact this
          have HB := Lib.hid (And.intro hbt htl)
          have hzn : (zn : Int) ≤ 1500 := by omega
          have hin : (i : Int) + (zn : Int) ≤ 1500 := by omega
          clear he hp hdr hbt htl
          have HP := Lib.hid (And.intro hp1 hpl)
          go_wp2_with (go_at_call 31; refine KN.out.mono ?_; rintro _ w1 ⟨rfl, s1⟩; have H3 : Aside (RdR w (w1.alloc (Obj.cells #[.int .i64 zk, .int .i64 0] 61)) m l i v vs S) := H1.out.stays (s1.trans (Stp.alloc [] w1 _)); have cv := conv_bts (cap - (i + 1)) (zn - 1) ((HB.out.1.stays s1).stays (Stp.alloc [] w1 (Obj.cells #[.int .i64 zk, .int .i64 0] 61))) HB.out.2.symm; clear KN s1)
          have hsz : w.heap.size ≤ (w1.alloc (Obj.cells #[.int .i64 zk, .int .i64 0] 61)).heap.size := H3.out.2.1.size
          have KQ := Lib.hid (rseq_run H3.out.1 hsz (r.take (zn - 1)) (by rw [HB.out.2]; omega) (by have := H3.out.2.2.2.col; omega) (by have := H3.out.2.2.2.rows; omega) (by have := H3.out.2.2.2.cur; omega))
          refine KQ.out.mono ?_
          rintro _ w4 ⟨rfl, vs', hr4, hb4⟩
          have hood : S.odd ≤ 1500 := by have := H3.out.2.2.2.odd; omega
          have HO2 := Lib.hid HO.out
          clear KQ cv HO
          cases hD : doQ S (27 :: r.take (zn - 1)) with
          | none =>
            rw [hD] at hr4 HO2
            have hr4 : Rf w4 w.heap.size m v vs' S S.up.length := hr4
            have H4 : Aside (Rf w4 w.heap.size m v vs' S S.up.length ∧ Below w.heap.size (w1.alloc (Obj.cells #[.int .i64 zk, .int .i64 0] 61)) w4 ∧ w.heap.size ≤ w4.heap.size) := ⟨hr4, hb4, Nat.le_trans hsz hb4.size⟩
            have c5 := hr4.c5
            have f5 := hr4.fz 5
            have hm4 := hr4.lt
            clear hr4 hb4 hD
            simp only [Option.isSome_none]
            obtain ⟨od, hod⟩ : ∃ od, od = S.odd := ⟨_, rfl⟩
            have HD := Lib.hid hod
            rw [← hod] at c5 hood
            clear hod
            have hoz : (od : Int) ≤ 1500 := by omega
            go_wp2_with fail
            go_roundg (n - (i + zn))
            case measure => have := HP.out; omega
            case rel =>
              refine ⟨i + zn, by go_num, by have := HP.out; omega, by omega, v, vs', oddS S zn, ?_⟩
              have hf := H4.out.1.field (j := 5) (u := .int .i64 ((od : Int) + (zn : Int))) (S' := oddS S zn) (k' := S.up.length) rfl rfl (by rw [HD.out]; rfl)
              exact H3.out.step HO2.out hf (H4.out.2.1.trans (below_set (a := ⟨m, 5, none⟩) H4.out.1.lo H4.out.2.2 _))
          | some S' =>
            rw [hD] at hr4 HO2
            have hup := doQ_up hD
            have H4 : Aside (Rf w4 w.heap.size m v vs' S' S'.up.length ∧ Below w.heap.size (w1.alloc (Obj.cells #[.int .i64 zk, .int .i64 0] 61)) w4) := ⟨by rw [hup]; exact hr4, hb4⟩
            clear hr4 hb4 hD hup
            simp only [Option.isSome_some]
            go_wp2_with fail
            go_roundg (n - (i + zn))
            case measure => have := HP.out; omega
            case rel =>
              exact ⟨i + zn, by go_num, by have := HP.out; omega, by omega, v, vs', S', H3.out.step HO2.out H4.out.1 H4.out.2⟩
        · have HO : Aside (one S (l.drop i) = none) := by
            show one S (l.drop i) = none
            rw [HR.out, one_esc, if_neg he]
          have he' : (nx (27 :: r)).e ≠ 0 := he
          generalize (nx (27 :: r)).e = ze at *
          generalize (nx (27 :: r)).n = zn at *
          generalize (nx (27 :: r)).k = zk at *
          go_wp2_with fail
          refine KN.out.mono ?_
          rintro _ w1 ⟨rfl, s1⟩
          have H3 := Lib.hid ((H1.out.stays s1).done HO.out)
          clear KN H1 s1
          go_wp2_with fail
          go_ret
          exact ⟨m, _, _, rfl, H3.out.1.stays (Stp.alloc [] w1 _), H3.out.2.trans (Stp.alloc [] w1 _)⟩
      · have hne : l[i]! ≠ 27 := h27
        obtain ⟨x, r, hr, hx27⟩ : ∃ x r, l.drop i = x :: r ∧ x ≠ 27 := by
          have := H2.out.2.2
          rcases e : l.drop i with _ | ⟨x, r⟩
          · rw [e] at this
            cases this
          · rw [e] at this
            have h9 : x = l[i]! := by simpa using this
            exact ⟨x, r, rfl, by rw [h9]; exact hne⟩
        have h27z : ¬ ((l[i]!).toNat : Int) = 27 := fun e => hne (UInt8.toNat_inj.1 (by have : (27 : UInt8).toNat = 27 := rfl; omega))
        generalize (l[i]!).toNat = bx at *
        have KN := Lib.hid (rnext8 (cutp (some ⟨b, off, none⟩) i cap) (n - i) (cap - i) (l.drop i) wr H2.out.1 H2.out.2.1.symm (by omega))
        have hpos := nx8_pos (l := l.drop i) (by rw [hr]; simp)
        have hone : one S (l.drop i) = if (nx8 (l.drop i)).2.2 = 7 then none else some ⟨(if (nx8 (l.drop i)).2.2 = 0 then doC S (nx8 (l.drop i)).1 else none).getD (oddS S (nx8 (l.drop i)).2.1), (nx8 (l.drop i)).2.1⟩ := by
          rw [hr]
          exact one_chr S r hx27
        have hpl : 1 ≤ (nx8 (l.drop i)).2.1 ∧ (nx8 (l.drop i)).2.1 ≤ n - i ∧ (nx8 (l.drop i)).2.1 ≤ 4 := by rw [← H2.out.2.1]; exact hpos
        clear hpos hr hx27 hne h27
        obtain ⟨c, hc⟩ : ∃ c, c = (nx8 (l.drop i)).1 := ⟨_, rfl⟩
        obtain ⟨zn, hzn⟩ : ∃ zn, zn = (nx8 (l.drop i)).2.1 := ⟨_, rfl⟩
        obtain ⟨ze, hze⟩ : ∃ ze, ze = (nx8 (l.drop i)).2.2 := ⟨_, rfl⟩
        rw [← hc, ← hzn, ← hze] at KN hone
        rw [← hzn] at hpl
        have HP := Lib.hid hpl
        have HO := Lib.hid hone
        have KPr := Lib.hid (fun W => U.rpr_any (c : Int) W)
        have hz4 : (zn : Int) ≤ 4 := by omega
        clear hc hzn hze hpl hone
        by_cases h7 : ze = 7
        · have HO2 : Aside (one S (l.drop i) = none) := by
            show one S (l.drop i) = none
            rw [HO.out, if_pos h7]
          subst h7
          go_wp2_with fail
          refine KN.out.mono ?_
          rintro _ w1 ⟨rfl, s1⟩
          have H3 := Lib.hid ((H1.out.stays s1).done HO2.out)
          clear KN H1 s1
          go_wp2_with fail
          go_ret
          exact ⟨m, _, _, rfl, H3.out.1, H3.out.2⟩
        have h7z : ¬ (ze : Int) = 7 := by omega
        by_cases h0 : ze = 0
        · subst h0
          have HO1 : Aside (one S (l.drop i) = some ⟨(doC S c).getD (oddS S zn), zn⟩) := by
            show one S (l.drop i) = _
            rw [HO.out, if_neg h7, if_pos rfl]
          clear HO h7 h7z
          by_cases hp : U.prB (c : Int) = true
          · have HO2 : Aside (one S (l.drop i) = some ⟨{ S with cur := laid S.cur S.col c, col := S.col + 1 }, zn⟩) := by
              show one S (l.drop i) = _
              rw [HO1.out]
              unfold doC
              rw [if_pos hp]
              rfl
            rw [hp] at KPr
            clear hp HO1
            go_wp2_with fail
            refine KN.out.mono ?_
            rintro _ w1 ⟨rfl, s1⟩
            have H3 : Aside (RdR w w1 m l i v vs S) := H1.out.stays s1
            have hsz : w.heap.size ≤ w1.heap.size := H3.out.2.1.size
            clear KN H1 s1
            go_wp2_with fail
            refine (KPr.out _).mono ?_
            rintro _ wz ⟨rfl, hw⟩
            obtain rfl : wz = w1 := hw
            have KC := Lib.hid (rchar_run H3.out.1 hsz c (by have := H3.out.2.2.2.col; omega) (by have := H3.out.2.2.2.rows; omega) (by have := H3.out.2.2.2.cur; omega))
            go_wp2_with fail
            refine KC.out.mono ?_
            rintro _ w4 ⟨rfl, vs', hr4, hb4⟩
            have H4 : Aside (Rf w4 w.heap.size m v vs' { S with cur := laid S.cur S.col c, col := S.col + 1 } S.up.length ∧ Below w.heap.size wz w4) := ⟨hr4, hb4⟩
            clear KC hr4 hb4
            go_wp2_with fail
            go_roundg (n - (i + zn))
            case measure => have := HP.out; omega
            case rel => exact ⟨i + zn, by go_num, by have := HP.out; omega, by omega, v, vs', _, H3.out.step HO2.out H4.out.1 H4.out.2⟩
          · have hp : U.prB (c : Int) = false := by simpa using hp
            have HPb := Lib.hid hp
            rw [hp] at KPr
            clear hp
            by_cases h13 : c = 13
            · subst h13
              have HO2 : Aside (one S (l.drop i) = some ⟨{ S with col := 0 }, zn⟩) := by
                show one S (l.drop i) = _
                rw [HO1.out]
                rfl
              clear HO1
              go_wp2_with fail
              refine KN.out.mono ?_
              rintro _ w1 ⟨rfl, s1⟩
              have H3 : Aside (RdR w w1 m l i v vs S) := H1.out.stays s1
              have hsz : w.heap.size ≤ w1.heap.size := H3.out.2.1.size
              clear KN H1 s1
              have c2 := H3.out.1.c2
              have f2 := H3.out.1.fz 2
              have hm4 := H3.out.1.lt
              generalize hcol : (S.col : Int) = col at c2
              go_wp2_with fail
              refine (KPr.out _).mono ?_
              rintro _ _ ⟨rfl, rfl⟩
              go_wp2_with fail
              go_roundg (n - (i + zn))
              case measure => have := HP.out; omega
              case rel => exact ⟨i + zn, by go_num, by have := HP.out; omega, by omega, v, vs, { S with col := 0 }, H3.out.step HO2.out (H3.out.1.field (S' := { S with col := 0 }) (k' := S.up.length) rfl rfl rfl) (below_set (a := ⟨m, 2, none⟩) H3.out.1.lo hsz _)⟩
            have h13z : ¬ (c : Int) = 13 := by omega
            by_cases h10 : c = 10
            · subst h10
              have HO2 : Aside (one S (l.drop i) = some ⟨{ S with up := S.up ++ [S.cur], cur := [] }, zn⟩) := by
                show one S (l.drop i) = _
                rw [HO1.out]
                rfl
              clear HO1
              go_wp2_with fail
              refine KN.out.mono ?_
              rintro _ w1 ⟨rfl, s1⟩
              have H3 : Aside (RdR w w1 m l i v vs S) := H1.out.stays s1
              have hsz : w.heap.size ≤ w1.heap.size := H3.out.2.1.size
              clear KN H1 s1
              have c1 := H3.out.1.c1
              have f1 := H3.out.1.fz 1
              have f0 := H3.out.1.fz 0
              have hm4 := H3.out.1.lt
              obtain ⟨R, capR, hv, hBR, hRlt, hRne, hRC, hown, hcapR⟩ := H3.out.1.at
              have hups : S.up.length ≤ 1500 := by have := H3.out.2.2.2.rows; omega
              obtain ⟨k0, hk0⟩ : ∃ k0, k0 = S.up.length := ⟨_, rfl⟩
              have HK := Lib.hid hk0
              rw [← hk0] at hv c1 hups
              subst hv
              have c0 := H3.out.1.c0
              have H3' : Aside (RdR w w1 m l i (.slice (some ⟨R, 0, none⟩) (k0 + 1) capR) vs S) := H3.out
              have HM := Lib.hid hRne
              clear hk0 hRC hown hRne hBR hcapR
              have hkz : (k0 : Int) ≤ 1500 := by omega
              go_wp2_with fail
              refine (KPr.out _).mono ?_
              rintro _ wz ⟨rfl, hw⟩
              obtain rfl : wz = w1 := hw
              go_wp2_with fail
              have H5 : Aside (Rf (wz.setCell ⟨m, 1, none⟩ (.int .i64 ((k0 : Int) + 1))) w.heap.size m (.slice (some ⟨R, 0, none⟩) (k0 + 1) capR) vs S (S.up.length + 1) ∧ Below w.heap.size wz (wz.setCell ⟨m, 1, none⟩ (.int .i64 ((k0 : Int) + 1)))) :=
                ⟨H3.out.1.field (j := 1) (u := .int .i64 ((k0 : Int) + 1)) (S' := S) (k' := S.up.length + 1) rfl rfl (by rw [HK.out]; rfl), below_set (a := ⟨m, 1, none⟩) H3.out.1.lo hsz _⟩
              have hs5 : wz.heap.size = (wz.setCell ⟨m, 1, none⟩ (.int .i64 ((k0 : Int) + 1))).heap.size := by rw [World.size_setCell]
              obtain ⟨w5, hw5⟩ : ∃ w5, w5 = wz.setCell ⟨m, 1, none⟩ (.int .i64 ((k0 : Int) + 1)) := ⟨_, rfl⟩
              rw [← hw5] at H5 hs5 ⊢
              clear hw5
              have d0 := H5.out.1.c0
              have d1 := H5.out.1.c1
              have d2 := H5.out.1.fz 0
              have d3 := H5.out.1.lt
              rw [← HK.out] at d1
              have e1 : ((k0 + 1 : Nat) : Int) = (k0 : Int) + 1 := by omega
              rw [e1] at d1
              have H6 : Aside (Rf (w5.alloc (.cells #[.slice none 0 0] 39)).drew w.heap.size m (.slice (some ⟨R, 0, none⟩) (k0 + 1) capR) vs S (S.up.length + 1) ∧ Below w.heap.size wz (w5.alloc (.cells #[.slice none 0 0] 39)).drew ∧ vs.length ≤ 1000000 ∧ w.heap.size ≤ (w5.alloc (.cells #[.slice none 0 0] 39)).drew.heap.size) := by
                have q : Stp [] w5 [] (w5.alloc (.cells #[.slice none 0 0] 39)).drew := (Stp.alloc [] w5 _).trans (Stp.drew [] _)
                exact ⟨H5.out.1.stays q, H5.out.2.trans (q.below (fun _ h => by cases h) (by omega)), by rw [H5.out.1.len]; have := HK.out; omega, Nat.le_trans (by omega) q.size⟩
              go_region
              go_wp2_with (at_builtin; go_loud (refine wpList_appRs rfl (.tmp 125) (.tmp 126) rfl w.heap.size (v := .slice (some ⟨R, 0, none⟩) (k0 + 1) capR) rfl H6.out.1.own (b := w5.heap.size) rfl (sl_one w5) H6.out.2.2.1 H6.out.2.2.2 ?_); intro v7 w7 ho7 hs7; obtain ⟨R7, n7, c7, rfl⟩ := own_form ho7 (by simp); have H7 : Aside (Rf (w7.setCell ⟨m, 0, none⟩ (.slice (some ⟨R7, 0, none⟩) n7 c7)) w.heap.size m (.slice (some ⟨R7, 0, none⟩) n7 c7) (vs ++ [Value.slice none 0 0]) { S with up := S.up ++ [S.cur], cur := [] } (S.up.length + 1) ∧ Below w.heap.size wz w7 ∧ w.heap.size ≤ w7.heap.size) := (by
                refine ⟨H6.out.1.more ho7 hs7, H6.out.2.1.trans (hs7.below (fun j hj => (World.ownsRow.lt H6.out.1.own j (by simpa using hj)).1) H6.out.2.2.2), Nat.le_trans H6.out.2.2.2 hs7.size⟩); have hmR : m ∉ (Value.slice (some ⟨R, 0, none⟩) (k0 + 1) capR).ownBlock.toList := (by
                intro g
                simp [Value.ownBlock] at g
                exact HM.out g.symm); have g0 := (hs7.cell (a := ⟨m, 0, none⟩) H6.out.1.lt hmR).trans H6.out.1.c0; have gf : w7.frozen? ⟨m, 0, none⟩ = false := frozen_of_row w7 m 0 _ _ ((hs7.block m H6.out.1.lt hmR).trans H6.out.1.obj); have gl : m < w7.heap.size := Nat.lt_of_lt_of_le H6.out.1.lt hs7.size; clear ho7 hs7 hmR)
              clear H5 H3
              go_roundg (n - (i + zn))
              case measure => have := HP.out; omega
              case rel => exact ⟨i + zn, by go_num, by have := HP.out; omega, by omega, _, _, _, H3'.out.step HO2.out (f := ⟨{ S with up := S.up ++ [S.cur], cur := [] }, zn⟩) (by
                have q := H7.out.1
                have e : ({ S with up := S.up ++ [S.cur], cur := [] } : Sn).up.length = S.up.length + 1 := by simp
                rw [e]
                exact q) (H7.out.2.1.trans (below_set (a := ⟨m, 0, none⟩) H6.out.1.lo H7.out.2.2 _))⟩
            have h10z : ¬ (c : Int) = 10 := by omega
            by_cases h77 : c = 7
            · subst h77
              have HO2 : Aside (one S (l.drop i) = some ⟨{ S with bells := S.bells + 1 }, zn⟩) := by
                show one S (l.drop i) = _
                rw [HO1.out]
                rfl
              clear HO1
              go_wp2_with fail
              refine KN.out.mono ?_
              rintro _ w1 ⟨rfl, s1⟩
              have H3 : Aside (RdR w w1 m l i v vs S) := H1.out.stays s1
              have hsz : w.heap.size ≤ w1.heap.size := H3.out.2.1.size
              clear KN H1 s1
              have c3 := H3.out.1.c3
              have f3 := H3.out.1.fz 3
              have hm4 := H3.out.1.lt
              have hbe : S.bells ≤ 1500 := by have := H3.out.2.2.2.bells; omega
              obtain ⟨be, hbe2⟩ : ∃ be, be = S.bells := ⟨_, rfl⟩
              have HD := Lib.hid hbe2
              rw [← hbe2] at c3 hbe
              clear hbe2
              have hbz : (be : Int) ≤ 1500 := by omega
              go_wp2_with fail
              refine (KPr.out _).mono ?_
              rintro _ _ ⟨rfl, rfl⟩
              go_wp2_with fail
              go_roundg (n - (i + zn))
              case measure => have := HP.out; omega
              case rel => exact ⟨i + zn, by go_num, by have := HP.out; omega, by omega, v, vs, { S with bells := S.bells + 1 }, H3.out.step HO2.out (H3.out.1.field (j := 3) (u := .int .i64 ((be : Int) + 1)) (S' := { S with bells := S.bells + 1 }) (k' := S.up.length) rfl rfl (by rw [HD.out]; rfl)) (below_set (a := ⟨m, 3, none⟩) H3.out.1.lo hsz _)⟩
            have h77z : ¬ (c : Int) = 7 := by omega
            have HO2 : Aside (one S (l.drop i) = some ⟨oddS S zn, zn⟩) := by
              show one S (l.drop i) = _
              rw [HO1.out]
              unfold doC
              rw [HPb.out, if_neg (by decide), if_neg h13, if_neg h10, if_neg h77]
              rfl
            clear HO1
            go_wp2_with fail
            refine KN.out.mono ?_
            rintro _ w1 ⟨rfl, s1⟩
            have H3 : Aside (RdR w w1 m l i v vs S) := H1.out.stays s1
            have hsz : w.heap.size ≤ w1.heap.size := H3.out.2.1.size
            clear KN H1 s1
            have c5 := H3.out.1.c5
            have f5 := H3.out.1.fz 5
            have hm4 := H3.out.1.lt
            have hood : S.odd ≤ 1500 := by have := H3.out.2.2.2.odd; omega
            obtain ⟨od, hod⟩ : ∃ od, od = S.odd := ⟨_, rfl⟩
            have HD := Lib.hid hod
            rw [← hod] at c5 hood
            clear hod
            have hoz : (od : Int) ≤ 1500 := by omega
            go_wp2_with fail
            refine (KPr.out _).mono ?_
            rintro _ _ ⟨rfl, rfl⟩
            go_wp2_with fail
            go_roundg (n - (i + zn))
            case measure => have := HP.out; omega
            case rel =>
              refine ⟨i + zn, by go_num, by have := HP.out; omega, by omega, v, vs, oddS S zn, ?_⟩
              have hf := H3.out.1.field (j := 5) (u := .int .i64 ((od : Int) + (zn : Int))) (S' := oddS S zn) (k' := S.up.length) rfl rfl (by rw [HD.out]; rfl)
              exact H3.out.step HO2.out hf (below_set (a := ⟨m, 5, none⟩) H3.out.1.lo hsz _)
        · have h0z : ¬ (ze : Int) = 0 := by omega
          have HO2 : Aside (one S (l.drop i) = some ⟨oddS S zn, zn⟩) := by
            show one S (l.drop i) = _
            rw [HO.out, if_neg h7, if_neg h0]
            rfl
          clear HO
          go_wp2_with fail
          refine KN.out.mono ?_
          rintro _ w1 ⟨rfl, s1⟩
          have H3 : Aside (RdR w w1 m l i v vs S) := H1.out.stays s1
          have hsz : w.heap.size ≤ w1.heap.size := H3.out.2.1.size
          clear KN H1 s1
          have c5 := H3.out.1.c5
          have f5 := H3.out.1.fz 5
          have hm4 := H3.out.1.lt
          have hood : S.odd ≤ 1500 := by have := H3.out.2.2.2.odd; omega
          obtain ⟨od, hod⟩ : ∃ od, od = S.odd := ⟨_, rfl⟩
          have HD := Lib.hid hod
          rw [← hod] at c5 hood
          clear hod
          have hoz : (od : Int) ≤ 1500 := by omega
          go_wp2_with fail
          go_roundg (n - (i + zn))
          case measure => have := HP.out; omega
          case rel =>
            refine ⟨i + zn, by go_num, by have := HP.out; omega, by omega, v, vs, oddS S zn, ?_⟩
            have hf := H3.out.1.field (j := 5) (u := .int .i64 ((od : Int) + (zn : Int))) (S' := oddS S zn) (k' := S.up.length) rfl rfl (by rw [HD.out]; rfl)
            exact H3.out.step HO2.out hf (below_set (a := ⟨m, 5, none⟩) H3.out.1.lo hsz _)
    · have hltz : ¬ (i : Int) < (n : Int) := by omega
      obtain ⟨v, vs, S, hR⟩ := HS.out
      have e0 : l.drop i = [] := List.drop_eq_nil_of_le (by have := HT.out.2.1; omega)
      have H3 := Lib.hid (hR.done (by rw [e0]; exact one_nil S))
      clear HS hR
      go_wp2_with fail
      go_ret
      exact ⟨m, _, _, rfl, H3.out.1, H3.out.2⟩
end Go.Proofs.YtdaenaoagejgeaaDoor
/-
  The walk of ScreenTyped.
-/
namespace Go.Proofs.YtdaenaoagejgeaaDoor
open Go.RowKit Go.Lib
set_option linter.unusedVariables false

set_option maxRecDepth 100000 in
/-- The document's text of a row. -/
theorem rtx_run (a : Option Addr) (n c : Nat) (l : List Nat) (w : World) (h : Its w a l) (hn : n = l.length) (hl : n ≤ 4096) (hp : Pr l) :
    Calls Tryd.prog 28 #[.slice a n c] w (Tells (.string (st (fl l))) w) := by
  have K := Lib.hid (rbytes_run a n c l w h hn hl hp)
  clear h hn hl hp
  go_enter Tryd.func28, Tryd.ntmps28
  go_wp2_with fail
  refine K.out.mono ?_
  rintro _ w1 ⟨v, rfl, ho, s1⟩
  obtain ⟨a1, c1, rfl, hb, _⟩ := ho.bts
  have hc := conv_bts c1 _ hb rfl
  clear K ho hb
  generalize st (fl l) = x at *
  generalize (fl l).length = q at *
  go_wp2_with fail
  go_ret
  exact ⟨rfl, s1⟩
theorem TyR.says {w W : World} {bs s B : Nat} {F : List Nat} {S : Sn} (h : TyR w W bs s F S B) (hB : B ≤ 80000) : ∃ tx, Says W s (S.up.length : Int) (S.col : Int) (S.bells : Int) (S.odd : Int) (S.up.length + 1) S.pa tx ∧ ∀ i, tx i = st (fl ((S.up ++ [S.cur]).getD i [])) := by
  obtain ⟨L, q1, rfl, q3, q4⟩ := h.ex
  have h1 := q1.says (by omega)
  have e : (rowsL L).length = (seen L).up.length + 1 := by unfold rowsL; simp
  rw [e] at h1
  exact ⟨_, h1, fun i => rfl⟩
theorem cutp_none {a : Option Addr} {i N : Nat} (h : a = none → N = 0) (e : cutp a i N = none) : N - i = 0 := by
  have : a = none := by
    unfold cutp at e
    split at e
    · exact e
    · cases a with
      | none => rfl
      | some x => cases e
  rw [h this]
  omega
/-- What stands at the end: the screen, and what its row should be. -/
def TyE (w W : World) (bs s ny : Nat) (v : Value) (N : List Nat) : Prop := (∃ F B, TyR w W bs s F ⟨[], N, ny, 0, false, 0⟩ B ∧ B ≤ 80000) ∧ (∃ a c, v = .slice a N.length c ∧ Its W a N) ∧ Pr N ∧ N.length ≤ 600
structure TyS (w W : World) (bs s ny : Nat) (a : Option Addr) (n c : Nat) (x : ByteArray) : Prop where
  place : ∀ W', Stp [] W [] W' → Calls Tryd.prog 15 #[.pointer (some ⟨s, 0, none⟩)] W' (Tells (.tuple #[.int .i64 0, .int .i64 (ny : Int)]) W')
  row : ∀ W', Stp [] W [] W' → Calls Tryd.prog 20 #[.pointer (some ⟨s, 0, none⟩), .int .i64 0] W' (Tells (.string x) W')
  odd : ∀ W', Stp [] W [] W' → Calls Tryd.prog 19 #[.pointer (some ⟨s, 0, none⟩)] W' (Tells (.int .i64 0) W')
  rows : ∀ W', Stp [] W [] W' → Calls Tryd.prog 16 #[.pointer (some ⟨s, 0, none⟩)] W' (Tells (.int .i64 1) W')
  text : ∀ W', Stp [] W [] W' → Calls Tryd.prog 28 #[.slice a n c] W' (Tells (.string x) W')
  cl : ∀ W', Stp [] W [] W' → W'.cell? ⟨bs, 0, none⟩ = some (.pointer (some ⟨s, 0, none⟩))
  stp : Stp [] w [] W
theorem TyE.says {w W : World} {bs s ny : Nat} {v : Value} {N : List Nat} (h : TyE w W bs s ny v N) : ∃ a n c x, v = .slice a n c ∧ TyS w W bs s ny a n c x := by
  obtain ⟨⟨F, B, t, hB⟩, ⟨a, c, rfl, hi⟩, hp, hl⟩ := h
  obtain ⟨tx, hsay, htx⟩ := t.says hB
  have h0 : tx 0 = st (fl N) := htx 0
  refine ⟨a, N.length, c, st (fl N), rfl, hsay.place, fun W' hs => ?_, hsay.odd, hsay.rows, fun W' hs => rtx_run a N.length c N W' (hi.stays hs) rfl (by omega) hp, fun W' hs => hs.keeps rfl t.cl, t.stp⟩
  have := hsay.row W' hs 0 (by simp)
  rw [h0] at this
  exact this
set_option maxHeartbeats 2000000 in
set_option maxRecDepth 100000 in
theorem typed_walk (a0 : Option Addr) (cap0 n : Nat) (l : List Int) (a1 : Option Addr) (cap1 m : Nat) (l' : List Int) (w : World) (hb : Is w a0 l) (hn : n = l.length) (hnn : l.length ≤ 9223372036854775807) (hb1 : Is w a1 l') (hm : m = l'.length) (hmm : l'.length ≤ 9223372036854775807) (hT : Tabs w) :
    Calls Tryd.prog 7 #[.slice a0 n cap0, .slice a1 m cap1] w (Tells (.bool true) w) := by
  have HT : Aside (Tabs w ∧ Is w a0 l ∧ n = l.length ∧ Is w a1 l' ∧ m = l'.length) := ⟨hT, hb, hn, hb1, hm⟩
  have K1 := Lib.hid (knew_run (Stp.refl [] w))
  clear hT hb hn hb1 hm hnn hmm
  have HD : (decide (300 < (n : Int)) = true ∨ decide (300 < (n : Int)) = false) := by cases decide (300 < (n : Int)) <;> simp
  have HE : (decide (300 < (m : Int)) = true ∨ decide (300 < (m : Int)) = false) := by cases decide (300 < (m : Int)) <;> simp
  go_enter Tryd.func7, Tryd.ntmps7
  go_wp2_with fail
  refine K1.out.mono ?_
  rintro _ w1 ⟨s, F, rfl, k1, hF, t1⟩
  have H1 : Aside (Ks w w1 s F []) := k1
  clear K1 k1 hF t1
  go_wp2_with fail
  have H2 : Aside (TyR w (w1.alloc (Obj.cells #[Value.pointer (some ⟨s, 0, none⟩)] 23)) w1.heap.size s F sn0 0) :=
    ⟨⟨[], H1.out.stays (Stp.alloc [] w1 _), rfl, rfl, by simp⟩, H1.out.stp.size, fun h => by have := H1.out.lt _ h; omega, by simp, by rw [cell_of_row _ _ _ _ _ _ (heap_alloc_new w1 _)]; rfl⟩
  generalize hW : w1.alloc (Obj.cells #[Value.pointer (some ⟨s, 0, none⟩)] 23) = w2 at *
  clear hW H1
  generalize w1.heap.size = bs at *
  have KA := Lib.hid (alive_run w2 (HT.out.1.stays H2.out.stp))
  refine KA.out.mono ?_
  rintro _ w3 ⟨rfl, s3⟩
  have H3 : Aside (TyR w w3 bs s F sn0 0) := H2.out.stays s3
  clear KA H2 s3
  have c3 := H3.out.cl
  have KA := Lib.hid (alive_run w3 (HT.out.1.stays H3.out.stp))
  rcases HD with hd | hd
  · go_wp2_with fail
    refine KA.out.mono ?_
    rintro _ w4 ⟨rfl, s4⟩
    have H4 : Aside (Stp [] w [] w4) := H3.out.stp.trans s4
    clear H3 s4 KA
    go_wp2
    go_ret
    exact ⟨rfl, H4.out⟩
  rcases HE with he | he
  · go_wp2_with fail
    refine KA.out.mono ?_
    rintro _ w4 ⟨rfl, s4⟩
    have H4 : Aside (Stp [] w [] w4) := H3.out.stp.trans s4
    clear H3 s4 KA
    go_wp2
    go_ret
    exact ⟨rfl, H4.out⟩
  clear KA
  have hn3 : n ≤ 300 := by have := of_decide_eq_false hd; omega
  have hm3 : m ≤ 300 := by have := of_decide_eq_false he; omega
  clear hd he
  have KL := Lib.hid (lay_run H3.out HT.out.1 a0 n cap0 l HT.out.2.1 HT.out.2.2.1 hn3 (by omega))
  go_wp2_with fail
  refine KL.out.mono ?_
  rintro _ w4 ⟨v4, F4, rfl, o4, t4, s4, b4⟩
  obtain ⟨X, hX⟩ : ∃ X, X = shw l := ⟨_, rfl⟩
  have hXl : X.length ≤ 300 := by have := shw_len l; have := HT.out.2.2.1; rw [hX]; omega
  have hXp : Pr X := hX ▸ shw_pr l
  rw [← hX] at o4 t4
  have et : typ sn0 X = ⟨[], X, X.length, 0, false, 0⟩ := by
    have := typ_mid [] 0 false 0 X [] []
    simpa [sn0] using this
  rw [et] at t4
  obtain ⟨a4, c4', e4, hi4, hz4, hl4, hb4⟩ := OwnI.its o4
  subst e4
  have H4 : Aside (TyR w w4 bs s F4 ⟨[], X, X.length, 0, false, 0⟩ (0 + 4 * n) ∧ U.OwnI w4 w3.heap.size (.slice a4 X.length c4') X ∧ (∀ k, (Value.slice a4 X.length c4').ownBlock = some k → k ∉ F4) ∧ Pr X) := ⟨t4, o4, b4, hXp⟩
  have cl4 := t4.cl
  obtain ⟨tx, hsay, htx⟩ := t4.says (by omega)
  have HY := Lib.hid hsay
  have htx0 : tx 0 = st (fl X) := htx 0
  have KR := Lib.hid (hsay.row _ (Stp.refl _ _) 0 (by simp))
  rw [htx0] at KR
  have KT := Lib.hid (fun W' (hs : Stp [] w4 [] W') => rtx_run a4 X.length c4' X W' (hi4.stays hs) rfl (by omega) hXp)
  have HXl := Lib.hid (And.intro hX hXl)
  clear KL o4 t4 s4 b4 hX et hi4 hb4 hXp hsay htx htx0 H3 c3 hz4 hl4
  generalize st (fl X) = x1 at *
  generalize X.length = nx at *
  go_wp2_with fail
  refine KR.out.mono ?_
  rintro _ w5 ⟨rfl, s5⟩
  go_wp2_with fail
  refine (KT.out _ s5).mono ?_
  rintro _ w6 ⟨rfl, s6⟩
  replace s6 := s5.trans s6
  have H6 : Aside (Stp [] w4 [] w6) := s6
  have cl6 := s6.keeps rfl cl4
  clear KR KT s5 s6 cl4
  go_wp2_with fail
  have KF := Lib.hid ((H4.out.1.stays (H6.out.trans (Stp.alloc [] w6 _))).feed HT.out.1 (S' := ⟨[], X, 0, 0, false, 0⟩) (fun L e1 e2 => by
    have := seen_back0 e2
    rw [e1] at this
    exact this) (some ⟨w6.heap.size, 0, none⟩) 1 1 (Blk.bts (C := [13]) (heap_alloc_new w6 _)) rfl (fun h => by cases h) (by simp; omega))
  refine KF.out.mono ?_
  rintro _ w7 ⟨rfl, F7, t7, s7⟩
  have H7 : Aside (TyR w w7 bs s F7 ⟨[], X, 0, 0, false, 0⟩ (0 + 4 * n + 1) ∧ U.OwnI w7 w3.heap.size (.slice a4 nx c4') X ∧ (∀ k, (Value.slice a4 nx c4').ownBlock = some k → k ∉ F7) ∧ Pr X) := by
    obtain ⟨_, o4, b4, p4⟩ := H4.out
    refine ⟨t7, OwnI.other (OwnI.other o4 (H6.out.trans (Stp.alloc [] w6 _)) (fun _ _ h => by cases h)) s7 b4, fun k hk hj => ?_, p4⟩
    rcases s7.foot k hj with g | g
    · exact b4 k hk g
    · have h1 := (World.ownsRow.lt o4 k hk).2
      have h2 := H6.out.size
      rw [World.size_alloc] at g
      omega
  clear KF H4 H6 HY cl6 s7 t7
  have KL := Lib.hid (lay_run H7.out.1 HT.out.1 a1 m cap1 l' HT.out.2.2.2.1 HT.out.2.2.2.2 hm3 (by omega))
  go_wp2_with fail
  refine KL.out.mono ?_
  rintro _ w8 ⟨v8, F8, rfl, o8, t8, s8, b8⟩
  obtain ⟨Y, hY⟩ : ∃ Y, Y = shw l' := ⟨_, rfl⟩
  have hYl : Y.length ≤ 300 := by have := shw_len l'; have := HT.out.2.2.2.2; rw [hY]; omega
  have hYp : Pr Y := hY ▸ shw_pr l'
  rw [← hY] at o8 t8
  have et : typ ⟨[], X, 0, 0, false, 0⟩ Y = ⟨[], Y ++ X.drop Y.length, Y.length, 0, false, 0⟩ := by
    have := typ_mid [] 0 false 0 Y [] X
    simpa using this
  rw [et] at t8
  obtain ⟨a8, c8, e8, hi8, hz8, hl8, hb8⟩ := OwnI.its o8
  subst e8
  have H8 : Aside (TyR w w8 bs s F8 ⟨[], Y ++ X.drop Y.length, Y.length, 0, false, 0⟩ (0 + 4 * n + 1 + 4 * m) ∧ U.OwnI w8 w3.heap.size (.slice a4 nx c4') X ∧ Its w8 a8 Y ∧ (a8 = none → c8 = 0) ∧ Pr X ∧ Pr Y) := ⟨t8, OwnI.other H7.out.2.1 s8 H7.out.2.2.1, hi8, hz8, H7.out.2.2.2, hYp⟩
  have HYl := Lib.hid hYl
  obtain ⟨ny, hny⟩ : ∃ ny, ny = Y.length := ⟨_, rfl⟩
  have HN := Lib.hid hny
  rw [← hny] at H8 hYl ⊢
  clear KL H7 s8 b8 hY et hi8 hz8 hl8 hb8 hYp o8 t8 hny
  have hnx : nx ≤ 300 := by have := HXl.out.2; exact this
  have hnx2 : (nx : Int) ≤ 300 := by omega
  have hny2 : (ny : Int) ≤ 300 := by omega
  have HXn : Aside (X.length = nx) := by
    obtain ⟨_, cc, ee, _⟩ := OwnI.its H8.out.2.1
    show X.length = nx
    cases ee
    rfl
  have HO : Aside (Pr (Y ++ X.drop ny) ∧ (∀ j ∈ F8, j < w8.heap.size) ∧ bs < w8.heap.size ∧ w.heap.size ≤ w8.heap.size) :=
    ⟨H8.out.2.2.2.2.2.app (fun c hc => H8.out.2.2.2.2.1 c (List.mem_of_mem_drop hc)), fun j hj => (H8.out.1.low j hj).2, H8.out.1.lt, H8.out.1.stp.size⟩
  have first_app : ∀ (v9 : Value) (w9 : World), U.OwnI w9 w8.heap.size v9 Y → Stp (Value.slice (some ⟨w8.heap.size, 0, none⟩) 0 0).ownBlock.toList (w8.alloc (.cells #[] 3)) [] w9 →
      TyR w w9 bs s F8 ⟨[], Y ++ X.drop ny, ny, 0, false, 0⟩ (0 + 4 * n + 1 + 4 * m) ∧ U.OwnI w9 w3.heap.size (.slice a4 nx c4') X ∧ w8.heap.size ≤ w9.heap.size := by
    intro v9 w9 ho9 hs9
    obtain ⟨t8, o8, _⟩ := H8.out
    have hone : ∀ j ∈ (Value.slice (some ⟨w8.heap.size, 0, none⟩) 0 0).ownBlock.toList, j = w8.heap.size := fun j hj => by
      simp [Value.ownBlock] at hj
      exact hj
    refine ⟨(t8.stays (Stp.alloc [] w8 _)).other hs9 (fun j hj => ?_), OwnI.other (OwnI.other o8 (Stp.alloc [] w8 _) (fun _ _ h => by cases h)) hs9 (fun k hk2 hj => ?_), by have := hs9.size; rw [World.size_alloc] at this; omega⟩
    · rw [hone j hj]
      refine ⟨t8.stp.size, fun g => ?_, fun g => ?_⟩
      · have := (t8.low _ g).2
        omega
      · have := t8.lt
        omega
    · have h1 := (World.ownsRow.lt o8 k hk2).2
      rw [hone k hj] at h1
      omega
  have HF := Lib.hid first_app
  have H8' : Aside (Its w8 a8 Y ∧ (a8 = none → c8 = 0)) := ⟨H8.out.2.2.1, H8.out.2.2.2.1⟩
  clear first_app H8
  by_cases hgt : ny < nx
  · have hgtz : (ny : Int) < (nx : Int) := by omega
    have hcut := cutI_l a4 nx c4' ny (by omega)
    have hnz : nx - ny ≤ 300 := by omega
    go_wp2_with (first
      | (at_builtin; refine wpList_appN2 rfl (.tmp 45) (.tmp 46) rfl w8.heap.size (.slice (some ⟨w8.heap.size, 0, none⟩) 0 0) [] rfl (OwnI.new w8) a8 c8 ny Y HN.out rfl (H8'.out.1.stays (Stp.alloc [] w8 _)) H8'.out.2 (by have := HYl.out; simp; omega) (by simp) ?_
         intro v9 w9 ho9 hs9 hbl9
         rw [List.nil_append] at ho9
         have H9 : Aside (TyR w w9 bs s F8 ⟨[], Y ++ X.drop ny, ny, 0, false, 0⟩ (0 + 4 * n + 1 + 4 * m) ∧ U.OwnI w9 w8.heap.size v9 Y ∧ w8.heap.size ≤ w9.heap.size) := ⟨(HF.out v9 w9 ho9 hs9).1, ho9, (HF.out v9 w9 ho9 hs9).2.2⟩
         go_loud (
           have H9' : Aside (Its w9 (cutp a4 ny c4') (X.drop ny) ∧ (cutp a4 ny c4' = none → c4' - ny = 0) ∧ (X.drop ny).length = nx - ny) := by
             obtain ⟨a, c, e, h1, h2, h3, _⟩ := OwnI.its (HF.out v9 w9 ho9 hs9).2.1
             cases e
             have h4 := HXn.out
             exact ⟨h1.tail (by omega) (by omega), cutp_none h2, by rw [List.length_drop]⟩)
         clear ho9 hs9 hbl9)
      | (at_builtin; go_loud (refine wpList_appN2 rfl (.tmp 53) (.tmp 57) rfl w8.heap.size v9 Y rfl H9.out.2.1 (cutp a4 ny c4') (c4' - ny) (nx - ny) (X.drop ny) H9'.out.2.2.symm rfl H9'.out.1 H9'.out.2.1 (by have := H9'.out.2.2; have := HYl.out; omega) H9.out.2.2 ?_)
         intro v10 w10 ho10 hs10 hbl10
         have HE : Aside (TyE w w10 bs s ny v10 (Y ++ X.drop ny)) := by
           obtain ⟨t9, o9', hsz⟩ := H9.out
           obtain ⟨a, c, e, h1, _⟩ := OwnI.its ho10
           obtain ⟨hX, hlow8, hbs8, hE8⟩ := HO.out
           refine ⟨⟨F8, _, t9.other hs10 (fun j hj => ?_), by omega⟩, ⟨a, c, e, h1⟩, hX, by have := H9'.out.2.2; have := HYl.out; simp only [List.length_append]; omega⟩
           have hj2 := (World.ownsRow.lt o9' j (by simpa using hj)).1
           exact ⟨by omega, fun g => by have := hlow8 j g; omega, fun g => by omega⟩
         obtain ⟨af, nf, cf, x2, rfl, hsy⟩ := HE.out.says
         have HY := Lib.hid hsy
         have k0 := hsy.cl _ (Stp.refl _ _)
         clear hsy HE H9 H9' ho10 hs10 hbl10 hcut))
    refine (HY.out.place _ (Stp.refl _ _)).mono ?_
    rintro _ wa ⟨rfl, sa⟩
    have k1 := HY.out.cl _ sa
    go_wp2_with fail
    refine (HY.out.row _ sa).mono ?_
    rintro _ wb ⟨rfl, sb⟩
    replace sb := sa.trans sb
    have k2 := HY.out.cl _ sb
    go_wp2_with fail
    refine (HY.out.text _ sb).mono ?_
    rintro _ wc ⟨rfl, sc⟩
    replace sc := sb.trans sc
    have k3 := HY.out.cl _ sc
    go_wp2_with fail
    refine (HY.out.odd _ sc).mono ?_
    rintro _ wd ⟨rfl, sd⟩
    replace sd := sc.trans sd
    have k4 := HY.out.cl _ sd
    go_wp2_with fail
    refine (HY.out.rows _ sd).mono ?_
    rintro _ we ⟨rfl, se⟩
    go_wp2_with fail
    go_ret
    exact ⟨by simp, (HY.out.stp.trans sd).trans se⟩
  · have hgtz : ¬ (ny : Int) < (nx : Int) := by omega
    go_wp2_with (at_builtin; refine wpList_appN2 rfl (.tmp 45) (.tmp 46) rfl w8.heap.size (.slice (some ⟨w8.heap.size, 0, none⟩) 0 0) [] rfl (OwnI.new w8) a8 c8 ny Y HN.out rfl (H8'.out.1.stays (Stp.alloc [] w8 _)) H8'.out.2 (by have := HYl.out; simp; omega) (by simp) ?_; intro v9 w9 ho9 hs9 hbl9; rw [List.nil_append] at ho9; have HE : Aside (TyE w w9 bs s ny v9 (Y ++ X.drop ny)) := (by
      obtain ⟨a, c, e, h1, _⟩ := OwnI.its ho9
      have h4 : X.drop ny = [] := List.drop_eq_nil_of_le (by have : X.length = nx := HXn.out; omega)
      have h5 := (HF.out v9 w9 ho9 hs9).1
      have h6 := HO.out.1
      rw [h4, List.append_nil] at h5 h6 ⊢
      exact ⟨⟨F8, _, h5, by omega⟩, ⟨a, c, e, h1⟩, h6, by have := HYl.out; omega⟩); obtain ⟨af, nf, cf, x2, rfl, hsy⟩ := HE.out.says; have HY := Lib.hid hsy; have k0 := hsy.cl _ (Stp.refl _ _); clear hsy HE ho9 hs9 hbl9)
    refine (HY.out.place _ (Stp.refl _ _)).mono ?_
    rintro _ wa ⟨rfl, sa⟩
    have k1 := HY.out.cl _ sa
    go_wp2_with fail
    refine (HY.out.row _ sa).mono ?_
    rintro _ wb ⟨rfl, sb⟩
    replace sb := sa.trans sb
    have k2 := HY.out.cl _ sb
    go_wp2_with fail
    refine (HY.out.text _ sb).mono ?_
    rintro _ wc ⟨rfl, sc⟩
    replace sc := sb.trans sc
    have k3 := HY.out.cl _ sc
    go_wp2_with fail
    refine (HY.out.odd _ sc).mono ?_
    rintro _ wd ⟨rfl, sd⟩
    replace sd := sc.trans sd
    have k4 := HY.out.cl _ sd
    go_wp2_with fail
    refine (HY.out.rows _ sd).mono ?_
    rintro _ we ⟨rfl, se⟩
    go_wp2_with fail
    go_ret
    exact ⟨by simp, (HY.out.stp.trans sd).trans se⟩
end Go.Proofs.YtdaenaoagejgeaaDoor
/-
  same of whispererlaw14: a screen tells what the document sees.
-/
namespace Go.Proofs.YtdaenaoagejgeaaDoor
open Go.RowKit Go.Lib
set_option linter.unusedVariables false

section
variable {W : World} {B B' s m : Nat} {F : List Nat} {l : List UInt8} {v : Value} {vs : List Value}
/-- One row of both. -/
theorem both_row (h : Scn W B s F l) (hl : l.length ≤ 1500) (hr : Rf W B' m v vs (seen l) (seen l).up.length) (i : Nat) (hi : i < (rowsL l).length) :
    ∃ a n c x, vs[i]? = some (.slice a n c) ∧ (∀ W', Stp [] W [] W' → Calls Tryd.prog 14 #[.pointer (some ⟨s, 0, none⟩), .int .i64 (i : Int)] W' (Tells (.tuple #[.string x, .int .i64 0]) W')) ∧
      (∀ W', Stp [] W [] W' → Calls Tryd.prog 28 #[.slice a n c] W' (Tells (.string x) W')) := by
  have hN : (rowsL l).length = (seen l).up.length + 1 := by unfold rowsL; simp
  obtain ⟨u, hu⟩ : ∃ u, vs[i]? = some u := ⟨_, List.getElem?_eq_getElem (by rw [hr.len]; omega)⟩
  have hg : (rowsL l)[i]? = some ((rowsL l)[i]) := List.getElem?_eq_getElem hi
  obtain ⟨a, c, rfl, hits, _, _, _⟩ := hr.rows i u _ hu hg
  have he : (rowsL l).getD i [] = (rowsL l)[i] := by rw [List.getD_eq_getElem?_getD, hg]; rfl
  have hm : (rowsL l)[i] ∈ rowsL l := List.getElem_mem _
  have hO := seen_ok l
  have hp : Pr ((rowsL l)[i]) ∧ ((rowsL l)[i]).length ≤ l.length := by
    generalize (rowsL l)[i] = r at hm
    unfold rowsL at hm
    rcases List.mem_append.1 hm with g | g
    · exact ⟨hO.prs _ g, hO.lens _ g⟩
    · rw [List.mem_singleton.1 g]
      exact ⟨hO.pr, hO.cur⟩
  refine ⟨a, _, c, st (fl ((rowsL l)[i])), hu, fun W' hs => ?_, fun W' hs => rtx_run a _ c _ W' (hits.stays hs) rfl (by omega) hp.1⟩
  have := row_run (h.stays hs) (by omega) i hi
  rw [he] at this
  exact this
set_option maxHeartbeats 4000000 in
set_option maxRecDepth 100000 in
theorem same14_run (h : Scn W B s F l) (hl : l.length ≤ 1500) (hr : Rf W B' m v vs (seen l) (seen l).up.length) :
    Calls Tryd.prog 12 #[.pointer (some ⟨s, 0, none⟩), .pointer (some ⟨m, 0, none⟩)] W (Tells (.bool true) W) := by
  have hO := seen_ok l
  have KP := Lib.hid (place_run h (by omega))
  have hN : (rowsL l).length = (seen l).up.length + 1 := by unfold rowsL; simp
  obtain ⟨R, cap, hv, hBR, hRlt, hRne, hRC, hown, hcapR⟩ := hr.at
  have K1 : Hid (∀ W', Stp [] W [] W' → Calls Tryd.prog 16 #[.pointer (some ⟨s, 0, none⟩)] W' (Tells (.int .i64 ((rowsL l).length : Int)) W')) := Lib.hid fun W' hs => rows_run (h.stays hs)
  have K2 : Hid (∀ W', Stp [] W [] W' → Calls Tryd.prog 17 #[.pointer (some ⟨s, 0, none⟩)] W' (Tells (.int .i64 ((seen l).bells : Int)) W')) := Lib.hid fun W' hs => bells_run (h.stays hs)
  have K3 : Hid (∀ W', Stp [] W [] W' → Calls Tryd.prog 18 #[.pointer (some ⟨s, 0, none⟩)] W' (Tells (.bool (seen l).pa) W')) := Lib.hid fun W' hs => pastes_run (h.stays hs)
  have K4 : Hid (∀ W', Stp [] W [] W' → Calls Tryd.prog 19 #[.pointer (some ⟨s, 0, none⟩)] W' (Tells (.int .i64 ((seen l).odd : Int)) W')) := Lib.hid fun W' hs => odd_run (h.stays hs)
  have K5 : Hid (∀ W', Stp [] W [] W' → Calls Tryd.prog 14 #[.pointer (some ⟨s, 0, none⟩), .int .i64 ((rowsL l).length : Int)] W' (Tells (.tuple #[.string ⟨#[]⟩, .int .i64 3]) W')) := Lib.hid fun W' hs => row_no (h.stays hs) _ (.inr (by omega))
  have K6 : Hid (∀ W', Stp [] W [] W' → Calls Tryd.prog 14 #[.pointer (some ⟨s, 0, none⟩), .int .i64 (-1)] W' (Tells (.tuple #[.string ⟨#[]⟩, .int .i64 3]) W')) := Lib.hid fun W' hs => row_no (h.stays hs) (-1) (.inl (by omega))
  have K7 : Hid (∀ i : Nat, i < (rowsL l).length → ∃ a n c x, (∀ W', Stp [] W [] W' → W'.cell? ⟨R, i, none⟩ = some (.slice a n c)) ∧ (∀ W', Stp [] W [] W' → Calls Tryd.prog 14 #[.pointer (some ⟨s, 0, none⟩), .int .i64 (i : Int)] W' (Tells (.tuple #[.string x, .int .i64 0]) W')) ∧
      (∀ W', Stp [] W [] W' → Calls Tryd.prog 28 #[.slice a n c] W' (Tells (.string x) W'))) := Lib.hid fun i hi => by
    obtain ⟨a, n, c, x, hu, h1, h2⟩ := both_row h hl hr i hi
    exact ⟨a, n, c, x, fun W' hs => (hr.stays hs).cell hv hu, h1, h2⟩
  have hC : ∀ W', Stp [] W [] W' → Stp [] W [] W' ∧ W'.cell? ⟨m, 0, none⟩ = some (.slice (some ⟨R, 0, none⟩) (rowsL l).length cap) ∧ W'.cell? ⟨m, 1, none⟩ = some (.int .i64 ((seen l).up.length : Int)) ∧ W'.cell? ⟨m, 2, none⟩ = some (.int .i64 ((seen l).col : Int)) ∧ W'.cell? ⟨m, 3, none⟩ = some (.int .i64 ((seen l).bells : Int)) ∧
      W'.cell? ⟨m, 4, none⟩ = some (.bool (seen l).pa) ∧ W'.cell? ⟨m, 5, none⟩ = some (.int .i64 ((seen l).odd : Int)) := fun W' hs => by
    have q := hr.stays hs
    exact ⟨hs, by rw [q.c0, hv, hN], q.c1, q.c2, q.c3, q.c4, q.c5⟩
  have hNb : (rowsL l).length ≤ 1501 := by have := hO.rows; omega
  clear h hr hO hBR hRlt hRne hRC hown hcapR hv hN hl
  generalize (rowsL l).length = N at *
  generalize ((seen l).up.length : Int) = k0 at *
  generalize ((seen l).col : Int) = col at *
  generalize ((seen l).bells : Int) = be at *
  generalize (seen l).pa = pa at *
  generalize ((seen l).odd : Int) = od at *
  have hP := Lib.hid hC
  clear hC
  have hNz : (N : Int) ≤ 1501 := by omega
  go_enter Tryd.func12, Tryd.ntmps12
  go_wp2_with fail
  refine KP.out.mono ?_
  rintro _ w1 ⟨rfl, s1⟩
  clear KP
  have hcur := hP.out w1.drew (s1.trans (Stp.drew [] w1))
  go_wp2_with fail
  go_region_held (fun W' => Stp [] W [] W' ∧ W'.cell? ⟨m, 0, none⟩ = some (.slice (some ⟨R, 0, none⟩) N cap) ∧ W'.cell? ⟨m, 1, none⟩ = some (.int .i64 k0) ∧ W'.cell? ⟨m, 2, none⟩ = some (.int .i64 col) ∧ W'.cell? ⟨m, 3, none⟩ = some (.int .i64 be) ∧ W'.cell? ⟨m, 4, none⟩ = some (.bool pa) ∧ W'.cell? ⟨m, 5, none⟩ = some (.int .i64 od)) (first | exact hcur | assumption)
    (first
      | (go_at_call 16; (with_reducible refine (K1.out _ hcur.1).mono ?_); rintro _ wa ⟨rfl, q⟩; replace hcur := hP.out _ (hcur.1.trans q); clear q)
      | (go_at_call 17; (with_reducible refine (K2.out _ hcur.1).mono ?_); rintro _ wb ⟨rfl, q⟩; replace hcur := hP.out _ (hcur.1.trans q); clear q)
      | (go_at_call 18; (with_reducible refine (K3.out _ hcur.1).mono ?_); rintro _ wc ⟨rfl, q⟩; replace hcur := hP.out _ (hcur.1.trans q); clear q)
      | (go_at_call 19; (with_reducible refine (K4.out _ hcur.1).mono ?_); rintro _ wd ⟨rfl, q⟩; replace hcur := hP.out _ (hcur.1.trans q); clear q))
  have HQ : Aside (Stp [] W [] wd) := hcur.1
  have e0 := hcur.2.1
  clear hcur K1 K2 K3 K4 s1
  go_wp2_with fail
  go_loopg [76] N (fun gk vi wr => ∃ i : Nat, vi = .int .i64 (i : Int) ∧ i ≤ N ∧ N - i ≤ gk ∧ Aside (Stp [] W [] wr))
  case atStart => exact ⟨0, rfl, by omega, by omega, HQ.out⟩
  case round =>
    obtain ⟨i, rfl, hi, hg, HS⟩ := hrel
    by_cases hlt : i < N
    · have hltz : (i : Int) < (N : Int) := by omega
      have hiz : (i : Int) ≤ 1501 := by omega
      obtain ⟨a, n, c, x, q1, q2, q3⟩ := K7.out i hlt
      have cR := q1 wr HS.out
      have KR := Lib.hid q2
      have KT := Lib.hid q3
      clear q1 q2 q3
      go_wp2_with fail
      refine (KR.out _ HS.out).mono ?_
      rintro _ w2 ⟨rfl, s2⟩
      replace s2 := HS.out.trans s2
      go_wp2_with fail
      refine (KT.out _ s2).mono ?_
      rintro _ w3 ⟨rfl, s3⟩
      have HJ : Aside (Stp [] W [] w3) := s2.trans s3
      clear KR KT HS s2 s3 cR
      go_wp2_with fail
      go_roundg (N - (i + 1))
      case measure => omega
      case rel => exact ⟨i + 1, by go_num, by omega, by omega, HJ.out⟩
    · have hltz : ¬ (i : Int) < (N : Int) := by omega
      have e1 := (hP.out wr HS.out).2.1
      go_wp2_with fail
      refine (K5.out _ HS.out).mono ?_
      rintro _ w2 ⟨rfl, s2⟩
      replace s2 := HS.out.trans s2
      go_wp2_with fail
      refine (K6.out _ s2).mono ?_
      rintro _ w3 ⟨rfl, s3⟩
      have HJ : Aside (Stp [] W [] w3) := s2.trans s3
      clear HS s2 s3 e1
      go_wp2_with fail
      go_ret
      exact ⟨by simp, HJ.out⟩
end
end Go.Proofs.YtdaenaoagejgeaaDoor
/-
  The walk of ScreenShows.
-/
namespace Go.Proofs.YtdaenaoagejgeaaDoor
open Go.RowKit Go.Lib
set_option linter.unusedVariables false

/-- How many bytes there are. -/
def total (L : List Sb) : Nat := (L.map (fun y => y.x.length)).sum
theorem total_snoc (L : List Sb) (k : Nat) (hk : k < L.length) : total (L.take (k + 1)) = total (L.take k) + (L[k]!).x.length := by
  unfold total
  rw [List.take_succ_eq_append_getElem hk, getElem!_pos L k hk, List.map_append, List.sum_append, List.map_cons, List.map_nil, List.sum_cons, List.sum_nil, Nat.add_zero]
theorem total_le (L : List Sb) (h : ∀ y ∈ L, y.x.length ≤ 140737488355328) : total L ≤ L.length * 140737488355328 := by
  unfold total
  induction L with
  | nil => simp
  | cons y L ih =>
    have h1 := ih (fun z hz => h z (List.mem_cons_of_mem _ hz))
    have h2 := h y (by simp)
    simp only [List.map_cons, List.sum_cons, List.length_cons]
    omega
/-- All bytes of pieces. -/
def cat (L : List Sb) : List UInt8 := L.flatMap Sb.x
theorem cat_snoc (L : List Sb) (k : Nat) (hk : k < L.length) : cat (L.take (k + 1)) = cat (L.take k) ++ (L[k]!).x := by
  unfold cat
  rw [List.take_succ_eq_append_getElem hk, getElem!_pos L k hk, List.flatMap_append, List.flatMap_cons, List.flatMap_nil, List.append_nil]
theorem cat_len (L : List Sb) : (cat L).length = total L := by
  unfold cat total
  rw [List.length_flatMap]
theorem total_mono (L : List Sb) (k : Nat) : total (L.take k) ≤ total L := by
  have e : L = L.take k ++ L.drop k := (List.take_append_drop k L).symm
  unfold total
  conv => rhs; rw [e]
  rw [List.map_append, List.sum_append]
  omega

theorem wpList_app2 {w : World} {ops : Array Oper} {rest : List Oper} {o : Oper} {a : Act} {Q : Exit → Act → World → Prop} (hgd : o.guard = none) (s x : Operand)
    (ho : o.op = .call { callee := .builtin .append, args := #[s, x], argTypes := #[25, 25] }) (base : Nat) (v : Value) (xs : List UInt8) (hs : a.eval s = v) (hown : Own w base v xs)
    (A : Option Addr) (c n : Nat) (l : List UInt8) (hn : n = l.length) (hx : a.eval x = .slice A n c) (hl : Bts w A l) (hA : A = none → c = 0) (h63 : xs.length + l.length ≤ 1000000) (hbase : base ≤ w.heap.size)
    (h : ∀ v' w', Own w' base v' (xs ++ l) → Stp v.ownBlock.toList w [] w' → (v'.ownBlock = v.ownBlock ∨ v'.ownBlock = some w.heap.size) → wpList Tryd.prog ops Q rest (a.put o.dst v') w') : wpList Tryd.prog ops Q (o :: rest) a w := by
  subst hn
  refine wpList_plain hgd fun K hK => ?_
  obtain ⟨v', w', hrun, h2, h3, h4⟩ := run_app o.type hown hl hA h63 hbase
  have hs3 : Stp v.ownBlock.toList w [] w' := ⟨h3.os, h3.tape, h3.output, h3.size, fun k hk hF => h3.block k hk (fun e => hF (by rw [← e]; simp)), fun _ g => by cases g⟩
  unfold Oper.wp execOp
  simp only [ho, resolve, invoke, builtin, Sem.run_bind, Sem.run_pure, Result.andThen_ok, List.map_toArray, List.map_cons, List.map_nil, hs, hx, hrun]
  exact hK _ _ (h v' w' h2 hs3 h4)
/-- What stands in a round: the screen, and all that it was fed. -/
def ShR (w wr : World) (s : Nat) (A : List UInt8) (v : Value) : Prop := ∃ F, Ks w wr s F A ∧ Own wr w.heap.size v A ∧ ∀ k, v.ownBlock = some k → k ∉ F
set_option maxHeartbeats 4000000 in
set_option maxRecDepth 100000 in
theorem shows_walk (a0 : Option Addr) (cap0 n : Nat) (L : List Sb) (w : World) (hb : Ss w a0 L) (hn : n = L.length) (hnn : L.length ≤ 9223372036854775807) (hsz : ∀ y ∈ L, y.x.length ≤ 140737488355328 ∧ (y.p = none → y.cap = 0)) (hT : Tabs w) :
    Calls Tryd.prog 3 #[.slice a0 n cap0] w (Tells (.bool true) w) := by
  have HT : Aside (Tabs w ∧ Ss w a0 L ∧ n = L.length ∧ n ≤ 9223372036854775807 ∧ (∀ y ∈ L, y.x.length ≤ 140737488355328 ∧ (y.p = none → y.cap = 0))) := ⟨hT, hb, hn, by rw [hn]; exact hnn, hsz⟩
  have K1 := Lib.hid (knew_run (Stp.refl [] w))
  clear hT hb hn hnn hsz
  by_cases hL : n ≤ 60
  · have hLz : ¬ (60 : Int) < (n : Int) := by omega
    have hnz : (n : Int) ≤ 60 := by omega
    go_enter Tryd.func3, Tryd.ntmps3
    go_wp2_with fail
    refine K1.out.mono ?_
    rintro _ w1 ⟨s, F, rfl, k1, hF, t1⟩
    have H1 : Aside (Ks w w1 s F []) := k1
    clear K1 k1 hF t1
    go_wp2_with fail
    go_loopg [4, 13] n (fun gk v4 vi wr => ∃ k t : Nat, vi = .int .i64 (k : Int) ∧ v4 = .int .i64 (t : Int) ∧ k ≤ n ∧ n - k ≤ gk ∧ t ≤ 8444249301319680 ∧ Aside (wr = w1 ∧ t = total (L.take k)))
    case atStart => exact ⟨0, 0, rfl, rfl, by omega, by omega, by omega, rfl, by simp [total]⟩
    case round =>
      obtain ⟨k, t, rfl, rfl, hk, hg, ht, HS⟩ := hrel
      obtain rfl : wr = w1 := HS.out.1
      by_cases hlt : k < n
      · have hltz : (k : Int) < (n : Int) := by omega
        have hkl : k < L.length := by rw [← HT.out.2.2.1]; exact hlt
        obtain ⟨bb, off, rfl, hbb, hc⟩ := HT.out.2.1 (by intro e; rw [e] at hkl; simp at hkl)
        have hc0 := (H1.out.stp.cell (a := ⟨bb, off + k, none⟩) hbb (by simp)).trans (hc k hkl).1
        have HT1 : Aside (total (L.take (k + 1)) = t + (L[k]!).x.length) := by
          show total (L.take (k + 1)) = t + (L[k]!).x.length
          rw [total_snoc L k hkl, HS.out.2]
        have HT2 : Aside (total (L.take (k + 1)) ≤ 8444249301319680) := by
          have h1 := total_le (L.take (k + 1)) (fun y hy => (HT.out.2.2.2.2 y (List.mem_of_mem_take hy)).1)
          have h2 : (L.take (k + 1)).length ≤ 60 := by rw [List.length_take]; omega
          show total (L.take (k + 1)) ≤ 8444249301319680
          omega
        have hx : (L[k]!).x.length ≤ 140737488355328 := (HT.out.2.2.2.2 _ (by rw [getElem!_pos L k hkl]; exact List.getElem_mem hkl)).1
        generalize (L[k]!).x.length = xl at *
        generalize (L[k]!).p = yp at *
        generalize (L[k]!).cap = yc at *
        clear hc hkl
        go_wp2_with fail
        go_roundg (n - (k + 1))
        case measure => omega
        case rel => exact ⟨k + 1, t + xl, by go_num, by go_num, by omega, by omega, by have h1 := HT1.out; have h2 := HT2.out; omega, rfl, HT1.out.symm⟩
      · have hltz : ¬ (k : Int) < (n : Int) := by omega
        have HG : Aside (t = total L) := by
          have h1 := HS.out.2
          rw [List.take_of_length_le (by have := HT.out.2.2.1; omega)] at h1
          exact h1
        have KA := Lib.hid (alive_run wr (H1.out.tabs HT.out.1))
        clear HS
        go_wp2_with fail
        refine KA.out.mono ?_
        rintro _ w2 ⟨rfl, s2⟩
        have H2 : Aside (Ks w w2 s F []) := H1.out.stays s2
        clear KA H1 s2
        by_cases hgt : t ≤ 1500
        · have hgtz : ¬ (1500 : Int) < (t : Int) := by omega
          have H3 : Aside (ShR w w2 s [] (.slice none 0 0)) := ⟨F, H2.out, Own.nil _ _, fun k hk => by cases hk⟩
          clear H2
          have hG15 : total L ≤ 1500 := by have := HG.out; omega
          have HG2 := Lib.hid hG15
          clear hG15 HG
          go_wp2_with fail
          go_loopg [7, 40] n (fun gk v7 vi wr => ∃ k : Nat, vi = .int .i64 (k : Int) ∧ k ≤ n ∧ n - k ≤ gk ∧ Aside (ShR w wr s (cat (L.take k)) v7))
          case atStart => exact ⟨0, rfl, by omega, by omega, H3.out⟩
          case round =>
            obtain ⟨k, rfl, hk, hg, HS⟩ := hrel
            by_cases hlt : k < n
            · have hltz : (k : Int) < (n : Int) := by omega
              have hkl : k < L.length := by rw [← HT.out.2.2.1]; exact hlt
              obtain ⟨F1, q1, q2, q3⟩ := HS.out
              obtain ⟨bb, off, rfl, hbb, hc⟩ := HT.out.2.1 (by intro e; rw [e] at hkl; simp at hkl)
              have hcell : wr.cell? ⟨bb, off + k, none⟩ = some (.slice (L[k]!).p (L[k]!).x.length (L[k]!).cap) := (q1.stp.cell (a := ⟨bb, off + k, none⟩) hbb (by simp)).trans (hc k hkl).1
              have hby := (hc k hkl).2.1
              have hnc : (L[k]!).p = none → (L[k]!).cap = 0 := (HT.out.2.2.2.2 _ (by rw [getElem!_pos L k hkl]; exact List.getElem_mem hkl)).2
              have HN := Lib.hid (cat_snoc L k hkl)
              have HLE : Aside ((cat (L.take (k + 1))).length ≤ 1500) := by
                have h1 := total_mono L (k + 1)
                have h2 := HG2.out
                show (cat (L.take (k + 1))).length ≤ 1500
                rw [cat_len]
                omega
              rw [HN.out] at HLE
              generalize L[k]! = y at *
              obtain ⟨py, cy, x⟩ := y
              simp only at hcell hby hnc
              have HY : Aside (Bts w py x ∧ (py = none → cy = 0)) := ⟨hby, hnc⟩
              generalize cat (L.take k) = A at *
              have H4 : Aside (Ks w wr s F1 A ∧ Own wr w.heap.size u7 A ∧ ∀ k, u7.ownBlock = some k → k ∉ F1) := ⟨q1, q2, q3⟩
              clear hc hby hnc q1 q2 q3 HS
              have KF := Lib.hid (H4.out.1.feed HT.out.1 py x.length cy x (HY.out.1.stays H4.out.1.stp) rfl HY.out.2 (by have := HLE.out; simp only [List.length_append] at this; omega))
              go_wp2_with fail
              refine KF.out.mono ?_
              rintro _ w4 ⟨rfl, F2, k4, t4⟩
              have H5 : Aside (Ks w w4 s F2 (A ++ x) ∧ Own w4 w.heap.size u7 A ∧ ∀ k, u7.ownBlock = some k → k ∉ F2) := by
                obtain ⟨r1, r2, r3⟩ := H4.out
                refine ⟨k4, r2.other t4 r3, fun k hk hj => ?_⟩
                rcases t4.foot k hj with g | g
                · exact r3 k hk g
                · have := (r2.lt k hk).2
                  omega
              clear KF H4 k4 t4 hcell
              go_wp2_with (at_builtin; go_loud (refine wpList_app2 rfl (.tmp 48) (.tmp 49) rfl w.heap.size u7 A rfl H5.out.2.1 py cy x.length x rfl rfl (HY.out.1.stays H5.out.1.stp) HY.out.2 (by have := HLE.out; simp only [List.length_append] at this; omega) H5.out.1.stp.size ?_); intro v5 w5 hrow hs5 hbl5; obtain ⟨a5, c5, ev, hb5, h05, hc5, hm5, _⟩ := hrow.form; subst ev)
              have H6 : Aside (Ks w w5 s F2 (A ++ x) ∧ Own w5 w.heap.size (.slice a5 (A ++ x).length c5) (A ++ x) ∧ ∀ k, (Value.slice a5 (A ++ x).length c5).ownBlock = some k → k ∉ F2) := by
                obtain ⟨r1, r2, r3⟩ := H5.out
                refine ⟨r1.other hs5 (fun j hj => (r2.lt j (by simpa using hj)).1) (fun j hj hk => r3 j (by simpa using hk) hj), hrow, fun k hk hj => ?_⟩
                rcases hbl5 with e | e
                · exact r3 k (e ▸ hk) hj
                · rw [e] at hk
                  cases hk
                  have := r1.lt _ hj
                  omega
              have hlen : (A ++ x).length = A.length + x.length := List.length_append
              have KR : Hid (Calls Tryd.prog 13 #[.slice a5 (A.length + x.length) c5] w5 (RdTo (A ++ x) w5)) := Lib.hid (rread_run a5 _ c5 (A ++ x) w5 hb5 hlen.symm (by omega) hm5 HLE.out)
              clear hrow hs5 hbl5 hb5 h05 hc5 hm5 H5
              refine KR.out.mono ?_
              rintro _ w6 ⟨m, vm, vsm, rfl, hrf, s6⟩
              have H7 : Aside (Ks w w6 s F2 (A ++ x) ∧ Own w6 w.heap.size (.slice a5 (A ++ x).length c5) (A ++ x)) := ⟨H6.out.1.stays s6, H6.out.2.1.other s6 (fun _ _ h => by cases h)⟩
              have KS := Lib.hid (same14_run H7.out.1.sc HLE.out hrf)
              clear KR hrf s6
              go_wp2_with fail
              refine KS.out.mono ?_
              rintro _ w7 ⟨rfl, s7⟩
              have H8 : Aside (Ks w w7 s F2 (A ++ x) ∧ Own w7 w.heap.size (.slice a5 (A ++ x).length c5) (A ++ x)) := ⟨H7.out.1.stays s7, H7.out.2.other s7 (fun _ _ h => by cases h)⟩
              clear KS s7 H7
              go_wp2_with fail
              go_roundg (n - (k + 1))
              case measure => omega
              case rel =>
                refine ⟨k + 1, by go_num, by omega, by omega, ?_⟩
                rw [HN.out]
                refine ⟨F2, H8.out.1, ?_, ?_⟩
                · first | exact H8.out.2 | (have q := H8.out.2; rw [hlen] at q; exact q)
                · first | exact H6.out.2.2 | (have q := H6.out.2.2; rw [hlen] at q; exact q)
            · have hltz : ¬ (k : Int) < (n : Int) := by omega
              obtain ⟨F1, q1, _⟩ := HS.out
              have HZ := Lib.hid q1.stp
              clear HS q1
              go_wp2
              go_ret
              exact ⟨rfl, HZ.out⟩
        · have hgtz : (1500 : Int) < (t : Int) := by omega
          have KA := Lib.hid (alive_run w2 (H2.out.tabs HT.out.1))
          go_wp2_with fail
          refine KA.out.mono ?_
          rintro _ w3 ⟨rfl, s3⟩
          go_wp2
          go_ret
          exact ⟨rfl, H2.out.stp.trans s3⟩
  · have hLz : (60 : Int) < (n : Int) := by omega
    have hnz : (n : Int) ≤ 9223372036854775807 := by have := HT.out.2.2.2.1; omega
    go_enter Tryd.func3, Tryd.ntmps3
    go_wp2_with fail
    refine K1.out.mono ?_
    rintro _ w1 ⟨s, F, rfl, k1, hF, t1⟩
    have H1 : Aside (Ks w w1 s F []) := k1
    clear K1 k1 hF t1
    go_wp2_with fail
    go_loopg [4, 13] n (fun gk v4 vi wr => ∃ (k : Nat) (t : Int), vi = .int .i64 (k : Int) ∧ v4 = .int .i64 t ∧ k ≤ n ∧ n - k ≤ gk ∧ Aside (wr = w1))
    case atStart => exact ⟨0, 0, rfl, rfl, by omega, by omega, rfl⟩
    case round =>
      obtain ⟨k, t, rfl, rfl, hk, hg, HS⟩ := hrel
      obtain rfl : wr = w1 := HS.out
      by_cases hlt : k < n
      · have hltz : (k : Int) < (n : Int) := by omega
        have hkl : k < L.length := by rw [← HT.out.2.2.1]; exact hlt
        obtain ⟨bb, off, rfl, hbb, hc⟩ := HT.out.2.1 (by intro e; rw [e] at hkl; simp at hkl)
        have hc0 := (H1.out.stp.cell (a := ⟨bb, off + k, none⟩) hbb (by simp)).trans (hc k hkl).1
        generalize (L[k]!).x.length = xl at *
        generalize (L[k]!).p = yp at *
        generalize (L[k]!).cap = yc at *
        clear hc hkl
        go_wp2_with fail
        go_roundg (n - (k + 1))
        case measure => omega
        case rel => exact ⟨k + 1, _, by go_num, rfl, by omega, by omega, rfl⟩
      · have hltz : ¬ (k : Int) < (n : Int) := by omega
        have KA := Lib.hid (alive_run wr (H1.out.tabs HT.out.1))
        clear HS
        go_wp2_with fail
        refine KA.out.mono ?_
        rintro _ w2 ⟨rfl, s2⟩
        have H2 : Aside (Ks w w2 s F []) := H1.out.stays s2
        have KA := Lib.hid (alive_run w2 (H2.out.tabs HT.out.1))
        clear H1 s2
        go_wp2_with fail
        refine KA.out.mono ?_
        rintro _ w3 ⟨rfl, s3⟩
        go_wp2
        go_ret
        exact ⟨rfl, H2.out.stp.trans s3⟩
end Go.Proofs.YtdaenaoagejgeaaDoor
