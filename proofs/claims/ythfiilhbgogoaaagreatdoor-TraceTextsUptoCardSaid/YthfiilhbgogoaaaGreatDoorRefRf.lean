/-
  What the document reads of a line, without memory: the numbers and the pieces.
-/
import Derived.Test.YthfiilhbgogoaaaGreatDoorRefN
import Derived.Test.YthfiilhbgogoaaaGreatDoorNum
import Derived.Test.YthfiilhbgogoaaaGreatDoorSplit
namespace Go.Proofs.YthfiilhbgogoaaaGreatDoor
open Go.RowKit Go.Lib
set_option linter.unusedVariables false

/-! ### Numbers -/
theorem dvr_ten {c : UInt8} {d : Nat} (h : dvr 10 c = some d) : d < 10 ∧ c = dch d := by
  unfold dvr at h
  split at h
  · cases h
  · split at h
    · cases h
      rename_i h1 h2
      refine ⟨by omega, ?_⟩
      rw [dch_ofNat (by omega)]
      apply UInt8.toNat_inj.1
      rw [UInt8.toNat_ofNat', Nat.mod_eq_of_lt (by omega)]
      omega
    · split at h
      · cases h
      · split at h
        · cases h
          omega
        · cases h
theorem nu_sound : ∀ (l : List UInt8) (acc v : Nat), 0 < acc → nu 10 acc l = some v → dig 10 v = dig 10 acc ++ l
  | [], acc, v, _, h => by
    simp only [nu, Option.some.injEq] at h
    rw [h]
    simp
  | c :: r, acc, v, ha, h => by
    simp only [nu] at h
    split at h
    · cases h
    · rename_i d hd
      obtain ⟨h1, rfl⟩ := dvr_ten hd
      rw [nu_sound r (10 * acc + d) v (by omega) h, dig_ge (by omega) (by omega), show (10 * acc + d) / 10 = acc by omega, show (10 * acc + d) % 10 = d by omega]
      simp
theorem rnum_sound {most v : Nat} {l : List UInt8} (h : rnum 10 most l = some v) : dig 10 v = l := by
  unfold rnum at h
  split at h
  · cases h
  · rename_i hb
    cases l with
    | nil => exact absurd (.inl rfl) hb
    | cons c r =>
      simp only [nu] at h
      split at h
      · cases h
      · rename_i d hd
        obtain ⟨h1, rfl⟩ := dvr_ten hd
        rcases Nat.eq_zero_or_pos d with e | e
        · subst e
          have hr : r = [] := by
            rcases Classical.em (r = []) with g | g
            · exact g
            · exact absurd (.inr (.inr ⟨by rfl, by intro q; simp at q; exact g q.2⟩)) hb
          subst hr
          simp only [nu, Option.some.injEq] at h
          rw [← h, dig_lt (by omega)]
        · rw [nu_sound r (10 * 0 + d) v (by omega) h, dig_lt (by omega)]
          simp
theorem rnum_short {b most v : Nat} {l : List UInt8} (h : rnum b most l = some v) : l.length ≤ most := by
  unfold rnum at h
  split at h
  · cases h
  · rename_i hb
    exact Nat.le_of_not_lt fun h2 => hb (.inr (.inl h2))
theorem digitVal_dch : ∀ d, d < 10 → Lib.digitVal (dch d) = some d := by decide
theorem dch_sign : ∀ d, d < 10 → (dch d == 45) = false ∧ (dch d == 43) = false := by decide
theorem decFrom_dig (n : Nat) : Lib.decFrom 0 (dig 10 n) = some n := by
  induction n using Nat.strongRecOn with
  | _ n ih =>
    by_cases h : n < 10
    · rw [dig_lt h]
      simp [Lib.decFrom, digitVal_dch n h]
    · rw [dig_ge (by omega) (by omega)]
      have h1 := ih (n / 10) (by omega)
      have h2 := Lib.decFrom_take (dig 10 (n / 10) ++ [dch (n % 10)]) (dig 10 (n / 10)).length 0 (n / 10) (dch (n % 10)) (n % 10) (by simpa using h1) (by simp) (digitVal_dch _ (Nat.mod_lt _ (by omega)))
      rw [List.take_of_length_le (by simp)] at h2
      rw [h2]
      congr 1
      omega
theorem atoi_dig (n : Nat) : Lib.atoi (dig 10 n) = some (n : Int) := by
  have h := decFrom_dig n
  cases e : dig 10 n with
  | nil => exact absurd e (dig_ne _ _)
  | cons c r =>
    obtain ⟨d, hd, rfl⟩ := dig_mem (b := 10) (by omega) (by omega) n c (by rw [e]; simp)
    rw [e] at h
    obtain ⟨h1, h2⟩ := dch_sign d hd
    simp [Lib.atoi, h1, h2, Lib.decNat, h]
/-- A count, as the program reads it, is one as the document does. -/
theorem num_rnum (s : List UInt8) : num s = rnum 10 18 s := by
  cases e : rnum 10 18 s with
  | some v =>
    have h1 := rnum_sound e
    have h2 := rnum_short e
    subst h1
    unfold num
    rw [if_neg (by omega), atoi_dig]
    simp
  | none =>
    unfold num
    by_cases h : 18 < s.length
    · rw [if_pos h]
    · rw [if_neg h]
      cases ha : Lib.atoi s with
      | none => rfl
      | some z =>
        simp only
        by_cases hz : z < 0 ∨ dig 10 z.toNat ≠ s
        · rw [if_pos hz]
        · have h3 : dig 10 z.toNat = s := Classical.byContradiction fun g => hz (.inr g)
          have h4 := rnum_dig (b := 10) (most := 18) (n := z.toNat) (.inl rfl) (by rw [h3]; omega)
          rw [h3, e] at h4
          cases h4

/-! ### Pieces -/
theorem spl_glue (c : UInt8) : ∀ l, Lib.join (spl c l) [c] = l
  | [] => by simp [spl, Lib.join_one]
  | x :: l => by
    have ih := spl_glue c l
    unfold spl
    cases e : spl c l with
    | nil => exact absurd e (spl_ne c l)
    | cons h t =>
      rw [e] at ih
      by_cases g : x = c
      · rw [if_pos g, join_cons2, ih, g]
        rfl
      · rw [if_neg g]
        cases t with
        | nil =>
          rw [Lib.join_one] at ih
          simp only [Lib.join_one]
          rw [ih]
        | cons y r =>
          rw [join_cons2] at ih
          simp only
          rw [join_cons2, List.cons_append, ih]
/-- The pieces, at most n + 1, of all the pieces. -/
theorem splN_few : ∀ (n : Nat) (l : List UInt8), (spl 32 l).length ≤ n + 1 → splN n l = spl 32 l
  | 0, l, h => by
    rw [cutc_spl] at h ⊢
    by_cases e : (cutc 32 l).2.2 = true
    · rw [if_pos e] at h
      have := spl_ne 32 (cutc 32 l).2.1
      cases e2 : spl 32 (cutc 32 l).2.1 with
      | nil => exact absurd e2 this
      | cons a t => rw [e2] at h; simp at h
    · have e' : (cutc 32 l).2.2 = false := by simpa using e
      rw [if_neg e]
      rcases cutc_index 32 l with ⟨_, h2⟩ | ⟨i, _, _, h2⟩
      · rw [h2]; rfl
      · rw [h2] at e'; cases e'
  | n + 1, l, h => by
    rw [cutc_spl] at h ⊢
    unfold splN
    by_cases e : (cutc 32 l).2.2 = true
    · rw [if_pos e] at h ⊢
      rw [if_pos e, splN_few n _ (by simpa using h)]
    · rw [if_neg e, if_neg e]
      rcases cutc_index 32 l with ⟨_, h2⟩ | ⟨i, _, _, h2⟩
      · rw [h2]
      · rw [h2] at e; exact absurd rfl e
/-- More pieces than n + 1: the first n, and the rest, where a space stands. -/
theorem splN_more : ∀ (n : Nat) (l : List UInt8), n + 1 < (spl 32 l).length → splN n l = (spl 32 l).take n ++ [Lib.join ((spl 32 l).drop n) [32]]
  | 0, l, h => by
    simp only [splN, List.take_zero, List.nil_append, List.drop_zero]
    rw [spl_glue 32 l]
  | n + 1, l, h => by
    unfold splN
    rw [cutc_spl] at h ⊢
    by_cases e : (cutc 32 l).2.2 = true
    · rw [if_pos e] at h ⊢
      rw [if_pos e, splN_more n _ (by simpa using h)]
      simp
    · rw [if_neg e] at h
      simp at h
end Go.Proofs.YthfiilhbgogoaaaGreatDoor
