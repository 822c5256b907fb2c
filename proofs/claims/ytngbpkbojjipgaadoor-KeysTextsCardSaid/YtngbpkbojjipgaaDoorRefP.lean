/-
  What the document reads of a text, without memory.
-/
import Derived.Test.YtngbpkbojjipgaaDoorRefE
import Derived.Test.YtngbpkbojjipgaaDoorReadK
namespace Go.Proofs.YtngbpkbojjipgaaDoor
open Go.RowKit Go.Lib
set_option linter.unusedVariables false

theorem dvr_ten {c : UInt8} {d : Nat} (h : dvr 10 c = some d) : d < 10 ∧ c = dch d := by
  unfold dvr at h
  split at h
  · cases h
  · split at h
    · cases h
      rename_i h1 h2
      refine ⟨by omega, ?_⟩
      rw [dch_ofNat (by omega)]
      apply UInt8.toNat_inj.1
      rw [UInt8.toNat_ofNat', Nat.mod_eq_of_lt (by omega)]
      omega
    · split at h
      · cases h
      · split at h
        · cases h
          omega
        · cases h
theorem nu_sound : ∀ (l : List UInt8) (acc v : Nat), 0 < acc → nu 10 acc l = some v → dig 10 v = dig 10 acc ++ l
  | [], acc, v, _, h => by
    simp only [nu, Option.some.injEq] at h
    rw [h]
    simp
  | c :: r, acc, v, ha, h => by
    simp only [nu] at h
    split at h
    · cases h
    · rename_i d hd
      obtain ⟨h1, rfl⟩ := dvr_ten hd
      rw [nu_sound r (10 * acc + d) v (by omega) h, dig_ge (by omega) (by omega), show (10 * acc + d) / 10 = acc by omega, show (10 * acc + d) % 10 = d by omega]
      simp
theorem rnum_sound {most v : Nat} {l : List UInt8} (h : rnum 10 most l = some v) : dig 10 v = l := by
  unfold rnum at h
  split at h
  · cases h
  · rename_i hb
    cases l with
    | nil => exact absurd (.inl rfl) hb
    | cons c r =>
      simp only [nu] at h
      split at h
      · cases h
      · rename_i d hd
        obtain ⟨h1, rfl⟩ := dvr_ten hd
        rcases Nat.eq_zero_or_pos d with e | e
        · subst e
          have hr : r = [] := by
            rcases Classical.em (r = []) with g | g
            · exact g
            · exact absurd (.inr (.inr ⟨by rfl, by intro q; simp at q; exact g q.2⟩)) hb
          subst hr
          simp only [nu, Option.some.injEq] at h
          rw [← h, dig_lt (by omega)]
        · rw [nu_sound r (10 * 0 + d) v (by omega) h, dig_lt (by omega)]
          simp
theorem cutc_glue (c : UInt8) : ∀ l, (cutc c l).2.2 = true → l = (cutc c l).1 ++ c :: (cutc c l).2.1
  | [], h => by simp [cutc] at h
  | x :: l, h => by
    by_cases e : x = c
    · simp [cutc, e]
    · rw [cutc, if_neg e] at h ⊢
      simp only at h ⊢
      rw [List.cons_append, ← cutc_glue c l h]
theorem cutc_whole (c : UInt8) : ∀ l, (cutc c l).2.2 = false → (cutc c l).1 = l
  | [], _ => rfl
  | x :: l, h => by
    by_cases e : x = c
    · simp [cutc, e] at h
    · rw [cutc, if_neg e] at h ⊢
      simp only at h ⊢
      rw [cutc_whole c l h]
theorem spl_one {c : UInt8} {l b : List UInt8} (h : spl c l = [b]) : l = b := by
  rw [cutc_spl] at h
  cases e : (cutc c l).2.2 with
  | true =>
    rw [e] at h
    have := spl_ne c (cutc c l).2.1
    simp at h
    exact absurd h.2 this
  | false =>
    rw [e] at h
    simp at h
    rw [← h, cutc_whole c l e]
theorem spl_two {c : UInt8} {l a b : List UInt8} (h : spl c l = [a, b]) : l = a ++ c :: b := by
  rw [cutc_spl] at h
  cases e : (cutc c l).2.2 with
  | true =>
    rw [e] at h
    simp at h
    rw [cutc_glue c l e, h.1, spl_one h.2]
  | false =>
    rw [e] at h
    simp at h
theorem ktx_other {k : Nat} (h : k ≠ 0) (c : Nat) : ktx k c = kn k := by unfold ktx; rw [if_neg h]
theorem ktx_rune (c : Nat) : ktx 0 c = kn 0 ++ 32 :: dig 10 c := rfl
theorem rkv_name {i : Nat} (h0 : i ≠ 0) (h : i < 16) : rkv (kn i) = .tuple #[kv (i : Int) 0, .int .i64 0] := by
  have := rkv_text (k := i) (c := 0) (chk_other h0 h)
  rwa [ktx_other h0] at this
/-- No name, and not two parts the first of which is rune. -/
theorem rkv_none2 {l : List UInt8} (hn : ∀ i, i < 16 → i ≠ 0 → kn i ≠ l) (h : ∀ b, spl 32 l = [kn 0, b] → ∀ v, rnum 10 7 b = some v → shown (v : Int) = false) : rkv l = .tuple #[kv 0 0, .int .i64 8] := by
  refine rkv_no fun k c hc e => ?_
  obtain ⟨n, m, e1, e2, hk, h0, _⟩ := chk_zero hc
  obtain rfl : k = n := by omega
  obtain rfl : c = m := by omega
  by_cases g : k = 0
  · subst g
    subst e
    have hs := h (dig 10 c) (by rw [ktx_rune, spl_app _ (kn_all 0 (by omega)).2.1, spl_none (dig_no (by omega) (by omega) c).1]) c (rnum_dig (.inl rfl) (dig7 (h0 rfl).2))
    rw [(h0 rfl).1] at hs
    cases hs
  · rw [ktx_other g] at e
    exact hn k hk g e
theorem rkv_rune {l b : List UInt8} {v : Nat} (hs : spl 32 l = [kn 0, b]) (hv : rnum 10 7 b = some v) (hw : shown (v : Int) = true) : rkv l = .tuple #[kv 0 (v : Int), .int .i64 0] := by
  have e : l = ktx 0 v := by
    rw [spl_two hs, ktx_rune, rnum_sound hv]
  rw [e]
  exact rkv_text (k := 0) (c := v) (chk_rune hw)
end Go.Proofs.YtngbpkbojjipgaaDoor
