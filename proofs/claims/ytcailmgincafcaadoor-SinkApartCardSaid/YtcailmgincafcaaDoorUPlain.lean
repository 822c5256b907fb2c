/-
  Plain arithmetic of characters in bytes: what the first character of n bytes is, or why there is none. No program stands in this text.
-/
import Derived.Lib.DecodeNEq
namespace Go.Proofs.YtcailmgincafcaaDoor.U
open Go.Lib

/-- The least and the greatest second byte behind a first one. -/
def loB (a : Nat) : Nat := if a = 224 then 160 else if a = 240 then 144 else 128
def hiB (a : Nat) : Nat := if a = 237 then 159 else if a = 244 then 143 else 191
/-- How many bytes a first byte asks for; 0: it is none. -/
def szB (b : Nat) : Nat := if b < 128 then 1 else if b < 194 then 0 else if b < 224 then 2 else if b < 240 then 3 else if b < 245 then 4 else 0

/-- The character that n bytes begin with (b0, b1, b2, b3 are the first of them), for how many bytes, and the error. -/
def nextN (n b0 b1 b2 b3 : Nat) : Nat × Nat × Nat :=
  if n = 0 then (0, 0, 6)
  else if szB b0 = 0 then (0, 1, 8)
  else if szB b0 = 1 then (b0, 1, 0)
  else if n = 1 then (0, 1, 7)
  else if b1 < loB b0 ∨ hiB b0 < b1 then (0, 1, 8)
  else if szB b0 = 2 then (b0 % 32 * 64 + b1 % 64, 2, 0)
  else if n = 2 then (0, 2, 7)
  else if b2 < 128 ∨ 191 < b2 then (0, 2, 8)
  else if szB b0 = 3 then (b0 % 16 * 4096 + b1 % 64 * 64 + b2 % 64, 3, 0)
  else if n = 3 then (0, 3, 7)
  else if b3 < 128 ∨ 191 < b3 then (0, 3, 8)
  else (b0 % 8 * 262144 + b1 % 64 * 4096 + b2 % 64 * 64 + b3 % 64, 4, 0)

/-- Whether k bytes are no mere beginning. -/
def fullN (k b0 b1 b2 : Nat) : Bool :=
  decide (k ≠ 0 ∧ (szB b0 ≤ k ∨ (1 < k ∧ (b1 < loB b0 ∨ hiB b0 < b1)) ∨ (2 < k ∧ (b2 < 128 ∨ 191 < b2))))

/-- How many of n bytes are a beginning, at most: the first length k for which k + 1 bytes are none, or n. -/
def begN (n b0 b1 b2 : Nat) : Nat :=
  if n = 0 ∨ fullN 1 b0 b1 b2 = true then 0
  else if n = 1 ∨ fullN 2 b0 b1 b2 = true then 1
  else if n = 2 ∨ fullN 3 b0 b1 b2 = true then 2
  else 3

theorem szB_le (b : Nat) : szB b ≤ 4 := by
  unfold szB
  repeat' split
  all_goals omega

theorem begN_le (n b0 b1 b2 : Nat) : begN n b0 b1 b2 ≤ 3 ∧ begN n b0 b1 b2 ≤ n := by
  unfold begN
  repeat' split
  all_goals simp_all
  all_goals omega

theorem full4 (b0 b1 b2 : Nat) : fullN 4 b0 b1 b2 = true := by
  have := szB_le b0
  simp [fullN]
  omega

/-- At the end of the search either all n bytes are passed, or the next length is no beginning. -/
theorem begN_end (n b0 b1 b2 : Nat) (h : begN n b0 b1 b2 < n) : fullN (begN n b0 b1 b2 + 1) b0 b1 b2 = true := by
  have h4 := full4 b0 b1 b2
  unfold begN at h ⊢
  by_cases h1 : n = 0 ∨ fullN 1 b0 b1 b2 = true
  · rw [if_pos h1] at h ⊢
    rcases h1 with h1 | h1
    · omega
    · exact h1
  · rw [if_neg h1] at h ⊢
    by_cases h2 : n = 1 ∨ fullN 2 b0 b1 b2 = true
    · rw [if_pos h2] at h ⊢
      rcases h2 with h2 | h2
      · omega
      · exact h2
    · rw [if_neg h2] at h ⊢
      by_cases h3 : n = 2 ∨ fullN 3 b0 b1 b2 = true
      · rw [if_pos h3] at h ⊢
        rcases h3 with h3 | h3
        · omega
        · exact h3
      · rw [if_neg h3]
        exact h4

/-- Ahead of its end the search goes on. -/
theorem begN_on (n b0 b1 b2 k : Nat) (h : k < begN n b0 b1 b2) : fullN (k + 1) b0 b1 b2 = false := by
  unfold begN at h
  by_cases h1 : n = 0 ∨ fullN 1 b0 b1 b2 = true
  · rw [if_pos h1] at h; omega
  · rw [if_neg h1] at h
    simp only [not_or, Bool.not_eq_true] at h1
    by_cases h2 : n = 1 ∨ fullN 2 b0 b1 b2 = true
    · rw [if_pos h2] at h
      obtain rfl : k = 0 := by omega
      exact h1.2
    · rw [if_neg h2] at h
      simp only [not_or, Bool.not_eq_true] at h2
      by_cases h3 : n = 2 ∨ fullN 3 b0 b1 b2 = true
      · rw [if_pos h3] at h
        have : k = 0 ∨ k = 1 := by omega
        rcases this with rfl | rfl
        · exact h1.2
        · exact h2.2
      · rw [if_neg h3] at h
        simp only [not_or, Bool.not_eq_true] at h3
        have : k = 0 ∨ k = 1 ∨ k = 2 := by omega
        rcases this with rfl | rfl | rfl
        · exact h1.2
        · exact h2.2
        · exact h3.2

/-- Go's decoder by the same three numbers of the first byte. -/
theorem dec_eq (n b0 b1 b2 b3 : Nat) (hn : 1 ≤ n) (h1 : b1 < 256) (h2 : b2 < 256) (h3 : b3 < 256) :
    decodeN n b0 b1 b2 b3 = if szB b0 = 0 then (65533, 1) else if szB b0 = 1 then (b0, 1) else slowN n b0 b1 b2 b3 (szB b0) (loB b0) (hiB b0) := by
  have key : ∀ s l h, szB b0 = s → loB b0 = l → hiB b0 = h → 2 ≤ s → slowN n b0 b1 b2 b3 s l h = decodeN n b0 b1 b2 b3 →
      decodeN n b0 b1 b2 b3 = if szB b0 = 0 then (65533, 1) else if szB b0 = 1 then (b0, 1) else slowN n b0 b1 b2 b3 (szB b0) (loB b0) (hiB b0) := by
    intro s l h e1 e2 e3 e4 e5
    rw [e1, e2, e3, if_neg (by omega), if_neg (by omega), e5]
  by_cases c0 : b0 < 128
  · have e : szB b0 = 1 := by simp [szB, c0]
    rw [e, if_neg (by omega), if_pos rfl]
    simp [decodeN, c0]
  · by_cases c1 : b0 < 194 ∨ 245 ≤ b0
    · have e : szB b0 = 0 := by
        unfold szB
        repeat' split
        all_goals omega
      rw [e, if_pos rfl]
      unfold decodeN
      rw [if_neg c0]
      repeat' split
      all_goals first | rfl | (exfalso; omega)
    · by_cases c2 : b0 < 224
      · exact key 2 128 191 (by unfold szB; (repeat' split) <;> omega) (by unfold loB; (repeat' split) <;> omega) (by unfold hiB; (repeat' split) <;> omega) (by omega) (slow_C2 n b0 b1 b2 b3 hn h1 h2 h3 (by omega))
      · by_cases c3 : b0 = 224
        · exact key 3 160 191 (by subst c3; rfl) (by subst c3; rfl) (by subst c3; rfl) (by omega) (slow_E0 n b0 b1 b2 b3 hn h1 h2 h3 c3)
        · by_cases c4 : b0 = 237
          · exact key 3 128 159 (by subst c4; rfl) (by subst c4; rfl) (by subst c4; rfl) (by omega) (slow_ED n b0 b1 b2 b3 hn h1 h2 h3 c4)
          · by_cases c5 : b0 < 240
            · exact key 3 128 191 (by unfold szB; (repeat' split) <;> omega) (by unfold loB; (repeat' split) <;> omega) (by unfold hiB; (repeat' split) <;> omega) (by omega) (slow_E1 n b0 b1 b2 b3 hn h1 h2 h3 (by omega))
            · by_cases c6 : b0 = 240
              · exact key 4 144 191 (by subst c6; rfl) (by subst c6; rfl) (by subst c6; rfl) (by omega) (slow_F0 n b0 b1 b2 b3 hn h1 h2 h3 c6)
              · by_cases c7 : b0 = 244
                · exact key 4 128 143 (by subst c7; rfl) (by subst c7; rfl) (by subst c7; rfl) (by omega) (slow_F4 n b0 b1 b2 b3 hn h1 h2 h3 c7)
                · exact key 4 128 191 (by unfold szB; (repeat' split) <;> omega) (by unfold loB; (repeat' split) <;> omega) (by unfold hiB; (repeat' split) <;> omega) (by omega) (slow_F1 n b0 b1 b2 b3 hn h1 h2 h3 (by omega))

/-- Where Go's decoder gives a character (U+FFFD of three bytes among them), it is the first one. -/
theorem dec_yes (n b0 b1 b2 b3 : Nat) (hn : 1 ≤ n) (h1 : b1 < 256) (h2 : b2 < 256) (h3 : b3 < 256)
    (h : (decodeN n b0 b1 b2 b3).1 ≠ 65533 ∨ 1 < (decodeN n b0 b1 b2 b3).2) : nextN n b0 b1 b2 b3 = ((decodeN n b0 b1 b2 b3).1, (decodeN n b0 b1 b2 b3).2, 0) := by
  rw [dec_eq n b0 b1 b2 b3 hn h1 h2 h3] at h ⊢
  have hs := szB_le b0
  unfold nextN slowN at *
  generalize szB b0 = s at *
  generalize loB b0 = lo at *
  generalize hiB b0 = hi at *
  rcases (by omega : s = 0 ∨ s = 1 ∨ s = 2 ∨ s = 3 ∨ s = 4) with rfl | rfl | rfl | rfl | rfl
  · simp at h
  · simp; omega
  all_goals simp only [Nat.reduceEqDiff, if_false, Nat.reduceLeDiff, if_true] at h ⊢
  all_goals rw [if_neg (by omega)]
  all_goals repeat' split at h
  all_goals first
    | (exfalso; omega)
    | (exfalso; simp at h; done)
    | ((repeat' split) <;> first | rfl | (exfalso; omega))

/-- The same over the three numbers of the first byte as variables. -/
theorem no_core (n s v2 v3 v4 : Nat) (hn : 1 ≤ n) (h2s : 2 ≤ s) (hs : s ≤ 4) (P1 P2 P3 : Prop) [Decidable P1] [Decidable P2] [Decidable P3]
    (h : (n < s ∨ P1) ∨ (2 < s ∧ P2) ∨ (3 < s ∧ P3)) (B : Nat)
    (hB : B = if n = 0 ∨ s ≤ 1 then 0 else if n = 1 ∨ (s ≤ 2 ∨ P1) then 1 else if n = 2 ∨ (s ≤ 3 ∨ P1 ∨ P2) then 2 else 3) :
    (if n = 1 then (0, 1, 7) else if P1 then (0, 1, 8) else if s = 2 then (v2, 2, 0) else if n = 2 then (0, 2, 7) else if P2 then (0, 2, 8) else if s = 3 then (v3, 3, 0) else if n = 3 then (0, 3, 7) else if P3 then (0, 3, 8) else (v4, 4, 0) : Nat × Nat × Nat) =
      (0, if B = n then n else max B 1, if B = n then 7 else 8) := by
  have n0 : ¬ n = 0 := by omega
  rcases (by omega : s = 2 ∨ s = 3 ∨ s = 4) with rfl | rfl | rfl <;> by_cases n1 : n = 1 <;> by_cases n2 : n = 2 <;> by_cases n3 : n = 3 <;> by_cases p1 : P1 <;> by_cases p2 : P2 <;> by_cases p3 : P3 <;>
    simp [n0, n1, n2, n3, p1, p2, p3] at h hB ⊢ <;> subst hB <;> (repeat' split) <;> omega

/-- Else the search for the longest beginning tells how many bytes, and the error. -/
theorem dec_no (n b0 b1 b2 b3 : Nat) (hn : 1 ≤ n) (h0 : b0 < 256) (h1 : b1 < 256) (h2 : b2 < 256) (h3 : b3 < 256)
    (h : ¬ ((decodeN n b0 b1 b2 b3).1 ≠ 65533 ∨ 1 < (decodeN n b0 b1 b2 b3).2)) :
    nextN n b0 b1 b2 b3 = (0, if begN n b0 b1 b2 = n then n else max (begN n b0 b1 b2) 1, if begN n b0 b1 b2 = n then 7 else 8) := by
  rw [dec_eq n b0 b1 b2 b3 hn h1 h2 h3] at h
  have hs := szB_le b0
  by_cases c0 : szB b0 = 0
  · have e : begN n b0 b1 b2 = 0 := by simp [begN, fullN, c0]
    rw [e, if_neg (by omega), if_neg (by omega)]
    simp [nextN, c0]
    omega
  · by_cases c1 : szB b0 = 1
    · rw [if_neg c0, if_pos c1] at h
      simp at h
      omega
    · rw [if_neg c0, if_neg c1] at h
      unfold nextN
      rw [if_neg (by omega), if_neg c0, if_neg c1]
      refine no_core n (szB b0) _ _ _ hn (by omega) hs _ _ _ ?_ _ ?_
      · unfold slowN at h
        generalize szB b0 = s at *
        generalize loB b0 = lo at *
        generalize hiB b0 = hi at *
        repeat' split at h
        all_goals first
          | (exfalso; simp at h; done)
          | omega
      · unfold begN fullN
        generalize szB b0 = s at *
        generalize loB b0 = lo at *
        generalize hiB b0 = hi at *
        simp

end Go.Proofs.YtcailmgincafcaaDoor.U
