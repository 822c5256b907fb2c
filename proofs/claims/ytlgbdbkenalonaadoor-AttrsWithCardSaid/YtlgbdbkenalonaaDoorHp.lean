/-
  Flags that are set, and with and without flags: plain facts.
-/
import Derived.Test.YtlgbdbkenalonaaDoorWith
namespace Go.Proofs.YtlgbdbkenalonaaDoor
open Go.RowKit Go.Lib
set_option linter.unusedVariables false

/-- Are all bits of n set in f? -/
def hs (f n : Nat) : Bool := decide (f &&& n = n)
theorem hs_iff {f n : Nat} : hs f n = true ↔ ∀ i, n.testBit i = true → f.testBit i = true := by
  unfold hs
  rw [decide_eq_true_iff]
  constructor
  · intro e i hi
    rw [← e, Nat.testBit_and] at hi
    exact (Bool.and_eq_true_iff.1 hi).1
  · intro h
    apply Nat.eq_of_testBit_eq
    intro i
    rw [Nat.testBit_and]
    cases e : n.testBit i
    · simp
    · simp [h i e]
theorem hs_congr {f g n : Nat} (h : ∀ i, n.testBit i = true → f.testBit i = g.testBit i) : hs f n = hs g n := by
  rw [Bool.eq_iff_iff, hs_iff, hs_iff]
  constructor
  · intro k i hi
    rw [← h i hi]
    exact k i hi
  · intro k i hi
    rw [h i hi]
    exact k i hi
theorem ban_of {a b i : Nat} (h : (ban a b).testBit i = true) : i < 32 ∧ a.testBit i = true ∧ b.testBit i = false := by
  rcases Nat.lt_or_ge i 32 with g | g
  · rw [ban_bit _ _ _ g] at h
    simp at h
    exact ⟨g, h⟩
  · rw [ban_big _ _ _ g] at h
    cases h
theorem with_a (f k : Nat) : hs (f ||| k) k = true := hs_iff.2 fun i hi => by rw [Nat.testBit_or, hi]; simp
theorem with_b {f k : Nat} (hk : k < 4294967296) (h : k ≠ 0) : hs (ban f k) k = false := by
  cases e : hs (ban f k) k
  · rfl
  · exfalso
    have := hs_iff.1 e
    apply h
    apply Nat.eq_of_testBit_eq
    intro i
    cases g : k.testBit i
    · simp
    · have := (ban_of (this i g)).2.2
      rw [g] at this
      cases this
theorem with_c (f k n : Nat) : hs (f ||| k) (ban n k) = hs f (ban n k) := hs_congr fun i hi => by
  rw [Nat.testBit_or, (ban_of hi).2.2]
  simp
theorem with_d (f k n : Nat) : hs (ban f k) (ban n k) = hs f (ban n k) := hs_congr fun i hi => by
  have := ban_of hi
  rw [ban_bit _ _ _ this.1, this.2.2]
  simp
theorem with_e (f k : Nat) : wth (f ||| k) k true = f ||| k := by
  show (f ||| k) ||| k = f ||| k
  rw [Nat.or_assoc, Nat.or_self]
theorem with_f (f k : Nat) : wth (f ||| k) k false = ban f k := by
  show ban (f ||| k) k = ban f k
  apply Nat.eq_of_testBit_eq
  intro j
  rcases Nat.lt_or_ge j 32 with h | h
  · rw [ban_bit _ _ _ h, ban_bit _ _ _ h, Nat.testBit_or]
    cases f.testBit j <;> cases k.testBit j <;> rfl
  · rw [ban_big _ _ _ h, ban_big _ _ _ h]

theorem hs_step {f n i : Nat} (h : ∀ j, j < i → n.testBit j = true → f.testBit j = true) (hb : n.testBit i = true → f.testBit i = true) : ∀ j, j < i + 1 → n.testBit j = true → f.testBit j = true := fun j hj hn => by
  rcases Nat.lt_or_ge j i with g | g
  · exact h j g hn
  · obtain rfl : j = i := by omega
    exact hb hn
theorem hs_end {f n : Nat} (hn : n < 4294967296) (h : ∀ j, j < 32 → n.testBit j = true → f.testBit j = true) : hs f n = true := hs_iff.2 fun i hi => by
  rcases Nat.lt_or_ge i 32 with g | g
  · exact h i g hi
  · rw [low_bit hn g] at hi
    cases hi
theorem hs_no {f n i : Nat} (h1 : n.testBit i = true) (h2 : f.testBit i = false) : hs f n = false := by
  cases e : hs f n
  · rfl
  · have := hs_iff.1 e i h1
    rw [h2] at this
    cases this
theorem wth_bit {f k i : Nat} (on : Bool) (hi : i < 32) : (wth f k on).testBit i = ((k.testBit i && on) || (!k.testBit i && f.testBit i)) := by
  cases on
  · show (ban f k).testBit i = _
    rw [ban_bit _ _ _ hi]
    cases f.testBit i <;> cases k.testBit i <;> rfl
  · show (f ||| k).testBit i = _
    rw [Nat.testBit_or]
    cases f.testBit i <;> cases k.testBit i <;> rfl
theorem mod_step (x i : Nat) : x % 2 ^ (i + 1) = x % 2 ^ i + (if x.testBit i then 2 ^ i else 0) := by
  rw [Nat.mod_pow_succ, Nat.testBit_eq_decide_div_mod_eq]
  by_cases h : x / 2 ^ i % 2 = 1
  · simp [h]
  · have h0 : x / 2 ^ i % 2 = 0 := by omega
    simp [h0]

end Go.Proofs.YtlgbdbkenalonaaDoor
