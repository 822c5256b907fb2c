/-
  Keys without memory: their names, what they are told by, their texts, and what is read of a text.
-/
import Derived.Test.YthffjcacdcipeaaDoorOwn
namespace Go.Proofs.YthffjcacdcipeaaDoor.K
open Go.Lib
set_option linter.unusedVariables false

/-- May a number be shown? -/
def shown (c : Int) : Bool := decide ((0 ≤ c ∧ c ≤ 1114111 ∧ ¬ (55296 ≤ c ∧ c ≤ 57343)) ∧ 32 ≤ c ∧ ¬ (127 ≤ c ∧ c ≤ 159))
theorem shown_nat {c : Int} (h : shown c = true) : ∃ n : Nat, c = (n : Int) ∧ n ≤ 1114111 := by
  have := of_decide_eq_true h
  exact ⟨c.toNat, by omega, by omega⟩

def kns : List (List UInt8) := [[114, 117, 110, 101], [101, 110, 116, 101, 114], [98, 97, 99, 107], [100, 101, 108, 101, 116, 101], [108, 101, 102, 116], [114, 105, 103, 104, 116], [104, 111, 109, 101], [108, 97, 115, 116], [107, 105, 108, 108, 115, 116, 97, 114, 116], [107, 105, 108, 108, 101, 110, 100], [114, 101, 100, 114, 97, 119], [99, 97, 110, 99, 101, 108], [101, 111, 102], [112, 97, 115, 116, 101, 115, 116, 97, 114, 116], [112, 97, 115, 116, 101, 101, 110, 100], [105, 103, 110, 111, 114, 101, 100]]
/-- A kind's name. -/
def kn (i : Nat) : List UInt8 := kns[i]?.getD []
def kts : List (List UInt8) := [[], [13], [127], [27, 91, 51, 126], [2], [6], [1], [5], [21], [11], [12], [3], [4], [27, 91, 50, 48, 48, 126], [27, 91, 50, 48, 49, 126], [0]]
/-- What a key of a kind is told by, but for a Rune. -/
def kt (i : Nat) : List UInt8 := kts[i]?.getD []
theorem kn_all : ∀ i, i < 16 → kn i ≠ [] ∧ 32 ∉ kn i ∧ (kn i).length ≤ 10 := by decide
theorem kn_inj : ∀ i, i < 16 → ∀ j, j < 16 → kn i = kn j → i = j := by decide +kernel
theorem kt_inj : ∀ i, i < 16 → ∀ j, j < 16 → kt i = kt j → i = j := by decide +kernel
theorem kt_len : ∀ i, i < 16 → (kt i).length ≤ 6 := by decide

/-- The kind of a number that may not be shown. -/
def kof (c : Int) : Nat := if c = 1 then 6 else if c = 2 then 4 else if c = 3 then 11 else if c = 4 then 12 else if c = 5 then 7 else if c = 6 then 5 else if c = 8 then 2 else if c = 10 then 1 else if c = 11 then 9 else if c = 12 then 10 else if c = 13 then 1 else if c = 21 then 8 else if c = 127 then 2 else 15
theorem kof_pos (c : Int) : 0 < kof c ∧ kof c < 16 := by
  have e : ∀ (p : Prop) [Decidable p] (a b : Nat), (0 < a ∧ a < 16) → (0 < b ∧ b < 16) → 0 < (if p then a else b) ∧ (if p then a else b) < 16 := by
    intro p _ a b ha hb
    split
    · exact ha
    · exact hb
  unfold kof
  exact e _ _ _ (by decide) (e _ _ _ (by decide) (e _ _ _ (by decide) (e _ _ _ (by decide) (e _ _ _ (by decide) (e _ _ _ (by decide) (e _ _ _ (by decide) (e _ _ _ (by decide) (e _ _ _ (by decide) (e _ _ _ (by decide) (e _ _ _ (by decide) (e _ _ _ (by decide) (e _ _ _ (by decide) (by decide)))))))))))))
/-- The error of a key that there isn't, or 0. -/
def chk (k c : Int) : Nat := if k < 0 ∨ 15 < k then 9 else if (k = 0 ∧ shown c = false) ∨ (k ≠ 0 ∧ c ≠ 0) then 2 else 0
theorem chk_zero {k c : Int} (h : chk k c = 0) : ∃ n m : Nat, k = (n : Int) ∧ c = (m : Int) ∧ n < 16 ∧ (n = 0 → shown (m : Int) = true ∧ m ≤ 1114111) ∧ (n ≠ 0 → m = 0) := by
  unfold chk at h
  split at h
  · cases h
  · split at h
    · cases h
    · rename_i h1 h2
      rcases Classical.em (k = 0) with e | e
      · have hs : shown c = true := by
          cases hc : shown c
          · exact absurd (.inl ⟨e, hc⟩) h2
          · rfl
        obtain ⟨m, rfl, hm⟩ := shown_nat hs
        exact ⟨0, m, e, rfl, by omega, fun _ => ⟨hs, hm⟩, fun h => absurd rfl h⟩
      · have hc : c = 0 := by
          rcases Classical.em (c = 0) with g | g
          · exact g
          · exact absurd (.inr ⟨e, g⟩) h2
        exact ⟨k.toNat, 0, by omega, by omega, by omega, fun h => by omega, fun _ => rfl⟩
theorem chk_rune {c : Int} (h : shown c = true) : chk 0 c = 0 := by
  unfold chk
  rw [if_neg (by omega), if_neg (by simp [h])]
theorem chk_other {k : Nat} (h0 : k ≠ 0) (h : k < 16) : chk (k : Int) 0 = 0 := by
  unfold chk
  rw [if_neg (by omega), if_neg (by omega)]
end Go.Proofs.YthffjcacdcipeaaDoor.K
