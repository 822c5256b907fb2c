/-
  The bits of a number as the model has them, as plain numbers.
-/
import Derived.Test.YthfiilhbgogoaaaGreatDoorBase
import Derived.Laws.Closers25b
namespace Go.Proofs.YthfiilhbgogoaaaGreatDoor
open Go.RowKit Go.Lib
set_option linter.unusedVariables false

def ban (a b : Nat) : Nat := (BitVec.ofNat 32 a &&& ~~~ BitVec.ofNat 32 b).toNat
theorem ofInt_nat (k n : Nat) : BitVec.ofInt k (n : Int) = BitVec.ofNat k n := by
  apply BitVec.eq_of_toNat_eq
  simp
theorem wrap_u32_nat {n : Nat} (h : n < 4294967296) : IntKind.u32.wrap (n : Int) = n := by
  rw [IntKind.wrap_u32]
  omega
theorem bits_and {a b : Nat} (ha : a < 4294967296) (hb : b < 4294967296) : bits .and .u32 (a : Int) (b : Int) = ((a &&& b : Nat) : Int) := by
  show IntKind.u32.wrap (((BitVec.ofInt 32 (a : Int) &&& BitVec.ofInt 32 (b : Int)).toNat : Nat) : Int) = _
  rw [ofInt_nat, ofInt_nat, BitVec.toNat_and, BitVec.toNat_ofNat, BitVec.toNat_ofNat, Nat.mod_eq_of_lt ha, Nat.mod_eq_of_lt hb, wrap_u32_nat (Nat.lt_of_le_of_lt Nat.and_le_left ha)]
theorem bits_or {a b : Nat} (ha : a < 4294967296) (hb : b < 4294967296) : bits .or .u32 (a : Int) (b : Int) = ((a ||| b : Nat) : Int) := by
  show IntKind.u32.wrap (((BitVec.ofInt 32 (a : Int) ||| BitVec.ofInt 32 (b : Int)).toNat : Nat) : Int) = _
  rw [ofInt_nat, ofInt_nat, BitVec.toNat_or, BitVec.toNat_ofNat, BitVec.toNat_ofNat, Nat.mod_eq_of_lt ha, Nat.mod_eq_of_lt hb, wrap_u32_nat (Nat.or_lt_two_pow (n := 32) ha hb)]
theorem ban_lt (a b : Nat) : ban a b < 4294967296 := (BitVec.ofNat 32 a &&& ~~~ BitVec.ofNat 32 b).isLt
theorem bits_ban (a b : Nat) : bits .andNot .u32 (a : Int) (b : Int) = (ban a b : Int) := by
  show IntKind.u32.wrap (((BitVec.ofInt 32 (a : Int) &&& ~~~ BitVec.ofInt 32 (b : Int)).toNat : Nat) : Int) = _
  rw [ofInt_nat, ofInt_nat, wrap_u32_nat (BitVec.isLt _)]
  rfl
theorem ban_bit (a b i : Nat) (hi : i < 32) : (ban a b).testBit i = (a.testBit i && !b.testBit i) := by
  unfold ban
  rw [BitVec.testBit_toNat]
  simp only [BitVec.getLsbD_and, BitVec.getLsbD_not, BitVec.getLsbD_ofNat, hi, decide_true, Bool.true_and]
theorem ban_big (a b i : Nat) (hi : 32 ≤ i) : (ban a b).testBit i = false := Nat.testBit_lt_two_pow (Nat.lt_of_lt_of_le (ban_lt a b) (Nat.pow_le_pow_right (by omega) hi : 2 ^ 32 ≤ 2 ^ i))
theorem low_bit {n i : Nat} (h : n < 4294967296) (hi : 32 ≤ i) : n.testBit i = false := Nat.testBit_lt_two_pow (Nat.lt_of_lt_of_le h (Nat.pow_le_pow_right (by omega) hi : 2 ^ 32 ≤ 2 ^ i))

/-- lower: the bit 32 set. -/
theorem lower_all : ∀ n : Nat, n < 256 → bits .or .u8 (n : Int) 32 = (((UInt8.ofNat n) ||| 32).toNat : Int) := by decide +kernel
theorem lower_eq (c : UInt8) : bits .or .u8 (c.toNat : Int) 32 = ((c ||| 32).toNat : Int) := by
  have := lower_all c.toNat c.toNat_lt
  simpa using this

/-! ### The flags' bits -/
theorem hi_testBit (f i j : Nat) : (hi f i).testBit j = (decide (i ≤ j) && f.testBit j) := by
  unfold hi
  rw [Nat.mul_comm, Nat.testBit_two_pow_mul]
  by_cases h : i ≤ j
  · simp only [h, decide_true, Bool.true_and]
    rw [Nat.testBit_div_two_pow]
    congr 1
    omega
  · simp [h]
theorem hi_and (f i : Nat) : hi f i &&& 2 ^ i = if f.testBit i then 2 ^ i else 0 := by
  apply Nat.eq_of_testBit_eq
  intro j
  rw [Nat.testBit_and, hi_testBit, Nat.testBit_two_pow]
  by_cases h : i = j
  · subst h
    cases e : f.testBit i <;> simp
  · cases e : f.testBit i <;> simp [h]
theorem hi_le (f i : Nat) : hi f i ≤ f := by
  unfold hi
  exact Nat.div_mul_le_self f (2 ^ i)
theorem hi_ban {f i : Nat} (hf : f < 4294967296) (hi32 : i < 32) : ban (hi f i) (2 ^ i) = hi f (i + 1) := by
  apply Nat.eq_of_testBit_eq
  intro j
  rw [hi_testBit]
  rcases Nat.lt_or_ge j 32 with h | h
  · rw [ban_bit _ _ _ h, hi_testBit, Nat.testBit_two_pow]
    rcases Nat.lt_trichotomy i j with g | g | g
    · have h1 : i ≤ j := by omega
      have h2 : i + 1 ≤ j := by omega
      have h3 : ¬ i = j := by omega
      simp [h1, h2, h3]
    · subst g
      have h2 : ¬ i + 1 ≤ i := by omega
      simp [h2]
    · have h1 : ¬ i ≤ j := by omega
      have h2 : ¬ i + 1 ≤ j := by omega
      simp [h1, h2]
  · rw [ban_big _ _ _ h, low_bit hf h]
    simp
theorem hi_skip {f i : Nat} (h : f.testBit i = false) : hi f i = hi f (i + 1) := by
  rw [hi_bit, h]
  simp
end Go.Proofs.YthfiilhbgogoaaaGreatDoor
