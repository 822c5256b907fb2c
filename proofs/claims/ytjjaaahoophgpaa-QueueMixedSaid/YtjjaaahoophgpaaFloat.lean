/-
  The order of two words of float64, by their bits alone; the key, the place and the kind of a moment as functions of its bits.
-/
import Ieee.Arith
import GoSem.Claim
namespace Go.Proofs.Ytjjaaahoophgpaa
set_option linter.unusedVariables false

/-- Whether a word is no number. -/
def nanN (a : Nat) : Bool := decide (9218868437227405312 < a % 9223372036854775808)
/-- The rung with its sign. -/
def sval (a : Nat) : Int := if a < 9223372036854775808 then (a : Int) else -((a - 9223372036854775808 : Nat) : Int)

/-- The magnitude of a rung, in units of the least place. -/
def magv (r : Nat) : Nat := if r < 2 ^ 52 then r else (2 ^ 52 + r % 2 ^ 52) * 2 ^ (r / 2 ^ 52 - 1)

theorem magv_lt {r s : Nat} (h : r < s) : magv r < magv s := by
  unfold magv
  obtain ⟨B, hB⟩ : ∃ B : Nat, B = 2 ^ 52 := ⟨_, rfl⟩
  have hp : 0 < B := by rw [hB]; exact Nat.two_pow_pos _
  rw [← hB]
  have hr := Nat.div_add_mod r B
  have hs := Nat.div_add_mod s B
  have hx := Nat.mod_lt r hp
  have hy := Nat.mod_lt s hp
  have hq : r / B ≤ s / B := Nat.div_le_div_right (Nat.le_of_lt h)
  by_cases h1 : s < B
  · rw [if_pos h1, if_pos (by omega)]
    exact h
  · rw [if_neg h1]
    have hpow : 0 < 2 ^ (s / B - 1) := Nat.two_pow_pos _
    by_cases h2 : r < B
    · rw [if_pos h2]
      exact Nat.lt_of_lt_of_le (by omega : r < (B + s % B) * 1) (Nat.mul_le_mul_left _ hpow)
    · rw [if_neg h2]
      have hq1 : 1 ≤ r / B := (Nat.one_le_div_iff hp).2 (by omega)
      rcases Nat.lt_or_eq_of_le hq with hlt | heq
      · have h3 : (B + r % B) * 2 ^ (r / B - 1) < (2 * B) * 2 ^ (r / B - 1) := Nat.mul_lt_mul_of_pos_right (by omega) (Nat.two_pow_pos _)
        have h4 : (2 * B) * 2 ^ (r / B - 1) = B * 2 ^ (r / B) := by
          have : 2 ^ (r / B) = 2 ^ (r / B - 1) * 2 := by rw [← Nat.pow_succ]; congr 1; omega
          rw [this, Nat.mul_comm 2 B, Nat.mul_assoc, Nat.mul_comm 2]
        have h5 : B * 2 ^ (r / B) ≤ B * 2 ^ (s / B - 1) := Nat.mul_le_mul_left _ (Nat.pow_le_pow_right (by omega) (by omega))
        have h6 : B * 2 ^ (s / B - 1) ≤ (B + s % B) * 2 ^ (s / B - 1) := Nat.mul_le_mul_right _ (by omega)
        omega
      · rw [heq]
        have : r % B < s % B := by
          rw [heq] at hr
          omega
        exact Nat.mul_lt_mul_of_pos_right (by omega) hpow
theorem magv_inj {r s : Nat} (h : magv r = magv s) : r = s := by
  rcases Nat.lt_trichotomy r s with g | g | g
  · have := magv_lt g; omega
  · exact g
  · have := magv_lt g; omega
theorem magv_lt_iff {r s : Nat} : magv r < magv s ↔ r < s := by
  refine ⟨fun h => ?_, magv_lt⟩
  rcases Nat.lt_trichotomy r s with g | g | g
  · exact g
  · subst g; omega
  · have := magv_lt g; omega

theorem cmp_same {x y u v : Int} (h1 : x < y ↔ u < v) (h2 : x = y ↔ u = v) : compare x y = compare u v := by
  show compareOfLessAndEq x y = compareOfLessAndEq u v
  unfold compareOfLessAndEq
  simp only [h1, h2]

/-- What a word stands for, and the magnitude. -/
theorem read_num {a : Nat} (ha : a < 2 ^ 64) (hn : a % 9223372036854775808 < 9218868437227405312) :
    ∃ m p, Ieee.double.read a = .number (decide (9223372036854775808 ≤ a)) m (Ieee.double.leastPlace + (p : Nat)) ∧ m * 2 ^ p = magv (a % 9223372036854775808) := by
  have es : Ieee.double.signWeight = 9223372036854775808 := by decide
  have eb : Ieee.double.binade = 2 ^ 52 := rfl
  have ei : Ieee.double.infRung = 9218868437227405312 := by decide
  have hneg : (a / 9223372036854775808 % 2 == 1) = decide (9223372036854775808 ≤ a) := by
    by_cases h : 9223372036854775808 ≤ a
    · simp only [h, decide_true]; simp only [beq_iff_eq]; omega
    · simp only [h, decide_false]; simp only [beq_eq_false_iff_ne]; omega
  unfold Ieee.Format.read
  rw [es, eb, ei]
  dsimp only
  rw [hneg]
  by_cases h : a % 9223372036854775808 < 2 ^ 52
  · rw [if_pos h]
    exact ⟨a % 9223372036854775808, 0, by simp, by unfold magv; rw [if_pos h]; simp⟩
  · rw [if_neg h, if_pos hn]
    exact ⟨_, _, rfl, by unfold magv; rw [if_neg h]⟩
theorem read_inf {a : Nat} (ha : a < 2 ^ 64) (hn : a % 9223372036854775808 = 9218868437227405312) : Ieee.double.read a = .infinity (decide (9223372036854775808 ≤ a)) := by
  have es : Ieee.double.signWeight = 9223372036854775808 := by decide
  have eb : Ieee.double.binade = 2 ^ 52 := rfl
  have ei : Ieee.double.infRung = 9218868437227405312 := by decide
  have hneg : (a / 9223372036854775808 % 2 == 1) = decide (9223372036854775808 ≤ a) := by
    by_cases h : 9223372036854775808 ≤ a
    · simp only [h, decide_true]; simp only [beq_iff_eq]; omega
    · simp only [h, decide_false]; simp only [beq_eq_false_iff_ne]; omega
  unfold Ieee.Format.read
  rw [es, eb, ei]
  dsimp only
  rw [hneg, if_neg (by omega), if_neg (by omega), if_pos hn]
theorem read_nan {a : Nat} (hn : 9218868437227405312 < a % 9223372036854775808) : ∃ s f, Ieee.double.read a = .nan s f := by
  have es : Ieee.double.signWeight = 9223372036854775808 := by decide
  have eb : Ieee.double.binade = 2 ^ 52 := rfl
  have ei : Ieee.double.infRung = 9218868437227405312 := by decide
  unfold Ieee.Format.read
  rw [es, eb, ei]
  dsimp only
  rw [if_neg (by omega), if_neg (by omega), if_neg (by omega)]
  exact ⟨_, _, rfl⟩

theorem signed_mul (s : Bool) (m u k : Nat) : Ieee.signed s m u * 2 ^ k = (if s then -((m * 2 ^ (u + k) : Nat) : Int) else ((m * 2 ^ (u + k) : Nat) : Int)) := by
  unfold Ieee.signed
  rw [Nat.shiftLeft_eq]
  cases s
  · simp [Nat.pow_add, Int.mul_assoc]
  · simp [Nat.pow_add, Int.mul_assoc, Int.neg_mul]

theorem order_num (s t : Bool) (m n p q : Nat) (L : Int) :
    Ieee.Datum.order (.number s m (L + (p : Nat))) (.number t n (L + (q : Nat))) = some (compare (if s then -((m * 2 ^ p : Nat) : Int) else ((m * 2 ^ p : Nat) : Int)) (if t then -((n * 2 ^ q : Nat) : Int) else ((n * 2 ^ q : Nat) : Int))) := by
  unfold Ieee.Datum.order
  dsimp only
  have e1 : (L + (p : Int) - min (L + (p : Int)) (L + (q : Int))).toNat = p - min p q := by omega
  have e2 : (L + (q : Int) - min (L + (p : Int)) (L + (q : Int))).toNat = q - min p q := by omega
  rw [e1, e2]
  have hk : (0 : Int) < 2 ^ (min p q) := by exact_mod_cast Nat.two_pow_pos (min p q)
  have x1 := signed_mul s m (p - min p q) (min p q)
  have x2 := signed_mul t n (q - min p q) (min p q)
  rw [Nat.sub_add_cancel (Nat.min_le_left _ _)] at x1
  rw [Nat.sub_add_cancel (Nat.min_le_right _ _)] at x2
  rw [← x1, ← x2]
  congr 1
  refine cmp_same ⟨fun h => Int.mul_lt_mul_of_pos_right h hk, fun h => Int.lt_of_mul_lt_mul_right h (Int.le_of_lt hk)⟩ ⟨fun h => by rw [h], fun h => Int.eq_of_mul_eq_mul_right (Int.ne_of_gt hk) h⟩

theorem sval_of {a : Nat} (ha : a < 2 ^ 64) : sval a = if decide (9223372036854775808 ≤ a) = true then -((a % 9223372036854775808 : Nat) : Int) else ((a % 9223372036854775808 : Nat) : Int) := by
  unfold sval
  by_cases h : a < 9223372036854775808
  · rw [if_pos h, if_neg (by simp; omega)]; omega
  · rw [if_neg h, if_pos (by simp; omega)]; omega

/-- How two words stand to each other. -/
theorem order_eq {a b : Nat} (ha : a < 2 ^ 64) (hb : b < 2 ^ 64) :
    Ieee.double.order a b = if nanN a = true ∨ nanN b = true then none else some (compare (sval a) (sval b)) := by
  unfold Ieee.Format.order nanN
  simp only [decide_eq_true_eq]
  by_cases na : 9218868437227405312 < a % 9223372036854775808
  · obtain ⟨s, f, e⟩ := read_nan na
    rw [e, if_pos (.inl na)]
    rfl
  · by_cases nb : 9218868437227405312 < b % 9223372036854775808
    · obtain ⟨s, f, e⟩ := read_nan nb
      rw [e, if_pos (.inr nb)]
      cases Ieee.double.read a <;> rfl
    · rw [if_neg (by omega), sval_of ha, sval_of hb]
      rcases Nat.lt_or_ge (a % 9223372036854775808) 9218868437227405312 with ia | ia
      · obtain ⟨m, p, ea, ma⟩ := read_num ha ia
        rcases Nat.lt_or_ge (b % 9223372036854775808) 9218868437227405312 with ib | ib
        · obtain ⟨n, q, eb, mb⟩ := read_num hb ib
          rw [ea, eb, order_num, ma, mb]
          congr 1
          have h1 := @magv_lt_iff (a % 9223372036854775808) (b % 9223372036854775808)
          have h2 := @magv_lt_iff (b % 9223372036854775808) (a % 9223372036854775808)
          have h3 : magv (a % 9223372036854775808) = magv (b % 9223372036854775808) ↔ a % 9223372036854775808 = b % 9223372036854775808 := ⟨magv_inj, fun h => by rw [h]⟩
          have z1 : magv (a % 9223372036854775808) = 0 ↔ a % 9223372036854775808 = 0 := ⟨fun h => magv_inj (h.trans (by decide)), fun h => by rw [h]; decide⟩
          have z2 : magv (b % 9223372036854775808) = 0 ↔ b % 9223372036854775808 = 0 := ⟨fun h => magv_inj (h.trans (by decide)), fun h => by rw [h]; decide⟩
          generalize magv (a % 9223372036854775808) = x at *
          generalize magv (b % 9223372036854775808) = y at *
          generalize a % 9223372036854775808 = u at *
          generalize b % 9223372036854775808 = v at *
          cases decide (9223372036854775808 ≤ a) <;> cases decide (9223372036854775808 ≤ b) <;> simp only [if_true, if_false, Bool.false_eq_true] <;> exact cmp_same (by omega) (by omega)
        · have eb := read_inf hb (by omega)
          have ib' : b % 9223372036854775808 = 9218868437227405312 := by omega
          rw [ea, eb, ib']
          generalize a % 9223372036854775808 = u at *
          cases decide (9223372036854775808 ≤ a) <;> cases decide (9223372036854775808 ≤ b) <;> simp only [Ieee.Datum.order, if_true, if_false, Bool.false_eq_true, Option.some.injEq] <;> symm <;> first | (rw [Int.compare_eq_lt]; omega) | (rw [Int.compare_eq_gt]; omega)
      · have ea := read_inf ha (by omega)
        have ia' : a % 9223372036854775808 = 9218868437227405312 := by omega
        rcases Nat.lt_or_ge (b % 9223372036854775808) 9218868437227405312 with ib | ib
        · obtain ⟨n, q, eb, mb⟩ := read_num hb ib
          rw [ea, eb, ia']
          generalize b % 9223372036854775808 = v at *
          cases decide (9223372036854775808 ≤ a) <;> cases decide (9223372036854775808 ≤ b) <;> simp only [Ieee.Datum.order, if_true, if_false, Bool.false_eq_true, Option.some.injEq] <;> symm <;> first | (rw [Int.compare_eq_lt]; omega) | (rw [Int.compare_eq_gt]; omega)
        · have eb := read_inf hb (by omega)
          have ib' : b % 9223372036854775808 = 9218868437227405312 := by omega
          rw [ea, eb, ia', ib']
          cases decide (9223372036854775808 ≤ a) <;> cases decide (9223372036854775808 ≤ b) <;> rfl

/-! ### As the walks want them -/
theorem ord_nan {a b : Nat} (ha : a < 2 ^ 64) (hb : b < 2 ^ 64) (h : nanN a = true ∨ nanN b = true) : FloatKind.f64.format.order a b = none := by
  show Ieee.double.order a b = none
  rw [order_eq ha hb, if_pos h]
theorem ord_num {a b : Nat} (ha : a < 2 ^ 64) (hb : b < 2 ^ 64) (h1 : nanN a = false) (h2 : nanN b = false) : FloatKind.f64.format.order a b = some (compare (sval a) (sval b)) := by
  show Ieee.double.order a b = _
  rw [order_eq ha hb, if_neg (by simp [h1, h2])]
theorem ne_self {a : Nat} (ha : a < 2 ^ 64) : (FloatKind.f64.format.order a a != some .eq) = nanN a := by
  cases h : nanN a
  · rw [ord_num ha ha h h]
    have : compare (sval a) (sval a) = .eq := Int.compare_eq_eq.2 rfl
    rw [this]; rfl
  · rw [ord_nan ha ha (.inl h)]; rfl
theorem lt_num {a b : Nat} (ha : a < 2 ^ 64) (hb : b < 2 ^ 64) (h1 : nanN a = false) (h2 : nanN b = false) : (FloatKind.f64.format.order a b == some .lt) = decide (sval a < sval b) := by
  rw [ord_num ha hb h1 h2]
  by_cases h : sval a < sval b
  · rw [Int.compare_eq_lt.2 h]; simp [h]
  · have : compare (sval a) (sval b) ≠ .lt := fun g => h (Int.compare_eq_lt.1 g)
    simp [h, this]
theorem gt_num {a b : Nat} (ha : a < 2 ^ 64) (hb : b < 2 ^ 64) (h1 : nanN a = false) (h2 : nanN b = false) : (FloatKind.f64.format.order a b == some .gt) = decide (sval b < sval a) := by
  rw [ord_num ha hb h1 h2]
  by_cases h : sval b < sval a
  · rw [Int.compare_eq_gt.2 h]; simp [h]
  · have : compare (sval a) (sval b) ≠ .gt := fun g => h (Int.compare_eq_gt.1 g)
    simp [h, this]
theorem eq_num {a b : Nat} (ha : a < 2 ^ 64) (hb : b < 2 ^ 64) (h1 : nanN a = false) (h2 : nanN b = false) : (FloatKind.f64.format.order a b == some .eq) = decide (sval a = sval b) := by
  rw [ord_num ha hb h1 h2]
  by_cases h : sval a = sval b
  · rw [Int.compare_eq_eq.2 h]; simp [h]
  · have : compare (sval a) (sval b) ≠ .eq := fun g => h (Int.compare_eq_eq.1 g)
    simp [h, this]

/-! ### The document's words -/
/-- P2.2's key. -/
def keyN (a : Nat) : Nat := if nanN a = true then 18446744073709551615 else if 9223372036854775808 ≤ a then 18446744073709551615 - a else a + 9223372036854775808
/-- How two numbers stand to each other. -/
def cmpK (x y : Nat) : Int := if x < y then -1 else if y < x then 1 else 0
/-- P2.1's order, by keys. -/
def cmpN (a b : Nat) : Int := cmpK (keyN a) (keyN b)
/-- P2.1's kind. -/
def kindN (a : Nat) : Nat :=
  if nanN a = true then 6 else if a = 18442240474082181120 then 0 else if a = 9218868437227405312 then 5 else if 9223372036854775808 < a then 1 else if a = 9223372036854775808 then 2 else if a = 0 then 3 else 4

theorem nan_iff (a : Nat) : nanN a = true ↔ 9218868437227405312 < a % 9223372036854775808 := by simp [nanN]
theorem nan_not (a : Nat) : nanN a = false ↔ a % 9223372036854775808 ≤ 9218868437227405312 := by simp [nanN]

/-- The kinds, one by one, with what each says. -/
theorem kinds (a : Nat) (ha : a < 2 ^ 64) :
    (nanN a = true ∧ kindN a = 6 ∧ keyN a = 18446744073709551615) ∨
    (nanN a = false ∧ kindN a = 0 ∧ a = 18442240474082181120 ∧ keyN a = 4503599627370495 ∧ sval a = -9218868437227405312) ∨
    (nanN a = false ∧ kindN a = 1 ∧ 9223372036854775808 < a ∧ a < 18442240474082181120 ∧ keyN a = 18446744073709551615 - a ∧ sval a = 9223372036854775808 - (a : Int)) ∨
    (nanN a = false ∧ kindN a = 2 ∧ a = 9223372036854775808 ∧ keyN a = 9223372036854775807 ∧ sval a = 0) ∨
    (nanN a = false ∧ kindN a = 3 ∧ a = 0 ∧ keyN a = 9223372036854775808 ∧ sval a = 0) ∨
    (nanN a = false ∧ kindN a = 4 ∧ 0 < a ∧ a < 9218868437227405312 ∧ keyN a = a + 9223372036854775808 ∧ sval a = (a : Int)) ∨
    (nanN a = false ∧ kindN a = 5 ∧ a = 9218868437227405312 ∧ keyN a = 18442240474082181120 ∧ sval a = 9218868437227405312) := by
  cases h : nanN a
  · have hm := (nan_not a).1 h
    have hc : a = 18442240474082181120 ∨ (9223372036854775808 < a ∧ a < 18442240474082181120) ∨ a = 9223372036854775808 ∨ a = 0 ∨ (0 < a ∧ a < 9218868437227405312) ∨ a = 9218868437227405312 := by omega
    rcases hc with g | ⟨g, g'⟩ | g | g | ⟨g, g'⟩ | g
    · refine .inr (.inl ⟨rfl, ?_, g, ?_, ?_⟩)
      · unfold kindN; rw [h, if_neg (by simp), if_pos g]
      · unfold keyN; rw [h, if_neg (by simp), if_pos (by omega)]; omega
      · unfold sval; rw [if_neg (by omega)]; omega
    · refine .inr (.inr (.inl ⟨rfl, ?_, g, g', ?_, ?_⟩))
      · unfold kindN; rw [h, if_neg (by simp), if_neg (by omega), if_neg (by omega), if_pos g]
      · unfold keyN; rw [h, if_neg (by simp), if_pos (by omega)]
      · unfold sval; rw [if_neg (by omega)]; omega
    · refine .inr (.inr (.inr (.inl ⟨rfl, ?_, g, ?_, ?_⟩)))
      · unfold kindN; rw [h, if_neg (by simp), if_neg (by omega), if_neg (by omega), if_neg (by omega), if_pos g]
      · unfold keyN; rw [h, if_neg (by simp), if_pos (by omega)]; omega
      · unfold sval; rw [if_neg (by omega)]; omega
    · refine .inr (.inr (.inr (.inr (.inl ⟨rfl, ?_, g, ?_, ?_⟩))))
      · unfold kindN; rw [h, if_neg (by simp), if_neg (by omega), if_neg (by omega), if_neg (by omega), if_neg (by omega), if_pos g]
      · unfold keyN; rw [h, if_neg (by simp), if_neg (by omega)]; omega
      · unfold sval; rw [if_pos (by omega)]; omega
    · refine .inr (.inr (.inr (.inr (.inr (.inl ⟨rfl, ?_, g, g', ?_, ?_⟩)))))
      · unfold kindN; rw [h, if_neg (by simp), if_neg (by omega), if_neg (by omega), if_neg (by omega), if_neg (by omega), if_neg (by omega)]
      · unfold keyN; rw [h, if_neg (by simp), if_neg (by omega)]
      · unfold sval; rw [if_pos (by omega)]
    · refine .inr (.inr (.inr (.inr (.inr (.inr ⟨rfl, ?_, g, ?_, ?_⟩)))))
      · unfold kindN; rw [h, if_neg (by simp), if_neg (by omega), if_pos g]
      · unfold keyN; rw [h, if_neg (by simp), if_neg (by omega)]; omega
      · unfold sval; rw [if_pos (by omega)]; omega
  · exact .inl ⟨rfl, by unfold kindN; rw [h, if_pos rfl], by unfold keyN; rw [h, if_pos rfl]⟩

theorem key_of_kind {a b : Nat} (ha : a < 2 ^ 64) (hb : b < 2 ^ 64) (h : kindN a < kindN b) : keyN a < keyN b := by
  rcases kinds a ha with ⟨_, h1, h2⟩ | ⟨_, h1, h2, h3, _⟩ | ⟨_, h1, h2, h3, h4, _⟩ | ⟨_, h1, h2, h3, _⟩ | ⟨_, h1, h2, h3, _⟩ | ⟨_, h1, h2, h3, h4, _⟩ | ⟨_, h1, h2, h3, _⟩ <;>
  rcases kinds b hb with ⟨_, g1, g2⟩ | ⟨_, g1, g2, g3, _⟩ | ⟨_, g1, g2, g3, g4, _⟩ | ⟨_, g1, g2, g3, _⟩ | ⟨_, g1, g2, g3, _⟩ | ⟨_, g1, g2, g3, g4, _⟩ | ⟨_, g1, g2, g3, _⟩ <;> omega
theorem key_in_kind {a b : Nat} (ha : a < 2 ^ 64) (hb : b < 2 ^ 64) (h : kindN a = kindN b) (h6 : kindN a ≠ 6) : nanN a = false ∧ nanN b = false ∧ (keyN a < keyN b ↔ sval a < sval b) ∧ (keyN b < keyN a ↔ sval b < sval a) := by
  rcases kinds a ha with ⟨n1, h1, h2⟩ | ⟨n1, h1, h2, h3, h4⟩ | ⟨n1, h1, h2, h3, h4, h5⟩ | ⟨n1, h1, h2, h3, h4⟩ | ⟨n1, h1, h2, h3, h4⟩ | ⟨n1, h1, h2, h3, h4, h5⟩ | ⟨n1, h1, h2, h3, h4⟩ <;>
  rcases kinds b hb with ⟨n2, g1, g2⟩ | ⟨n2, g1, g2, g3, g4⟩ | ⟨n2, g1, g2, g3, g4, g5⟩ | ⟨n2, g1, g2, g3, g4⟩ | ⟨n2, g1, g2, g3, g4⟩ | ⟨n2, g1, g2, g3, g4, g5⟩ | ⟨n2, g1, g2, g3, g4⟩ <;>
  first | (exfalso; omega) | exact ⟨n1, n2, by omega, by omega⟩
theorem key_six {a : Nat} (ha : a < 2 ^ 64) (h : kindN a = 6) : keyN a = 18446744073709551615 := by
  rcases kinds a ha with ⟨n1, h1, h2⟩ | ⟨n1, h1, h2, h3, h4⟩ | ⟨n1, h1, h2, h3, h4, h5⟩ | ⟨n1, h1, h2, h3, h4⟩ | ⟨n1, h1, h2, h3, h4⟩ | ⟨n1, h1, h2, h3, h4, h5⟩ | ⟨n1, h1, h2, h3, h4⟩ <;> omega

theorem cmpN_lt {a b : Nat} (h : keyN a < keyN b) : cmpN a b = -1 := by unfold cmpN cmpK; rw [if_pos h]
theorem cmpN_gt {a b : Nat} (h : keyN b < keyN a) : cmpN a b = 1 := by unfold cmpN cmpK; rw [if_neg (by omega), if_pos h]
theorem cmpN_eq {a b : Nat} (h : keyN a = keyN b) : cmpN a b = 0 := by unfold cmpN cmpK; rw [if_neg (by omega), if_neg (by omega)]

theorem key_lt (a : Nat) (ha : a < 2 ^ 64) : keyN a < 18446744073709551616 := by
  unfold keyN
  split
  · omega
  · split <;> omega

end Go.Proofs.Ytjjaaahoophgpaa
