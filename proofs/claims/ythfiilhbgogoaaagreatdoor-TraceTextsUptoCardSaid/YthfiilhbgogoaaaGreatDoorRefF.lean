/-
  The document's flags of a text.
-/
import Derived.Test.YthfiilhbgogoaaaGreatDoorRefE
import Derived.Test.YthfiilhbgogoaaaGreatDoorRefA
namespace Go.Proofs.YthfiilhbgogoaaaGreatDoor
open Go.RowKit Go.Lib
set_option linter.unusedVariables false

/-! ### What the document gathers of parts -/
def xv (p : List UInt8) : Nat := match p with
  | [] => 0
  | c :: r => if c = 120 ∧ r ≠ [] then (rnum 16 8 r).getD 0 else 0
def nv (p : List UInt8) (i : Nat) : Nat := (gpn p i).getD 0
def rpart (a : Nat) (p : List UInt8) : Nat := ((a + nv p 7) % 4294967296 + xv p) % 4294967296
def rfl2 (l : List (List UInt8)) (acc : Nat) : Nat := l.foldl rpart acc
theorem rpart_lt (a : Nat) (p : List UInt8) : rpart a p < 4294967296 := Nat.mod_lt _ (by omega)
theorem rfl2_lt : ∀ (l : List (List UInt8)) (acc : Nat), acc < 4294967296 → rfl2 l acc < 4294967296
  | [], acc, h => h
  | p :: l, acc, h => rfl2_lt l (rpart acc p) (rpart_lt acc p)
theorem xv_nm : ∀ j, j < 7 → xv (nm j) = 0 := by decide
theorem nv_nm {j : Nat} (h : j < 7) : nv (nm j) 7 = 2 ^ j := by
  unfold nv
  rw [gpn_nm j h]
  rfl
theorem nv_x (r : List UInt8) : nv (120 :: r) 7 = 0 := by
  unfold nv
  rw [gpn_x r 7 (by omega)]
  rfl
theorem rfl2_nmd (f : Nat) : ∀ i, i ≤ 7 → rfl2 (nmd f i) 0 = f % 2 ^ i
  | 0, _ => by simp [rfl2, nmd, Nat.mod_one]
  | i + 1, h => by
    have ih := rfl2_nmd f i (by omega)
    unfold rfl2 at ih ⊢
    rw [nmd, List.foldl_append, ih]
    have h3 : f % 2 ^ (i + 1) = f % 2 ^ i + 2 ^ i * (f / 2 ^ i % 2) := Nat.mod_pow_succ
    have h2 : f.testBit i = decide (f / 2 ^ i % 2 = 1) := Nat.testBit_eq_decide_div_mod_eq
    have hlt : f % 2 ^ i < 2 ^ i := Nat.mod_lt _ (Nat.two_pow_pos i)
    have h7 : 2 ^ i ≤ 2 ^ 7 := Nat.pow_le_pow_right (by omega) (by omega)
    rw [h3, h2]
    by_cases hb : f / 2 ^ i % 2 = 1
    · simp only [hb, decide_true, if_true, List.foldl_cons, List.foldl_nil, rpart, nv_nm (show i < 7 by omega), xv_nm i (by omega), Nat.mul_one]
      omega
    · have h0 : f / 2 ^ i % 2 = 0 := by omega
      simp [h0]
theorem rfl2_parts {f : Nat} (hf : f < 4294967296) : rfl2 (parts f) 0 = f := by
  have h7 := rfl2_nmd f 7 (by omega)
  unfold rfl2 at h7 ⊢
  rw [parts, List.foldl_append, h7]
  have e := Nat.div_add_mod f (2 ^ 7)
  have hh : hi f 7 + f % 2 ^ 7 = f := by unfold hi; rw [Nat.mul_comm]; exact e
  split
  · rename_i h0
    simp only [List.foldl_nil]
    omega
  · rename_i h0
    have hl := dig_len (b := 16) (by omega) 7 (hi f 7) (by omega)
    have hx : xv (120 :: dig 16 (hi f 7)) = hi f 7 := by
      show (if (120 : UInt8) = 120 ∧ dig 16 (hi f 7) ≠ [] then (rnum 16 8 (dig 16 (hi f 7))).getD 0 else 0) = hi f 7
      rw [if_pos ⟨rfl, dig_ne _ _⟩, rnum_dig (.inr rfl) hl]
      rfl
    simp only [List.foldl_cons, List.foldl_nil, rpart, nv_x, hx]
    omega
def rgf (s : List UInt8) : Nat := rfl2 (spl 43 s) 0
theorem rgf_ftext {f : Nat} (hf : f < 4294967296) : rgf (ftext f) = f := by
  unfold rgf
  rw [ftext_spl]
  split
  · rename_i h
    have := rfl2_parts hf
    rw [h] at this
    simp only [rfl2, List.foldl_nil] at this
    subst this
    decide
  · exact rfl2_parts hf
theorem rgf_lt (s : List UInt8) : rgf s < 4294967296 := rfl2_lt _ 0 (by omega)
theorem nm_inj : ∀ j, j < 7 → ∀ k, k < 7 → nm j = nm k → j = k := by decide
theorem gpn_none {k : Nat} (hk : k < 7) : ∀ i, i ≤ k → gpn (nm k) i = none
  | 0, _ => rfl
  | i + 1, h => by
    rw [gpn, gpn_none hk i (by omega)]
    simp only
    rw [if_neg (fun e => by have := nm_inj k hk i (by omega) e; omega)]
theorem nv_step {p : List UInt8} {k : Nat} (hk : k < 7) : nv p (k + 1) = nv p k + (if p = nm k then 2 ^ k else 0) := by
  unfold nv
  by_cases h : p = nm k
  · subst h
    rw [gpn, gpn_none hk k (Nat.le_refl _), if_pos rfl]
    simp
  · rw [gpn]
    cases gpn p k <;> simp [h]
theorem nv_lt (p : List UInt8) : ∀ k, k ≤ 7 → nv p k < 128 := by
  intro k hk
  have : ∀ i, i ≤ 7 → ∀ v, gpn p i = some v → v < 128 := by
    intro i
    induction i with
    | zero => intro _ v h; simp [gpn] at h
    | succ i ih =>
      intro hi v h
      unfold gpn at h
      split at h
      · rename_i v' h'
        cases h
        exact ih (by omega) v h'
      · split at h
        · cases h
          have : 2 ^ i < 2 ^ 7 := Nat.pow_lt_pow_right (by omega) (by omega)
          exact this
        · cases h
  unfold nv
  cases e : gpn p k with
  | none => simp
  | some v => exact this k hk v e
end Go.Proofs.YthfiilhbgogoaaaGreatDoor
