/-
  What a line's bytes hang on: plain facts.
-/
import Derived.Test.YtjenbhaaahpliaaDoorWViewPlaces
namespace Go.Proofs.YtjenbhaaahpliaaDoor
open Go.RowKit Go.Lib
set_option linter.unusedVariables false

/-- What a word is, less than a bound. -/
def modN (x : Int) (m : Nat) : Nat := (x % 18446744073709551616 % ((m : Int) + 1)).toNat
theorem modN_le (x : Int) (m : Nat) : modN x m ≤ m := by
  unfold modN
  have h1 : x % 18446744073709551616 % ((m : Int) + 1) < (m : Int) + 1 := Int.emod_lt_of_pos _ (by omega)
  omega
theorem modN_cast (x : Int) (m : Nat) : x % 18446744073709551616 % ((m : Int) + 1) = (modN x m : Int) := by
  unfold modN
  have h2 : 0 ≤ x % 18446744073709551616 % ((m : Int) + 1) := Int.emod_nonneg _ (by omega)
  omega
theorem word (x : Int) : ∃ z, IntKind.u64.wrap x = z ∧ 0 ≤ z ∧ z < 18446744073709551616 ∧ z = x % 18446744073709551616 := ⟨_, IntKind.wrap_u64 x, by omega, by omega, rfl⟩

theorem dig_inj {a b : Nat} (h : dig 10 a = dig 10 b) : a = b := by
  have h1 := par_dig (b := 10) (M := a + b) (by omega) (by omega) a (by omega)
  have h2 := par_dig (b := 10) (M := a + b) (by omega) (by omega) b (by omega)
  rw [h, h2] at h1
  exact (Option.some.inj h1).symm
theorem stars_inj : ∀ (s s' : Nat) (t t' : List UInt8), List.replicate s 42 ++ 27 :: t = List.replicate s' 42 ++ 27 :: t' → s = s' ∧ t = t'
  | 0, 0, t, t', h => by simpa using h
  | 0, s' + 1, t, t', h => by simp [List.replicate_succ] at h
  | s + 1, 0, t, t', h => by simp [List.replicate_succ] at h
  | s + 1, s' + 1, t, t', h => by
    simp only [List.replicate_succ, List.cons_append, List.cons.injEq, true_and] at h
    obtain ⟨h1, h2⟩ := stars_inj s s' t t' h
    exact ⟨by omega, h2⟩
theorem lineL_inj {l : List UInt8} {s b s' b' : Nat} (h : lineL l s b = lineL l s' b') : s = s' ∧ b = b' := by
  unfold lineL at h
  simp only [List.append_assoc] at h
  have h := List.append_cancel_left h
  simp only [List.cons_append, List.nil_append] at h
  obtain ⟨h1, h2⟩ := stars_inj _ _ _ _ h
  refine ⟨h1, ?_⟩
  simp only [List.cons.injEq, true_and] at h2
  by_cases hb : b = 0
  · by_cases hb' : b' = 0
    · omega
    · rw [if_pos hb, if_neg hb'] at h2
      cases h2
  · by_cases hb' : b' = 0
    · rw [if_neg hb, if_pos hb'] at h2
      cases h2
    · rw [if_neg hb, if_neg hb'] at h2
      simp only [List.cons.injEq, true_and] at h2
      exact dig_inj (List.append_cancel_right h2)
/-- What is wrong with a prompt. -/
def chkE (l : List UInt8) : Nat := if fiB l = false then 8 else if 256 < l.length then 10 else 0
theorem chk_any (l : List UInt8) {m r : Int} (hm : mok m = true) (hr : 0 ≤ r) : chkN l m r = chkE l := by
  unfold chkN chkE
  rw [hm, if_neg (show ¬ (true = false) by simp), if_neg (show ¬ r < 0 by omega)]
theorem hid_facts (l : List UInt8) (k n p m q : Nat) (hk : k ≤ 2) (hn : n ≤ 1024) (hm : m ≤ 1024) (hp : p ≤ n) (hq : q ≤ m) :
    ∃ (E s : Nat) (X Y : List UInt8), renN l k n n p = E ∧ renN l k m m q = E ∧ renL l k n n p = X ∧ renL l k m m q = Y ∧ stN (k : Int) (n : Int) = (s : Int) ∧ s ≤ 1024 ∧ X.length ≤ l.length + s + 20 ∧ Y.length ≤ l.length + 2000 ∧
      (0 < E → X = [] ∧ Y = []) ∧ (k = 0 → X = Y) ∧ (k = 1 → n = m → p = q → X = Y) ∧ (k = 2 → (0 < n ↔ 0 < m) → X = Y) ∧ (E = 0 → k = 1 → n ≠ m ∨ p ≠ q → X ≠ Y) := by
  obtain ⟨s, x, hs, hx, hP⟩ := plc_any k n p hk hn hp
  obtain ⟨s', x', hs', hx', hP'⟩ := plc_any k m q hk hm hq
  have hmk : mok (k : Int) = true := decide_eq_true (by omega)
  have hr1 : rng (n : Int) (p : Int) = true := decide_eq_true (by omega)
  have hr2 : rng (m : Int) (q : Int) = true := decide_eq_true (by omega)
  have e1 : renN l k n n p = chkE l := by
    unfold renN
    rw [chk_any l hmk (by omega), hr1]
    by_cases h : chkE l = 0
    · rw [if_pos h, h]; rfl
    · rw [if_neg h]
  have e2 : renN l k m m q = chkE l := by
    unfold renN
    rw [chk_any l hmk (by omega), hr2]
    by_cases h : chkE l = 0
    · rw [if_pos h, h]; rfl
    · rw [if_neg h]
  have hsx : s ≤ 1024 ∧ x ≤ s := by unfold Plc at hP; omega
  have hsx' : s' ≤ 1024 ∧ x' ≤ s' := by unfold Plc at hP'; omega
  have e3 : renL l k n n p = if chkE l = 0 then lineL l s (s - x) else [] := by
    unfold renL
    rw [e1, hs, hx]
    have h1 : ((s : Int)).toNat = s := by omega
    have h2 : ((s : Int) - (x : Int)).toNat = s - x := by omega
    rw [h1, h2]
  have e4 : renL l k m m q = if chkE l = 0 then lineL l s' (s' - x') else [] := by
    unfold renL
    rw [e2, hs', hx']
    have h1 : ((s' : Int)).toNat = s' := by omega
    have h2 : ((s' : Int) - (x' : Int)).toNat = s' - x' := by omega
    rw [h1, h2]
  have l1 := lineL_len l s (s - x) (by omega)
  have l2 := lineL_len l s' (s' - x') (by omega)
  refine ⟨chkE l, s, _, _, e1, e2, e3, e4, hs, hsx.1, ?_, ?_, fun h => ?_, fun h => ?_, fun h h1 h2 => ?_, fun h h1 => ?_, fun h h1 h2 => ?_⟩
  · split
    · omega
    · simp
  · split
    · omega
    · simp
  · rw [if_neg (by omega), if_neg (by omega)]; exact ⟨rfl, rfl⟩
  · have : s = s' ∧ x = x' := by unfold Plc at hP hP'; omega
    rw [this.1, this.2]
  · have : s = s' ∧ x = x' := by unfold Plc at hP hP'; omega
    rw [this.1, this.2]
  · have : s = s' ∧ x = x' := by unfold Plc at hP hP'; omega
    rw [this.1, this.2]
  · rw [if_pos h, if_pos h]
    intro e
    have := lineL_inj e
    unfold Plc at hP hP'
    omega
end Go.Proofs.YtjenbhaaahpliaaDoor
