/-
  Keys without memory: their names, what they are told by, their texts, and what is read of a text.
-/
import Derived.Test.YtngbpkbojjipgaaDoorBase
import Derived.Lib.AtoiAllCases
namespace Go.Proofs.YtngbpkbojjipgaaDoor
open Go.Lib
set_option linter.unusedVariables false

/-- May a number be shown? -/
def shown (c : Int) : Bool := decide ((0 ≤ c ∧ c ≤ 1114111 ∧ ¬ (55296 ≤ c ∧ c ≤ 57343)) ∧ 32 ≤ c ∧ ¬ (127 ≤ c ∧ c ≤ 159))
theorem shown_nat {c : Int} (h : shown c = true) : ∃ n : Nat, c = (n : Int) ∧ n ≤ 1114111 := by
  have := of_decide_eq_true h
  exact ⟨c.toNat, by omega, by omega⟩

def kns : List (List UInt8) := [[114, 117, 110, 101], [101, 110, 116, 101, 114], [98, 97, 99, 107], [100, 101, 108, 101, 116, 101], [108, 101, 102, 116], [114, 105, 103, 104, 116], [104, 111, 109, 101], [108, 97, 115, 116], [107, 105, 108, 108, 115, 116, 97, 114, 116], [107, 105, 108, 108, 101, 110, 100], [114, 101, 100, 114, 97, 119], [99, 97, 110, 99, 101, 108], [101, 111, 102], [112, 97, 115, 116, 101, 115, 116, 97, 114, 116], [112, 97, 115, 116, 101, 101, 110, 100], [105, 103, 110, 111, 114, 101, 100]]
/-- A kind's name. -/
def kn (i : Nat) : List UInt8 := kns[i]?.getD []
def kts : List (List UInt8) := [[], [13], [127], [27, 91, 51, 126], [2], [6], [1], [5], [21], [11], [12], [3], [4], [27, 91, 50, 48, 48, 126], [27, 91, 50, 48, 49, 126], [0]]
/-- What a key of a kind is told by, but for a Rune. -/
def kt (i : Nat) : List UInt8 := kts[i]?.getD []
theorem kn_all : ∀ i, i < 16 → kn i ≠ [] ∧ 32 ∉ kn i ∧ (kn i).length ≤ 10 := by decide
theorem kn_inj : ∀ i, i < 16 → ∀ j, j < 16 → kn i = kn j → i = j := by decide +kernel
theorem kt_inj : ∀ i, i < 16 → ∀ j, j < 16 → kt i = kt j → i = j := by decide +kernel
theorem kt_len : ∀ i, i < 16 → (kt i).length ≤ 6 := by decide

/-- The kind of a number that may not be shown. -/
def kof (c : Int) : Nat := if c = 1 then 6 else if c = 2 then 4 else if c = 3 then 11 else if c = 4 then 12 else if c = 5 then 7 else if c = 6 then 5 else if c = 8 then 2 else if c = 10 then 1 else if c = 11 then 9 else if c = 12 then 10 else if c = 13 then 1 else if c = 21 then 8 else if c = 127 then 2 else 15
theorem kof_pos (c : Int) : 0 < kof c ∧ kof c < 16 := by
  have e : ∀ (p : Prop) [Decidable p] (a b : Nat), (0 < a ∧ a < 16) → (0 < b ∧ b < 16) → 0 < (if p then a else b) ∧ (if p then a else b) < 16 := by
    intro p _ a b ha hb
    split
    · exact ha
    · exact hb
  unfold kof
  exact e _ _ _ (by decide) (e _ _ _ (by decide) (e _ _ _ (by decide) (e _ _ _ (by decide) (e _ _ _ (by decide) (e _ _ _ (by decide) (e _ _ _ (by decide) (e _ _ _ (by decide) (e _ _ _ (by decide) (e _ _ _ (by decide) (e _ _ _ (by decide) (e _ _ _ (by decide) (e _ _ _ (by decide) (by decide)))))))))))))
/-- The error of a key that there isn't, or 0. -/
def chk (k c : Int) : Nat := if k < 0 ∨ 15 < k then 9 else if (k = 0 ∧ shown c = false) ∨ (k ≠ 0 ∧ c ≠ 0) then 2 else 0
theorem chk_zero {k c : Int} (h : chk k c = 0) : ∃ n m : Nat, k = (n : Int) ∧ c = (m : Int) ∧ n < 16 ∧ (n = 0 → shown (m : Int) = true ∧ m ≤ 1114111) ∧ (n ≠ 0 → m = 0) := by
  unfold chk at h
  split at h
  · cases h
  · split at h
    · cases h
    · rename_i h1 h2
      rcases Classical.em (k = 0) with e | e
      · have hs : shown c = true := by
          cases hc : shown c
          · exact absurd (.inl ⟨e, hc⟩) h2
          · rfl
        obtain ⟨m, rfl, hm⟩ := shown_nat hs
        exact ⟨0, m, e, rfl, by omega, fun _ => ⟨hs, hm⟩, fun h => absurd rfl h⟩
      · have hc : c = 0 := by
          rcases Classical.em (c = 0) with g | g
          · exact g
          · exact absurd (.inr ⟨e, g⟩) h2
        exact ⟨k.toNat, 0, by omega, by omega, by omega, fun h => by omega, fun _ => rfl⟩
theorem chk_rune {c : Int} (h : shown c = true) : chk 0 c = 0 := by
  unfold chk
  rw [if_neg (by omega), if_neg (by simp [h])]
theorem chk_other {k : Nat} (h0 : k ≠ 0) (h : k < 16) : chk (k : Int) 0 = 0 := by
  unfold chk
  rw [if_neg (by omega), if_neg (by omega)]
/-- A key's text. -/
def ktx (k c : Nat) : List UInt8 := if k = 0 then kn 0 ++ 32 :: dig 10 c else kn k
theorem dig7 {n : Nat} (h : n ≤ 1114111) : (dig 10 n).length ≤ 7 := dig_len (by omega) 6 n (by omega)
theorem ktx_len {k c : Nat} (hk : k < 16) (hc : k = 0 → c ≤ 1114111) : (ktx k c).length ≤ 12 := by
  unfold ktx
  split
  · have := dig7 (hc (by assumption))
    have : (kn 0).length = 4 := by decide
    simp
    omega
  · have := (kn_all k hk).2.2
    omega

/-! ### What is read -/
/-- The first of so many kinds that has this name. -/
def kix (s : List UInt8) : Nat → Option Nat
  | 0 => none
  | n + 1 => match kix s n with
    | some i => some i
    | none => if kn n = s then some n else none
theorem kix_at {s : List UInt8} {i : Nat} (h : kix s i = none) (he : kn i = s) : ∀ m, kix s (i + 1 + m) = some i
  | 0 => by
    show kix s (i + 1) = some i
    rw [kix, h]
    simp [he]
  | m + 1 => by
    show kix s ((i + 1 + m) + 1) = some i
    rw [kix, kix_at h he m]
theorem kix_at16 {s : List UInt8} {i : Nat} (hi : i < 16) (h : kix s i = none) (he : kn i = s) : kix s 16 = some i := by
  have := kix_at h he (15 - i)
  rwa [show i + 1 + (15 - i) = 16 by omega] at this
theorem kix_next {s : List UInt8} {i : Nat} (h : kix s i = none) (he : kn i ≠ s) : kix s (i + 1) = none := by
  rw [kix, h]
  simp [he]
theorem kix_some {s : List UInt8} : ∀ {n i : Nat}, kix s n = some i → i < n ∧ kn i = s
  | 0, i, h => by cases h
  | n + 1, i, h => by
    rw [kix] at h
    split at h
    · rename_i j e
      cases h
      have := kix_some e
      exact ⟨by omega, this.2⟩
    · split at h
      · cases h
        exact ⟨by omega, by assumption⟩
      · cases h
theorem kix_none {s : List UInt8} : ∀ {n : Nat}, kix s n = none → ∀ i, i < n → kn i ≠ s
  | 0, _, i, hi => by omega
  | n + 1, h, i, hi => by
    rw [kix] at h
    split at h
    · cases h
    · split at h
      · cases h
      · rename_i e g
        rcases Nat.lt_or_ge i n with q | q
        · exact kix_none e i q
        · have : i = n := by omega
          rw [this]
          exact g
theorem kix_kn {i : Nat} (hi : i < 16) : kix (kn i) 16 = some i := by
  cases h : kix (kn i) 16 with
  | none => exact absurd rfl (kix_none h i hi)
  | some j =>
    have := kix_some h
    rw [kn_inj j (by omega) i hi this.2]
/-- The kind of a name, or -1. -/
def kz (s : List UInt8) : Int := match kix s 16 with
  | some i => (i : Int)
  | none => -1
/-- The number of a text, or 0. -/
def gth (s : List UInt8) : Int := match atoiAll s with
  | .ok v => v
  | _ => 0
theorem pu_par : ∀ (l : List UInt8) (acc v : Nat), acc ≤ 1114111 → par 10 1114111 acc l = some v → parseUint10 acc l = .ok v
  | [], acc, v, _, h => by
    simp only [par, Option.some.injEq] at h
    rw [h]
    rfl
  | c :: r, acc, v, ha, h => by
    simp only [par] at h
    split at h
    · cases h
    · rename_i d hd
      split at h
      · cases h
      · split at h
        · cases h
        · rename_i h1 h2
          have hc : 48 ≤ c.toNat ∧ c.toNat ≤ 57 ∧ d = c.toNat - 48 := by
            unfold dv at hd
            split at hd
            · cases hd
              omega
            · split at hd
              · cases hd
                omega
              · cases hd
          obtain ⟨g1, g2, rfl⟩ := hc
          simp only [parseUint10]
          rw [if_pos ⟨g1, g2⟩, if_neg (by omega), if_neg (by omega)]
          exact pu_par r _ v (by omega) h
theorem dch_plain : ∀ d, d < 10 → (dch d).toNat ≠ 43 ∧ (dch d).toNat ≠ 45 := by decide
theorem gth_dig {n : Nat} (hn : n ≤ 1114111) : gth (dig 10 n) = (n : Int) := by
  have h1 := pu_par (dig 10 n) 0 n (by omega) (par_dig (by omega) (by omega) n hn)
  have h2 : parseMag (dig 10 n) = .ok n := by
    unfold parseMag
    rw [if_neg (dig_ne 10 n), h1]
  unfold gth
  cases hd : dig 10 n with
  | nil => exact absurd hd (dig_ne 10 n)
  | cons c r =>
    obtain ⟨d, hd10, hc⟩ := dig_mem (b := 10) (by omega) (by omega) n c (by rw [hd]; simp)
    have hp := dch_plain d hd10
    rw [← hc] at hp
    rw [atoiAll_plain c r hp.1 hp.2, ← hd, h2]
    unfold signless
    simp only
    rw [if_neg (by omega)]
theorem gth_nil : gth [] = 0 := rfl
/-- What is read of a text: the kind and the number of its key, if it is one's. -/
def rdk (s : List UInt8) : Option (Nat × Nat) :=
  if chk (kz (cutc 32 s).1) (gth (cutc 32 s).2.1) = 0 ∧ ktx (kz (cutc 32 s).1).toNat (gth (cutc 32 s).2.1).toNat = s then some ((kz (cutc 32 s).1).toNat, (gth (cutc 32 s).2.1).toNat) else none
theorem rdk_only {s : List UInt8} {k c : Nat} (h : rdk s = some (k, c)) : chk (k : Int) (c : Int) = 0 ∧ ktx k c = s := by
  unfold rdk at h
  split at h
  · rename_i g
    obtain ⟨n, m, e1, e2, _⟩ := chk_zero g.1
    rw [e1, e2] at h g
    simp only [Int.toNat_natCast, Option.some.injEq, Prod.mk.injEq] at h g
    obtain ⟨rfl, rfl⟩ := h
    exact g
  · cases h
theorem rdk_text {k c : Nat} (h : chk (k : Int) (c : Int) = 0) : rdk (ktx k c) = some (k, c) := by
  obtain ⟨n, m, e1, e2, hn, h0, h1⟩ := chk_zero h
  obtain rfl : k = n := by omega
  obtain rfl : c = m := by omega
  have hcut : kz (cutc 32 (ktx k c)).1 = (k : Int) ∧ gth (cutc 32 (ktx k c)).2.1 = (c : Int) := by
    by_cases e : k = 0
    · subst e
      have : ktx 0 c = kn 0 ++ 32 :: dig 10 c := rfl
      rw [this, cutc_app _ (kn_all 0 (by omega)).2.1]
      refine ⟨?_, gth_dig (h0 rfl).2⟩
      unfold kz
      rw [kix_kn (by omega)]
    · have : ktx k c = kn k := by unfold ktx; rw [if_neg e]
      rw [this, cutc_no (kn_all k hn).2.1, h1 e]
      refine ⟨?_, gth_nil⟩
      unfold kz
      rw [kix_kn hn]
  unfold rdk
  rw [hcut.1, hcut.2]
  simp only [Int.toNat_natCast]
  rw [if_pos ⟨h, trivial⟩]
theorem ktx_inj {k c k' c' : Nat} (h : chk (k : Int) (c : Int) = 0) (h' : chk (k' : Int) (c' : Int) = 0) (e : ktx k c = ktx k' c') : k = k' ∧ c = c' := by
  have h1 := rdk_text h
  rw [e, rdk_text h'] at h1
  simp only [Option.some.injEq, Prod.mk.injEq] at h1
  exact ⟨h1.1.symm, h1.2.symm⟩
theorem rdk_none {s : List UInt8} (h : ∀ k c : Nat, chk (k : Int) (c : Int) = 0 → ktx k c ≠ s) : rdk s = none := by
  cases e : rdk s with
  | none => rfl
  | some p =>
    obtain ⟨h1, h2⟩ := rdk_only e
    exact absurd h2 (h _ _ h1)
end Go.Proofs.YtngbpkbojjipgaaDoor
