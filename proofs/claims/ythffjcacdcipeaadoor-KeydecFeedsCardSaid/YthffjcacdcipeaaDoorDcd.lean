/-
  The decoder, over lists of bytes: the key that bytes begin with; all keys of bytes, what is held, and whether a paste is begun.
-/
import Derived.Test.YthffjcacdcipeaaDoorUFact
import Derived.Test.YthffjcacdcipeaaDoorKOf
namespace Go.Proofs.YthffjcacdcipeaaDoor
set_option linter.unusedVariables false

/-- A key: its kind and its character. -/
abbrev Ky := Int × Int
/-- The key of a character, by whether a paste is begun. -/
def ock (p : Bool) (c : Int) : Ky := if p = true ∧ K.shown c = false then (15, 0) else K.ofk c
/-- The key of a sequence, by whether a paste is begun, and whether one is begun behind it. -/
def osk (p : Bool) (k : Int) : Ky × Bool :=
  if p = true then (if k = 14 then ((14, 0), false) else ((15, 0), true)) else if k = 14 then ((15, 0), false) else if k = 13 then ((13, 0), true) else ((k, 0), false)
/-- The key that bytes begin with, how many bytes it has, and whether a paste is begun behind it. None: a beginning, or nothing. -/
structure Fs where
  x : Ky
  n : Nat
  p : Bool
def fst1 (p : Bool) (l : List UInt8) : Option Fs :=
  if l = [] then none
  else if l.head? = some 27 then (if (nx l).e = 0 then some ⟨(osk p (nx l).k).1, (nx l).n, (osk p (nx l).k).2⟩ else none)
  else if (nx8 l).2.2 = 7 then none else some ⟨ock p (if (nx8 l).2.2 = 0 then ((nx8 l).1 : Int) else 65533), (nx8 l).2.1, p⟩
theorem fst1_nil (p : Bool) : fst1 p [] = none := rfl
theorem fst1_esc (p : Bool) (r : List UInt8) : fst1 p (27 :: r) = if (nx (27 :: r)).e = 0 then some ⟨(osk p (nx (27 :: r)).k).1, (nx (27 :: r)).n, (osk p (nx (27 :: r)).k).2⟩ else none := by
  unfold fst1
  rw [if_neg (by simp), if_pos (by simp)]
theorem fst1_chr (p : Bool) {c : UInt8} (r : List UInt8) (h : c ≠ 27) : fst1 p (c :: r) = if (nx8 (c :: r)).2.2 = 7 then none else some ⟨ock p (if (nx8 (c :: r)).2.2 = 0 then ((nx8 (c :: r)).1 : Int) else 65533), (nx8 (c :: r)).2.1, p⟩ := by
  unfold fst1
  rw [if_neg (by simp), if_neg (by simpa using h)]
/-- A sequence's length, if it is over. -/
theorem nx_pos {r : List UInt8} (h : (nx (27 :: r)).e = 0) : 1 ≤ (nx (27 :: r)).n ∧ (nx (27 :: r)).n ≤ (27 :: r).length ∧ (ln (27 :: r)).2 = true := by
  cases e : (ln (27 :: r)).2 with
  | false =>
    rw [nx_short e] at h
    cases h
  | true =>
    rw [nx_over e]
    have := ln_le (l := 27 :: r) (by simp)
    exact ⟨this.1, this.2.1, rfl⟩
theorem nx_more {r : List UInt8} (m : List UInt8) (h : (nx (27 :: r)).e = 0) : nx (27 :: r ++ m) = nx (27 :: r) := by
  have hp := nx_pos h
  have e := hp.2.2
  have e2 := ln_app (27 :: r) m e
  have hl := (ln_le (l := 27 :: r) (by simp)).2.1
  have e3 : (ln (27 :: (r ++ m))).2 = true := by rw [← List.cons_append, e2]; exact e
  rw [List.cons_append, nx_over e3, nx_over e, ← List.cons_append, e2, List.take_append_of_le_length hl]
theorem fst1_bd {p : Bool} {l : List UInt8} {f : Fs} (h : fst1 p l = some f) : 1 ≤ f.n ∧ f.n ≤ l.length := by
  rcases l with _ | ⟨c, r⟩
  · cases h
  · by_cases hc : c = 27
    · subst hc
      rw [fst1_esc] at h
      by_cases he : (nx (27 :: r)).e = 0
      · rw [if_pos he] at h
        cases h
        have := nx_pos he
        exact ⟨this.1, this.2.1⟩
      · rw [if_neg he] at h
        cases h
    · rw [fst1_chr p r hc] at h
      by_cases he : (nx8 (c :: r)).2.2 = 7
      · rw [if_pos he] at h
        cases h
      · rw [if_neg he] at h
        cases h
        have := nx8_pos (l := c :: r) (by simp)
        exact ⟨this.1, this.2.1⟩
/-- What stands behind plays no part. -/
theorem fst1_app {p : Bool} {l : List UInt8} {f : Fs} (m : List UInt8) (h : fst1 p l = some f) : fst1 p (l ++ m) = some f := by
  rcases l with _ | ⟨c, r⟩
  · cases h
  · by_cases hc : c = 27
    · subst hc
      rw [fst1_esc] at h
      by_cases he : (nx (27 :: r)).e = 0
      · rw [if_pos he] at h
        have := nx_more m he
        rw [List.cons_append] at this ⊢
        rw [fst1_esc, this, if_pos he]
        exact h
      · rw [if_neg he] at h
        cases h
    · rw [fst1_chr p r hc] at h
      by_cases he : (nx8 (c :: r)).2.2 = 7
      · rw [if_pos he] at h
        cases h
      · rw [if_neg he] at h
        have := nx8_app m (l := c :: r) (by simp) he
        rw [List.cons_append] at this ⊢
        rw [fst1_chr p _ hc, this, if_neg he]
        exact h
/-- A beginning is short. -/
theorem fst1_held {p : Bool} {l : List UInt8} (h : fst1 p l = none) : l.length ≤ 34 := by
  rcases l with _ | ⟨c, r⟩
  · simp
  · by_cases hc : c = 27
    · subst hc
      rw [fst1_esc] at h
      by_cases he : (nx (27 :: r)).e = 0
      · rw [if_pos he] at h
        cases h
      · cases e : (ln (27 :: r)).2 with
        | false =>
          have := ln_short (l := 27 :: r) (by simp) e
          omega
        | true =>
          rw [nx_over e] at he
          exact absurd rfl he
    · rw [fst1_chr p r hc] at h
      by_cases he : (nx8 (c :: r)).2.2 = 7
      · have := nx8_seven he
        omega
      · rw [if_neg he] at h
        cases h
/-- Keys; what is held; is a paste begun? -/
structure Rd where
  ks : List Ky
  h : List UInt8
  p : Bool
def rdF : Nat → Bool → List UInt8 → Rd
  | 0, p, l => ⟨[], l, p⟩
  | k + 1, p, l => match fst1 p l with
    | none => ⟨[], l, p⟩
    | some f => ⟨f.x :: (rdF k f.p (l.drop f.n)).ks, (rdF k f.p (l.drop f.n)).h, (rdF k f.p (l.drop f.n)).p⟩
def rd (p : Bool) (l : List UInt8) : Rd := rdF l.length p l
theorem rdF_none {k : Nat} {p : Bool} {l : List UInt8} (h : fst1 p l = none) : rdF k p l = ⟨[], l, p⟩ := by
  cases k with
  | zero => rfl
  | succ k => simp only [rdF, h]
theorem rdF_some {k : Nat} {p : Bool} {l : List UInt8} {f : Fs} (h : fst1 p l = some f) : rdF (k + 1) p l = ⟨f.x :: (rdF k f.p (l.drop f.n)).ks, (rdF k f.p (l.drop f.n)).h, (rdF k f.p (l.drop f.n)).p⟩ := by
  simp only [rdF, h]
theorem rdF_more : ∀ (n : Nat) (p : Bool) (l : List UInt8) (k : Nat), l.length ≤ n → l.length ≤ k → rdF k p l = rdF l.length p l := by
  intro n
  induction n with
  | zero =>
    intro p l k hn hk
    obtain rfl : l = [] := List.length_eq_zero_iff.1 (by omega)
    rw [rdF_none (fst1_nil p), rdF_none (fst1_nil p)]
  | succ n ih =>
    intro p l k hn hk
    cases h : fst1 p l with
    | none => rw [rdF_none h, rdF_none h]
    | some f =>
      have hb := fst1_bd h
      obtain ⟨j, rfl⟩ : ∃ j, k = j + 1 := ⟨k - 1, by omega⟩
      obtain ⟨i, hi⟩ : ∃ i, l.length = i + 1 := ⟨l.length - 1, by omega⟩
      rw [hi, rdF_some h, rdF_some h]
      have e : (l.drop f.n).length ≤ n := by simp; omega
      rw [ih f.p (l.drop f.n) j e (by simp; omega), ih f.p (l.drop f.n) i e (by simp; omega)]
theorem rd_none {p : Bool} {l : List UInt8} (h : fst1 p l = none) : rd p l = ⟨[], l, p⟩ := rdF_none h
theorem rd_some {p : Bool} {l : List UInt8} {f : Fs} (h : fst1 p l = some f) : rd p l = ⟨f.x :: (rd f.p (l.drop f.n)).ks, (rd f.p (l.drop f.n)).h, (rd f.p (l.drop f.n)).p⟩ := by
  have hb := fst1_bd h
  obtain ⟨i, hi⟩ : ∃ i, l.length = i + 1 := ⟨l.length - 1, by omega⟩
  unfold rd
  rw [hi, rdF_some h, rdF_more i f.p (l.drop f.n) i (by simp; omega) (by simp; omega)]
theorem rd_nil (p : Bool) : rd p [] = ⟨[], [], p⟩ := rfl
/-- By strong recursion on how many bytes there are. -/
theorem rd_ind {Q : Bool → List UInt8 → Prop} (h0 : ∀ p l, fst1 p l = none → Q p l) (h1 : ∀ p l f, fst1 p l = some f → Q f.p (l.drop f.n) → Q p l) : ∀ p l, Q p l := by
  have key : ∀ n p l, l.length ≤ n → Q p l := by
    intro n
    induction n with
    | zero =>
      intro p l hn
      obtain rfl : l = [] := List.length_eq_zero_iff.1 (by omega)
      exact h0 p [] rfl
    | succ n ih =>
      intro p l hn
      cases h : fst1 p l with
      | none => exact h0 p l h
      | some f =>
        have hb := fst1_bd h
        exact h1 p l f h (ih _ _ (by simp; omega))
  exact fun p l => key l.length p l (Nat.le_refl _)
/-- Bytes behind bytes. -/
theorem rd_app (m : List UInt8) : ∀ p l, rd p (l ++ m) = ⟨(rd p l).ks ++ (rd (rd p l).p ((rd p l).h ++ m)).ks, (rd (rd p l).p ((rd p l).h ++ m)).h, (rd (rd p l).p ((rd p l).h ++ m)).p⟩ := by
  refine rd_ind (fun p l h => ?_) (fun p l f h ih => ?_)
  · rw [rd_none h]
    rfl
  · have hb := fst1_bd h
    rw [rd_some (fst1_app m h), rd_some h, List.drop_append_of_le_length hb.2, ih]
    rfl
theorem rd_end : ∀ p l, fst1 (rd p l).p (rd p l).h = none := by
  refine rd_ind (fun p l h => ?_) (fun p l f h ih => ?_)
  · rw [rd_none h]
    exact h
  · rw [rd_some h]
    exact ih
theorem rd_held (p : Bool) (l : List UInt8) : (rd p l).h.length ≤ 34 := fst1_held (rd_end p l)
theorem rd_len : ∀ p l, (rd p l).ks.length + (rd p l).h.length ≤ l.length := by
  refine rd_ind (fun p l h => ?_) (fun p l f h ih => ?_)
  · rw [rd_none h]
    simp
  · have hb := fst1_bd h
    rw [rd_some h]
    simp only [List.length_cons, List.length_drop] at ih ⊢
    omega
theorem rd_ne {p : Bool} {l : List UInt8} (hl : l ≠ []) : (rd p l).ks ≠ [] ∨ (rd p l).h ≠ [] := by
  cases h : fst1 p l with
  | none => exact .inr (by rw [rd_none h]; exact hl)
  | some f => exact .inl (by rw [rd_some h]; simp)
end Go.Proofs.YthffjcacdcipeaaDoor
