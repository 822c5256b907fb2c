/-
  The screen, over lists: rows of characters, what bytes do, what waits. No walk stands in this text.
-/
import Derived.Test.YtdaenaoagejgeaaGreatDoorFine
import Derived.Test.YtdaenaoagejgeaaGreatDoorUFact
import Derived.Test.YtdaenaoagejgeaaGreatDoorDig
import Derived.Test.YtdaenaoagejgeaaGreatDoorEsc
namespace Go.Proofs.YtdaenaoagejgeaaGreatDoor
open Go.RowKit Go.Lib
set_option linter.unusedVariables false

/-- What is seen: the rows ahead of the place's, the place's row, its column, how often the bell rang, are pastes told, how many bytes were odd. -/
structure Sn where
  up : List (List Nat)
  cur : List Nat
  col : Nat
  bells : Nat
  pa : Bool
  odd : Nat
/-- A new screen. -/
def sn0 : Sn := ⟨[], [], 0, 0, false, 0⟩
/-- A character laid into a column. -/
def laid (l : List Nat) (k c : Nat) : List Nat := if k < l.length then l.set k c else l ++ (List.replicate (k - l.length) 32 ++ [c])
theorem laid_len (l : List Nat) (k c : Nat) : (laid l k c).length = max l.length (k + 1) := by
  unfold laid
  split
  · rw [List.length_set]; omega
  · simp; omega
theorem laid_pr {l : List Nat} {k c : Nat} (h : Pr l) (hc : U.prB (c : Int) = true) : Pr (laid l k c) := by
  unfold laid
  split
  · intro x hx
    rcases List.mem_or_eq_of_mem_set hx with g | rfl
    · exact h x g
    · exact hc
  · refine h.app (Pr.app ?_ (Pr.one hc))
    intro x hx
    rw [List.eq_of_mem_replicate hx]
    decide
def S1 : List UInt8 := [27, 91, 75]
def S2 : List UInt8 := [27, 91, 63, 50, 48, 48, 52, 104]
def S3 : List UInt8 := [27, 91, 63, 50, 48, 48, 52, 108]
/-- How many columns a sequence goes back; 0, if it isn't one that does. -/
def bk (s : List UInt8) : Nat := ((List.range 10000).find? (fun n => decide (1 ≤ n ∧ s = 27 :: 91 :: (dig 10 n ++ [68])))).getD 0
theorem dig10_inj {m n : Nat} (h : dig 10 m = dig 10 n) : m = n := by
  have key : ∀ k m n : Nat, m ≤ k → dig 10 m = dig 10 n → m = n := by
    intro k
    induction k with
    | zero =>
      intro m n hm h
      obtain rfl : m = 0 := by omega
      by_cases hn : n < 10
      · rw [dig_lt (by omega), dig_lt hn] at h
        have h1 := List.cons.inj h
        have h2 := congrArg dv h1.1
        rw [dv_dch 0 (by omega), dv_dch n (by omega)] at h2
        exact Option.some.inj h2
      · rw [dig_lt (by omega), dig_ge (by omega) (by omega)] at h
        have := congrArg List.length h
        simp at this
        exact absurd this (dig_ne 10 _)
    | succ k ih =>
      intro m n hm h
      by_cases h1 : m < 10
      · by_cases hn : n < 10
        · rw [dig_lt h1, dig_lt hn] at h
          have h1' := List.cons.inj h
          have h2 := congrArg dv h1'.1
          rw [dv_dch m (by omega), dv_dch n (by omega)] at h2
          exact Option.some.inj h2
        · rw [dig_lt h1, dig_ge (by omega) (by omega)] at h
          have := congrArg List.length h
          simp at this
          exact absurd this (dig_ne 10 _)
      · by_cases hn : n < 10
        · rw [dig_lt hn, dig_ge (b := 10) (n := m) (by omega) (by omega)] at h
          have := congrArg List.length h
          simp at this
          exact absurd this (dig_ne 10 _)
        · rw [dig_ge (n := n) (by omega) (by omega), dig_ge (n := m) (by omega) (by omega)] at h
          have h3 := List.append_inj' h rfl
          have h4 := ih (m / 10) (n / 10) (by omega) h3.1
          have h5 := List.cons.inj h3.2
          have h6 := congrArg dv h5.1
          rw [dv_dch _ (by omega), dv_dch _ (by omega)] at h6
          have h7 := Option.some.inj h6
          omega
  exact key m m n (Nat.le_refl _) h
theorem bk_form {s : List UInt8} (h : bk s ≠ 0) : 1 ≤ bk s ∧ bk s ≤ 9999 ∧ s = 27 :: 91 :: (dig 10 (bk s) ++ [68]) := by
  unfold bk at h ⊢
  cases e : (List.range 10000).find? (fun n => decide (1 ≤ n ∧ s = 27 :: 91 :: (dig 10 n ++ [68]))) with
  | none => rw [e] at h; exact absurd rfl h
  | some n =>
    have h1 := List.find?_some e
    have h2 := List.mem_range.1 (List.mem_of_find?_eq_some e)
    have h3 := of_decide_eq_true h1
    exact ⟨h3.1, by rw [Option.getD_some]; omega, h3.2⟩
theorem bk_yes {n : Nat} (h1 : 1 ≤ n) (h2 : n ≤ 9999) : bk (27 :: 91 :: (dig 10 n ++ [68])) = n := by
  have h : bk (27 :: 91 :: (dig 10 n ++ [68])) ≠ 0 := by
    unfold bk
    cases e : (List.range 10000).find? (fun m => decide (1 ≤ m ∧ (27 :: 91 :: (dig 10 n ++ [68]) : List UInt8) = 27 :: 91 :: (dig 10 m ++ [68]))) with
    | none =>
      have := List.find?_eq_none.1 e n (List.mem_range.2 (by omega))
      exact absurd (decide_eq_true ⟨h1, rfl⟩) this
    | some m =>
      have h2 := List.find?_some e
      have h3 := of_decide_eq_true h2
      have h4 : 1 ≤ m := h3.1
      rw [Option.getD_some]
      omega
  have h3 := (bk_form h).2.2
  have h4 := (List.cons.inj (List.cons.inj h3).2).2
  exact (dig10_inj (List.append_inj' h4 rfl).1).symm
theorem bk_no {s : List UInt8} (h : ∀ n, 1 ≤ n → n ≤ 9999 → s ≠ 27 :: 91 :: (dig 10 n ++ [68])) : bk s = 0 := by
  rcases Nat.eq_zero_or_pos (bk s) with e | e
  · exact e
  · have h1 := bk_form (s := s) (by omega)
    exact absurd h1.2.2 (h _ h1.1 h1.2.1)
theorem bk_last {s : List UInt8} (h : bk s ≠ 0) : s.getLast? = some 68 := by
  rw [(bk_form h).2.2]
  simp [List.getLast?_cons]
/-- What a character does; none, if nothing. -/
def doC (S : Sn) (c : Nat) : Option Sn :=
  if U.prB (c : Int) = true then some { S with cur := laid S.cur S.col c, col := S.col + 1 }
  else if c = 13 then some { S with col := 0 }
  else if c = 10 then some { S with up := S.up ++ [S.cur], cur := [] }
  else if c = 7 then some { S with bells := S.bells + 1 }
  else none
/-- What a sequence does; none, if nothing. -/
def doQ (S : Sn) (s : List UInt8) : Option Sn :=
  if s = S1 then some { S with cur := S.cur.take S.col }
  else if s = S2 then some { S with pa := true }
  else if s = S3 then some { S with pa := false }
  else if bk s = 0 then none else some { S with col := S.col - bk s }
/-- Some bytes that are odd. -/
def oddS (S : Sn) (n : Nat) : Sn := { S with odd := S.odd + n }
/-- What a first character or sequence leaves, and how many bytes it has. -/
structure Sf where
  x : Sn
  n : Nat
def one (S : Sn) (l : List UInt8) : Option Sf :=
  if l = [] then none
  else if l.head? = some 27 then (if (nx l).e = 0 then some ⟨(doQ S (l.take (nx l).n)).getD (oddS S (nx l).n), (nx l).n⟩ else none)
  else if (nx8 l).2.2 = 7 then none
  else some ⟨(if (nx8 l).2.2 = 0 then doC S (nx8 l).1 else none).getD (oddS S (nx8 l).2.1), (nx8 l).2.1⟩
theorem one_nil (S : Sn) : one S [] = none := rfl
theorem one_esc (S : Sn) (r : List UInt8) : one S (27 :: r) = if (nx (27 :: r)).e = 0 then some ⟨(doQ S ((27 :: r).take (nx (27 :: r)).n)).getD (oddS S (nx (27 :: r)).n), (nx (27 :: r)).n⟩ else none := by
  unfold one
  rw [if_neg (by simp), if_pos (by simp)]
theorem one_chr (S : Sn) {c : UInt8} (r : List UInt8) (h : c ≠ 27) : one S (c :: r) = if (nx8 (c :: r)).2.2 = 7 then none else some ⟨(if (nx8 (c :: r)).2.2 = 0 then doC S (nx8 (c :: r)).1 else none).getD (oddS S (nx8 (c :: r)).2.1), (nx8 (c :: r)).2.1⟩ := by
  unfold one
  rw [if_neg (by simp), if_neg (by simpa using h)]
theorem nx_pos {r : List UInt8} (h : (nx (27 :: r)).e = 0) : 1 ≤ (nx (27 :: r)).n ∧ (nx (27 :: r)).n ≤ (27 :: r).length ∧ (ln (27 :: r)).2 = true := by
  cases e : (ln (27 :: r)).2 with
  | false =>
    rw [nx_short e] at h
    cases h
  | true =>
    rw [nx_over e]
    have := ln_le (l := 27 :: r) (by simp)
    exact ⟨this.1, this.2.1, rfl⟩
theorem nx_more {r : List UInt8} (m : List UInt8) (h : (nx (27 :: r)).e = 0) : nx (27 :: r ++ m) = nx (27 :: r) := by
  have hp := nx_pos h
  have e := hp.2.2
  have e2 := ln_app (27 :: r) m e
  have hl := (ln_le (l := 27 :: r) (by simp)).2.1
  have e3 : (ln (27 :: (r ++ m))).2 = true := by rw [← List.cons_append, e2]; exact e
  rw [List.cons_append, nx_over e3, nx_over e, ← List.cons_append, e2, List.take_append_of_le_length hl]
theorem one_bd {S : Sn} {l : List UInt8} {f : Sf} (h : one S l = some f) : 1 ≤ f.n ∧ f.n ≤ l.length := by
  rcases l with _ | ⟨c, r⟩
  · cases h
  · by_cases hc : c = 27
    · subst hc
      rw [one_esc] at h
      by_cases he : (nx (27 :: r)).e = 0
      · rw [if_pos he] at h
        cases h
        have := nx_pos he
        exact ⟨this.1, this.2.1⟩
      · rw [if_neg he] at h
        cases h
    · rw [one_chr S r hc] at h
      by_cases he : (nx8 (c :: r)).2.2 = 7
      · rw [if_pos he] at h
        cases h
      · rw [if_neg he] at h
        cases h
        have := nx8_pos (l := c :: r) (by simp)
        exact ⟨this.1, this.2.1⟩
/-- What stands behind plays no part. -/
theorem one_app {S : Sn} {l : List UInt8} {f : Sf} (m : List UInt8) (h : one S l = some f) : one S (l ++ m) = some f := by
  rcases l with _ | ⟨c, r⟩
  · cases h
  · by_cases hc : c = 27
    · subst hc
      rw [one_esc] at h
      by_cases he : (nx (27 :: r)).e = 0
      · rw [if_pos he] at h
        have hp := nx_pos he
        have := nx_more m he
        rw [List.cons_append] at this ⊢
        rw [one_esc, this, if_pos he, ← List.cons_append, List.take_append_of_le_length hp.2.1]
        exact h
      · rw [if_neg he] at h
        cases h
    · rw [one_chr S r hc] at h
      by_cases he : (nx8 (c :: r)).2.2 = 7
      · rw [if_pos he] at h
        cases h
      · rw [if_neg he] at h
        have := nx8_app m (l := c :: r) (by simp) he
        rw [List.cons_append] at this ⊢
        rw [one_chr S _ hc, this, if_neg he]
        exact h
/-- A beginning is short. -/
theorem one_held {S : Sn} {l : List UInt8} (h : one S l = none) : l.length ≤ 34 := by
  rcases l with _ | ⟨c, r⟩
  · simp
  · by_cases hc : c = 27
    · subst hc
      rw [one_esc] at h
      by_cases he : (nx (27 :: r)).e = 0
      · rw [if_pos he] at h
        cases h
      · cases e : (ln (27 :: r)).2 with
        | false =>
          have := ln_short (l := 27 :: r) (by simp) e
          omega
        | true =>
          rw [nx_over e] at he
          exact absurd rfl he
    · rw [one_chr S r hc] at h
      by_cases he : (nx8 (c :: r)).2.2 = 7
      · have := nx8_seven he
        omega
      · rw [if_neg he] at h
        cases h
/-- Whether there is a first one hangs on the bytes alone. -/
theorem one_free {S S' : Sn} {l : List UInt8} (h : one S l = none) : one S' l = none := by
  rcases l with _ | ⟨c, r⟩
  · rfl
  · by_cases hc : c = 27
    · subst hc
      rw [one_esc] at h ⊢
      by_cases he : (nx (27 :: r)).e = 0
      · rw [if_pos he] at h
        cases h
      · rw [if_neg he]
    · rw [one_chr S r hc] at h
      rw [one_chr S' r hc]
      by_cases he : (nx8 (c :: r)).2.2 = 7
      · rw [if_pos he]
      · rw [if_neg he] at h
        cases h
/-- What bytes leave, and what waits. -/
structure Fd where
  S : Sn
  h : List UInt8
def fdF : Nat → Sn → List UInt8 → Fd
  | 0, S, l => ⟨S, l⟩
  | k + 1, S, l => match one S l with
    | none => ⟨S, l⟩
    | some f => fdF k f.x (l.drop f.n)
def fd (S : Sn) (l : List UInt8) : Fd := fdF l.length S l
theorem fdF_none {k : Nat} {S : Sn} {l : List UInt8} (h : one S l = none) : fdF k S l = ⟨S, l⟩ := by
  cases k with
  | zero => rfl
  | succ k => simp only [fdF, h]
theorem fdF_some {k : Nat} {S : Sn} {l : List UInt8} {f : Sf} (h : one S l = some f) : fdF (k + 1) S l = fdF k f.x (l.drop f.n) := by
  simp only [fdF, h]
theorem fdF_more : ∀ (n : Nat) (S : Sn) (l : List UInt8) (k : Nat), l.length ≤ n → l.length ≤ k → fdF k S l = fdF l.length S l := by
  intro n
  induction n with
  | zero =>
    intro S l k hn hk
    obtain rfl : l = [] := List.length_eq_zero_iff.1 (by omega)
    rw [fdF_none (one_nil S), fdF_none (one_nil S)]
  | succ n ih =>
    intro S l k hn hk
    cases h : one S l with
    | none => rw [fdF_none h, fdF_none h]
    | some f =>
      have hb := one_bd h
      obtain ⟨j, rfl⟩ : ∃ j, k = j + 1 := ⟨k - 1, by omega⟩
      obtain ⟨i, hi⟩ : ∃ i, l.length = i + 1 := ⟨l.length - 1, by omega⟩
      rw [hi, fdF_some h, fdF_some h]
      have e : (l.drop f.n).length ≤ n := by simp; omega
      rw [ih f.x (l.drop f.n) j e (by simp; omega), ih f.x (l.drop f.n) i e (by simp; omega)]
theorem fd_none {S : Sn} {l : List UInt8} (h : one S l = none) : fd S l = ⟨S, l⟩ := fdF_none h
theorem fd_some {S : Sn} {l : List UInt8} {f : Sf} (h : one S l = some f) : fd S l = fd f.x (l.drop f.n) := by
  have hb := one_bd h
  obtain ⟨i, hi⟩ : ∃ i, l.length = i + 1 := ⟨l.length - 1, by omega⟩
  unfold fd
  rw [hi, fdF_some h, fdF_more i f.x (l.drop f.n) i (by simp; omega) (by simp; omega)]
theorem fd_nil (S : Sn) : fd S [] = ⟨S, []⟩ := rfl
/-- By strong recursion on how many bytes there are. -/
theorem fd_ind {Q : Sn → List UInt8 → Prop} (h0 : ∀ S l, one S l = none → Q S l) (h1 : ∀ S l f, one S l = some f → Q f.x (l.drop f.n) → Q S l) : ∀ S l, Q S l := by
  have key : ∀ n S l, l.length ≤ n → Q S l := by
    intro n
    induction n with
    | zero =>
      intro S l hn
      obtain rfl : l = [] := List.length_eq_zero_iff.1 (by omega)
      exact h0 S [] rfl
    | succ n ih =>
      intro S l hn
      cases h : one S l with
      | none => exact h0 S l h
      | some f =>
        have hb := one_bd h
        exact h1 S l f h (ih _ _ (by simp; omega))
  exact fun S l => key l.length S l (Nat.le_refl _)
/-- Bytes behind bytes. -/
theorem fd_app (m : List UInt8) : ∀ S l, fd S (l ++ m) = fd (fd S l).S ((fd S l).h ++ m) := by
  refine fd_ind (fun S l h => ?_) (fun S l f h ih => ?_)
  · rw [fd_none h]
  · have hb := one_bd h
    rw [fd_some (one_app m h), fd_some h, List.drop_append_of_le_length hb.2, ih]
theorem fd_end : ∀ S l, one (fd S l).S (fd S l).h = none := by
  refine fd_ind (fun S l h => ?_) (fun S l f h ih => ?_)
  · rw [fd_none h]
    exact h
  · rw [fd_some h]
    exact ih
theorem fd_held (S : Sn) (l : List UInt8) : (fd S l).h.length ≤ 34 := one_held (fd_end S l)
/-- A first one that is whole, and others behind. -/
theorem fd_step {S : Sn} {l : List UInt8} {f : Sf} (m : List UInt8) (h : one S l = some f) (hn : f.n = l.length) : fd S (l ++ m) = fd f.x m := by
  rw [fd_some (one_app m h), hn]
  simp

/-! ### How great it all is -/
structure Oks (S : Sn) (T : Nat) : Prop where
  rows : S.up.length ≤ T
  col : S.col ≤ T
  bells : S.bells ≤ T
  odd : S.odd ≤ T
  cur : S.cur.length ≤ T
  lens : ∀ r ∈ S.up, r.length ≤ T
  pr : Pr S.cur
  prs : ∀ r ∈ S.up, Pr r
theorem Oks.zero : Oks sn0 0 := ⟨Nat.le_refl _, Nat.le_refl _, Nat.le_refl _, Nat.le_refl _, Nat.le_refl _, fun _ h => (by cases h), Pr.nil, fun _ h => (by cases h)⟩
theorem Oks.mono {S : Sn} {T T' : Nat} (h : Oks S T) (ht : T ≤ T') : Oks S T' :=
  ⟨Nat.le_trans h.rows ht, Nat.le_trans h.col ht, Nat.le_trans h.bells ht, Nat.le_trans h.odd ht, Nat.le_trans h.cur ht, fun r hr => Nat.le_trans (h.lens r hr) ht, h.pr, h.prs⟩
theorem Oks.doC {S S' : Sn} {T c : Nat} (h : Oks S T) (e : doC S c = some S') : Oks S' (T + 1) := by
  have h1 := h.mono (Nat.le_succ T)
  unfold Go.Proofs.YtdaenaoagejgeaaGreatDoor.doC at e
  split at e
  · rename_i hp
    cases e
    exact ⟨h1.rows, by have := h.col; simp only; omega, h1.bells, h1.odd, by rw [laid_len]; have := h.cur; have := h.col; omega, h1.lens, laid_pr h.pr hp, h1.prs⟩
  · split at e
    · cases e
      exact ⟨h1.rows, Nat.zero_le _, h1.bells, h1.odd, h1.cur, h1.lens, h1.pr, h1.prs⟩
    · split at e
      · cases e
        refine ⟨by have := h.rows; simp; omega, h1.col, h1.bells, h1.odd, Nat.zero_le _, fun r hr => ?_, Pr.nil, fun r hr => ?_⟩
        · rcases List.mem_append.1 hr with g | g
          · exact h1.lens r g
          · rw [List.mem_singleton.1 g]; exact h1.cur
        · rcases List.mem_append.1 hr with g | g
          · exact h1.prs r g
          · rw [List.mem_singleton.1 g]; exact h1.pr
      · split at e
        · cases e
          exact ⟨h1.rows, h1.col, by have := h.bells; simp only; omega, h1.odd, h1.cur, h1.lens, h1.pr, h1.prs⟩
        · cases e
theorem Oks.doQ {S S' : Sn} {T : Nat} {s : List UInt8} (h : Oks S T) (e : doQ S s = some S') : Oks S' T := by
  unfold Go.Proofs.YtdaenaoagejgeaaGreatDoor.doQ at e
  split at e
  · cases e
    exact ⟨h.rows, h.col, h.bells, h.odd, by have := h.cur; simp; omega, h.lens, fun c hc => h.pr c (List.mem_of_mem_take hc), h.prs⟩
  · split at e
    · cases e
      exact ⟨h.rows, h.col, h.bells, h.odd, h.cur, h.lens, h.pr, h.prs⟩
    · split at e
      · cases e
        exact ⟨h.rows, h.col, h.bells, h.odd, h.cur, h.lens, h.pr, h.prs⟩
      · split at e
        · cases e
        · cases e
          exact ⟨h.rows, by have := h.col; simp only; omega, h.bells, h.odd, h.cur, h.lens, h.pr, h.prs⟩
theorem Oks.oddS {S : Sn} {T n : Nat} (h : Oks S T) : Oks (oddS S n) (T + n) := by
  have h1 := h.mono (Nat.le_add_right T n)
  exact ⟨h1.rows, h1.col, h1.bells, by have := h.odd; show S.odd + n ≤ _; omega, h1.cur, h1.lens, h1.pr, h1.prs⟩
theorem Oks.one {S : Sn} {T : Nat} {l : List UInt8} {f : Sf} (h : Oks S T) (e : one S l = some f) : Oks f.x (T + f.n) := by
  have hb := one_bd e
  rcases l with _ | ⟨c, r⟩
  · cases e
  · by_cases hc : c = 27
    · subst hc
      rw [one_esc] at e
      by_cases he : (nx (27 :: r)).e = 0
      · rw [if_pos he] at e
        cases e
        cases hq : Go.Proofs.YtdaenaoagejgeaaGreatDoor.doQ S ((27 :: r).take (nx (27 :: r)).n) with
        | none => exact h.oddS
        | some S' => exact (h.doQ hq).mono (Nat.le_add_right _ _)
      · rw [if_neg he] at e
        cases e
    · rw [one_chr S r hc] at e
      by_cases he : (nx8 (c :: r)).2.2 = 7
      · rw [if_pos he] at e
        cases e
      · rw [if_neg he] at e
        cases e
        simp only at hb
        by_cases h0 : (nx8 (c :: r)).2.2 = 0
        · rw [if_pos h0]
          cases hq : Go.Proofs.YtdaenaoagejgeaaGreatDoor.doC S (nx8 (c :: r)).1 with
          | none => exact h.oddS
          | some S' => exact (h.doC hq).mono (show T + 1 ≤ T + (nx8 (c :: r)).2.1 by omega)
        · rw [if_neg h0]
          exact h.oddS
theorem Oks.fd : ∀ (S : Sn) (l : List UInt8) (T : Nat), Oks S T → ∃ T', Oks (fd S l).S T' ∧ T' + (fd S l).h.length = T + l.length := by
  refine fd_ind (fun S l h T hT => ?_) (fun S l f h ih T hT => ?_)
  · rw [fd_none h]
    exact ⟨T, hT, rfl⟩
  · have hb := one_bd h
    obtain ⟨T', h1, h2⟩ := ih (T + f.n) (hT.one h)
    rw [fd_some h]
    refine ⟨T', h1, ?_⟩
    rw [h2, List.length_drop]
    omega
end Go.Proofs.YtdaenaoagejgeaaGreatDoor
