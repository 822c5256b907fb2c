/-
  A sequence of parameters and others, as long as one likes, over lists of bytes.
-/
import Derived.Test.YtndofkjmbipagaaAliveE
namespace Go.Proofs.Ytndofkjmbipagaa
open Go.RowKit Go.Lib
set_option linter.unusedVariables false

/-- Bytes of which each may stand behind the one ahead. -/
def Fine : Nat → List UInt8 → Prop
  | _, [] => True
  | hi, c :: r => 32 ≤ c.toNat ∧ c.toNat < hi ∧ Fine (if c.toNat < 48 then 48 else hi) r
/-- What stands below it may stand behind them. -/
def hiOf : Nat → List UInt8 → Nat
  | hi, [] => hi
  | hi, c :: r => hiOf (if c.toNat < 48 then 48 else hi) r
theorem bd_fine (rest : List UInt8) : ∀ (xs : List UInt8) (room hi : Nat), hi ≤ 64 → Fine hi xs → xs.length ≤ room →
    bd room hi (xs ++ rest) = (xs.length + (bd (room - xs.length) (hiOf hi xs) rest).1, (bd (room - xs.length) (hiOf hi xs) rest).2)
  | [], room, hi, _, _, _ => by simp [hiOf]
  | c :: r, room, hi, h64, ⟨h1, h2, h3⟩, hl => by
    simp only [List.length_cons] at hl ⊢
    have h64' : (if c.toNat < 48 then 48 else hi) ≤ 64 := by split <;> omega
    rw [List.cons_append, bd_go _ _ _ (by omega) (by omega), bd_fine rest r (room - 1) _ h64' h3 (by omega), show room - 1 - r.length = room - (r.length + 1) from by omega]
    rw [hiOf]
    exact Prod.ext (show r.length + _ + 1 = r.length + 1 + _ by omega) rfl
theorem bd_long (rest : List UInt8) : ∀ (xs : List UInt8) (room hi : Nat), hi ≤ 64 → Fine hi xs → room < xs.length → bd room hi (xs ++ rest) = (room, true)
  | [], room, hi, _, _, hl => by simp at hl
  | c :: r, room, hi, h64, ⟨h1, h2, h3⟩, hl => by
    simp only [List.length_cons] at hl
    have h64' : (if c.toNat < 48 then 48 else hi) ≤ 64 := by split <;> omega
    rw [List.cons_append]
    by_cases h0 : room = 0
    · subst h0
      rw [bd_brk _ _ _ (by omega) (.inl rfl)]
    · rw [bd_go _ _ _ (by omega) (by omega), bd_long rest r (room - 1) _ h64' h3 (by omega)]
      exact Prod.ext (show room - 1 + 1 = room by omega) rfl
theorem fine_q (q : UInt8) (h1 : 32 ≤ q.toNat) (h2 : q.toNat < 48) : ∀ (o hi : Nat), 48 ≤ hi → Fine hi (List.replicate o q)
  | 0, hi, _ => trivial
  | o + 1, hi, h => ⟨h1, by omega, by rw [if_pos h2]; exact fine_q q h1 h2 o 48 (Nat.le_refl _)⟩
theorem fine_pq (p q : UInt8) (h1 : 48 ≤ p.toNat) (h2 : p.toNat < 64) (h3 : 32 ≤ q.toNat) (h4 : q.toNat < 48) : ∀ (n o : Nat), Fine 64 (List.replicate n p ++ List.replicate o q)
  | 0, o => fine_q q h3 h4 o 64 (by omega)
  | n + 1, o => ⟨by omega, h2, by rw [if_neg (by omega)]; exact fine_pq p q h1 h2 h3 h4 n o⟩
/-- The bytes that the statement makes, as far as i of k: o others behind the rest. -/
def lg (p q : UInt8) (k o i : Nat) : List UInt8 := 27 :: 91 :: (List.replicate (min i (k - o)) p ++ List.replicate (i - (k - o)) q)
theorem lg_len (p q : UInt8) (k o i : Nat) : (lg p q k o i).length = i + 2 := by simp [lg]; omega
theorem lg_p {p q : UInt8} {k o i : Nat} (h : i < k - o) : lg p q k o i ++ [p] = lg p q k o (i + 1) := by
  unfold lg
  rw [show i - (k - o) = 0 by omega, show i + 1 - (k - o) = 0 by omega, show min i (k - o) = i by omega, show min (i + 1) (k - o) = i + 1 by omega]
  simp [List.replicate_succ']
theorem lg_q {p q : UInt8} {k o i : Nat} (h : ¬ i < k - o) : lg p q k o i ++ [q] = lg p q k o (i + 1) := by
  unfold lg
  rw [show i + 1 - (k - o) = i - (k - o) + 1 by omega, show min i (k - o) = k - o by omega, show min (i + 1) (k - o) = k - o by omega]
  simp [List.replicate_succ']
theorem kk5 {s : List UInt8} (h : s.length ≠ 3) : kk s ≠ 5 := by
  have ha : ∀ p ∈ kns, p.2 = 5 → p.1.length = 3 := by decide
  rcases kk_cases s with ⟨_, e⟩ | ⟨z, _, e, hm⟩
  · rw [e]
    intro h5
    cases h5
  · rw [e]
    intro e5
    exact h (ha _ hm e5)
theorem kk_long {s : List UInt8} (h : 6 < s.length) : kk s = 15 := by
  have ha : ∀ p ∈ kns, p.1.length ≤ 6 := by decide
  rcases kk_cases s with ⟨_, e⟩ | ⟨z, _, _, hm⟩
  · exact e
  · have h1 : s.length ≤ 6 := ha _ hm
    omega
theorem lg_fine {p q : UInt8} (h1 : 48 ≤ p.toNat) (h2 : p.toNat < 64) (h3 : 32 ≤ q.toNat) (h4 : q.toNat < 48) (k o : Nat) : ∃ xs, xs.length = k ∧ lg p q k o k = 27 :: 91 :: xs ∧ Fine 64 xs :=
  ⟨_, by simp <;> omega, rfl, fine_pq p q h1 h2 h3 h4 _ _⟩
/-- As many as there may be. -/
theorem lg_short {p q : UInt8} (h1 : 48 ≤ p.toNat) (h2 : p.toNat < 64) (h3 : 32 ≤ q.toNat) (h4 : q.toNat < 48) {k o : Nat} (hk : k ≤ 32) :
    (nx (lg p q k o k)).e = 7 ∧ (nx (lg p q k o k ++ [67])).e = 0 ∧ (nx (lg p q k o k ++ [67])).n = k + 3 ∧ ((nx (lg p q k o k ++ [67])).k = 5 ↔ k = 0) := by
  obtain ⟨xs, hl, e, hf⟩ := lg_fine h1 h2 h3 h4 k o
  rw [e]
  have l1 : ln (27 :: 91 :: xs) = (k + 2, false) := by
    rw [ln_some (m := 32) 27 xs rfl]
    have := bd_fine [] xs 32 64 (by omega) hf (by omega)
    rw [List.append_nil, hl] at this
    rw [this]
    rfl
  have l2 : ln (27 :: 91 :: (xs ++ [67])) = (k + 3, true) := by
    rw [ln_some (m := 32) 27 _ rfl, bd_fine [67] xs 32 64 (by omega) hf (by omega), hl, bd_end [] _ _ (by decide)]
  rw [List.cons_append, List.cons_append, nx_short (by rw [l1]), nx_over (by rw [l2]), l2]
  refine ⟨rfl, rfl, rfl, ?_⟩
  show kk ((27 :: 91 :: (xs ++ [67])).take (k + 3)) = 5 ↔ k = 0
  have ht : (27 :: 91 :: (xs ++ [67])).take (k + 3) = 27 :: 91 :: (xs ++ [67]) := List.take_of_length_le (by simp; omega)
  rw [ht]
  constructor
  · intro h5
    rcases Nat.eq_zero_or_pos k with h0 | h0
    · exact h0
    · exact absurd h5 (kk5 (by simp only [List.length_cons, List.length_append, List.length_nil]; omega))
  · intro h0
    subst h0
    obtain rfl : xs = [] := List.length_eq_zero_iff.1 hl
    decide
/-- More than there may be. -/
theorem lg_over {p q : UInt8} (h1 : 48 ≤ p.toNat) (h2 : p.toNat < 64) (h3 : 32 ≤ q.toNat) (h4 : q.toNat < 48) {k o : Nat} (hk : 32 < k) :
    (nx (lg p q k o k)).e = 0 ∧ nx (lg p q k o k ++ [67]) = ⟨15, 34, 0⟩ := by
  obtain ⟨xs, hl, e, hf⟩ := lg_fine h1 h2 h3 h4 k o
  rw [e]
  have l1 : ln (27 :: 91 :: xs) = (34, true) := by
    rw [ln_some (m := 32) 27 xs rfl]
    have := bd_long [] xs 32 64 (by omega) hf (by omega)
    rw [List.append_nil] at this
    rw [this]
  have l2 : ln (27 :: 91 :: (xs ++ [67])) = (34, true) := by
    rw [ln_some (m := 32) 27 _ rfl, bd_long [67] xs 32 64 (by omega) hf (by omega)]
  rw [List.cons_append, List.cons_append, nx_over (by rw [l1]), nx_over (by rw [l2]), l2]
  refine ⟨rfl, ?_⟩
  rw [kk_long (by simp; omega)]
end Go.Proofs.Ytndofkjmbipagaa
