/-
  Escape sequences, over lists of bytes: how long one is, its key, and what stands behind it.
-/
import Derived.Test.YtdaenaoagejgeaaGreatDoorMem
namespace Go.Proofs.YtdaenaoagejgeaaGreatDoor
set_option linter.unusedVariables false

/-- Behind the first two bytes: how many more a sequence has, and whether it is over there. room: how many parameters and others may still stand; hi: what stands below it is one of them. -/
def bd (room hi : Nat) : List UInt8 → Nat × Bool
  | [] => (0, false)
  | c :: r => if 64 ≤ c.toNat ∧ c.toNat ≤ 126 then (1, true)
      else if room = 0 ∨ c.toNat < 32 ∨ hi ≤ c.toNat then (0, true)
      else ((bd (room - 1) (if c.toNat < 48 then 48 else hi) r).1 + 1, (bd (room - 1) (if c.toNat < 48 then 48 else hi) r).2)
theorem bd_le (l : List UInt8) : ∀ room hi, (bd room hi l).1 ≤ l.length ∧ (bd room hi l).1 ≤ room + 1 := by
  induction l with
  | nil => intro room hi; simp [bd]
  | cons c r ih =>
    intro room hi
    unfold bd
    split
    · simp
    · split
      · simp
      · rename_i _ h
        have := ih (room - 1) (if c.toNat < 48 then 48 else hi)
        simp only [List.length_cons]
        omega
theorem bd_short (l : List UInt8) : ∀ room hi, (bd room hi l).2 = false → (bd room hi l).1 = l.length ∧ l.length ≤ room := by
  induction l with
  | nil => intro room hi; simp [bd]
  | cons c r ih =>
    intro room hi
    unfold bd
    split
    · simp
    · split
      · simp
      · rename_i _ h
        intro e
        have := ih (room - 1) (if c.toNat < 48 then 48 else hi) e
        simp only [List.length_cons]
        omega
/-- What stands behind plays no part. -/
theorem bd_app (l m : List UInt8) : ∀ room hi, (bd room hi l).2 = true → bd room hi (l ++ m) = bd room hi l := by
  induction l with
  | nil => intro room hi; simp [bd]
  | cons c r ih =>
    intro room hi
    rw [List.cons_append]
    unfold bd
    split
    · simp
    · split
      · simp
      · intro e
        rw [ih _ _ e]
theorem bd_end {c : UInt8} (r : List UInt8) (room hi : Nat) (h : 64 ≤ c.toNat ∧ c.toNat ≤ 126) : bd room hi (c :: r) = (1, true) := by rw [bd, if_pos h]
theorem bd_brk {c : UInt8} (r : List UInt8) (room hi : Nat) (h : ¬(64 ≤ c.toNat ∧ c.toNat ≤ 126)) (h2 : room = 0 ∨ c.toNat < 32 ∨ hi ≤ c.toNat) : bd room hi (c :: r) = (0, true) := by rw [bd, if_neg h, if_pos h2]
theorem bd_go {c : UInt8} (r : List UInt8) (room hi : Nat) (h : ¬(64 ≤ c.toNat ∧ c.toNat ≤ 126)) (h2 : ¬(room = 0 ∨ c.toNat < 32 ∨ hi ≤ c.toNat)) :
    bd room hi (c :: r) = ((bd (room - 1) (if c.toNat < 48 then 48 else hi) r).1 + 1, (bd (room - 1) (if c.toNat < 48 then 48 else hi) r).2) := by rw [bd, if_neg h, if_neg h2]
/-- What it has alone. -/
theorem bd_take (l : List UInt8) : ∀ room hi, (bd room hi l).2 = true → bd room hi (l.take (bd room hi l).1) = bd room hi l ∨ bd room hi (l.take (bd room hi l).1) = ((bd room hi l).1, false) := by
  induction l with
  | nil => intro room hi h; cases h
  | cons c r ih =>
    intro room hi
    by_cases h1 : 64 ≤ c.toNat ∧ c.toNat ≤ 126
    · rw [bd_end r room hi h1]
      intro _
      left
      exact bd_end [] room hi h1
    · by_cases h2 : room = 0 ∨ c.toNat < 32 ∨ hi ≤ c.toNat
      · rw [bd_brk r room hi h1 h2]
        intro _
        right
        rfl
      · rw [bd_go r room hi h1 h2]
        intro e
        simp only [List.take_succ_cons]
        rw [bd_go _ room hi h1 h2]
        rcases ih (room - 1) (if c.toNat < 48 then 48 else hi) e with e1 | e1
        · left; rw [e1]
        · right; rw [e1]

/-- How many parameters and others may stand behind ESC and a byte. -/
def rm (c : UInt8) : Option Nat := if c = 91 then some 32 else if c = 79 then some 0 else none
/-- How many bytes a sequence has, and whether it is over there. -/
def ln : List UInt8 → Nat × Bool
  | [] => (1, false)
  | [_] => (1, false)
  | _ :: c :: r => match rm c with
    | none => (1, true)
    | some m => ((bd m 64 r).1 + 2, (bd m 64 r).2)
theorem rm_le {c : UInt8} {m : Nat} (h : rm c = some m) : m ≤ 32 := by
  unfold rm at h
  split at h
  · cases h; omega
  · split at h
    · cases h; omega
    · cases h
theorem ln_none {c : UInt8} (a : UInt8) (r : List UInt8) (h : rm c = none) : ln (a :: c :: r) = (1, true) := by
  show (match rm c with | none => (1, true) | some m => ((bd m 64 r).1 + 2, (bd m 64 r).2)) = _
  rw [h]
theorem ln_some {c : UInt8} {m : Nat} (a : UInt8) (r : List UInt8) (h : rm c = some m) : ln (a :: c :: r) = ((bd m 64 r).1 + 2, (bd m 64 r).2) := by
  show (match rm c with | none => (1, true) | some m => ((bd m 64 r).1 + 2, (bd m 64 r).2)) = _
  rw [h]
theorem ln_le {l : List UInt8} (h : l ≠ []) : 1 ≤ (ln l).1 ∧ (ln l).1 ≤ l.length ∧ (ln l).1 ≤ 35 := by
  rcases l with _ | ⟨a, _ | ⟨c, r⟩⟩
  · exact absurd rfl h
  · simp [ln]
  · cases e : rm c with
    | none => rw [ln_none a r e]; simp
    | some m =>
      rw [ln_some a r e]
      have := bd_le r m 64
      have := rm_le e
      simp only [List.length_cons]
      omega
theorem ln_short {l : List UInt8} (h : l ≠ []) (hs : (ln l).2 = false) : (ln l).1 = l.length ∧ (ln l).1 ≤ 34 := by
  rcases l with _ | ⟨a, _ | ⟨c, r⟩⟩
  · exact absurd rfl h
  · simp [ln]
  · cases e : rm c with
    | none => rw [ln_none a r e] at hs; cases hs
    | some m =>
      rw [ln_some a r e] at hs ⊢
      have := bd_short r m 64 hs
      have := rm_le e
      simp only [List.length_cons]
      omega
theorem ln_app (l m : List UInt8) (h : (ln l).2 = true) : ln (l ++ m) = ln l := by
  rcases l with _ | ⟨a, _ | ⟨c, r⟩⟩
  · cases h
  · cases h
  · rw [List.cons_append, List.cons_append]
    cases e : rm c with
    | none => rw [ln_none _ _ e, ln_none _ _ e]
    | some n =>
      rw [ln_some a r e] at h
      rw [ln_some _ _ e, ln_some _ _ e, bd_app r m n 64 h]
theorem ln_take (l : List UInt8) (h : (ln l).2 = true) : ln (l.take (ln l).1) = ln l ∨ ln (l.take (ln l).1) = ((ln l).1, false) := by
  rcases l with _ | ⟨a, _ | ⟨c, r⟩⟩
  · cases h
  · cases h
  · cases e : rm c with
    | none =>
      right
      rw [ln_none a r e]
      rfl
    | some n =>
      rw [ln_some a r e] at h ⊢
      simp only [List.take_succ_cons]
      rw [ln_some a _ e]
      rcases bd_take r n 64 h with e3 | e3
      · left; rw [e3]
      · right; rw [e3]

/-- The sequences that are keys, the last one of the table first. -/
def kns : List (List UInt8 × Int) := [([27, 91, 50, 48, 49, 126], 14), ([27, 91, 50, 48, 48, 126], 13), ([27, 91, 51, 126], 3), ([27, 91, 56, 126], 7), ([27, 91, 52, 126], 7), ([27, 79, 70], 7), ([27, 91, 70], 7), ([27, 91, 55, 126], 6), ([27, 91, 49, 126], 6), ([27, 79, 72], 6), ([27, 91, 72], 6), ([27, 79, 68], 4), ([27, 91, 68], 4), ([27, 79, 67], 5), ([27, 91, 67], 5)]
/-- What lies at a text. -/
def kat (s : List UInt8) : List (List UInt8 × Int) → Option Int
  | [] => none
  | p :: r => if s = p.1 then some p.2 else kat s r
/-- The key of a whole sequence. -/
def kk (s : List UInt8) : Int := (kat s kns).getD 15
theorem kat_mem {s : List UInt8} {v : Int} : ∀ {L : List (List UInt8 × Int)}, kat s L = some v → (s, v) ∈ L
  | [], h => by cases h
  | p :: r, h => by
    rw [kat] at h
    split at h
    · rename_i e
      cases h
      exact List.mem_cons.2 (.inl (by rw [e]))
    · exact List.mem_cons.2 (.inr (kat_mem h))
theorem kk_cases (s : List UInt8) : (kat s kns = none ∧ kk s = 15) ∨ (∃ z, kat s kns = some z ∧ kk s = z ∧ (s, z) ∈ kns) := by
  cases h : kat s kns with
  | none => exact .inl ⟨rfl, by unfold kk; rw [h]; rfl⟩
  | some z => exact .inr ⟨z, rfl, by unfold kk; rw [h]; rfl, kat_mem h⟩
/-- Key, how many bytes, error. -/
structure Nx where
  k : Int
  n : Nat
  e : Int
deriving DecidableEq
def nx (l : List UInt8) : Nx :=
  if l = [] then ⟨0, 0, 6⟩ else if l.head? ≠ some 27 then ⟨0, 0, 8⟩ else if (ln l).2 = false then ⟨0, (ln l).1, 7⟩ else ⟨kk (l.take (ln l).1), (ln l).1, 0⟩
theorem nx_nil : nx [] = ⟨0, 0, 6⟩ := rfl
theorem nx_form {c : UInt8} {r : List UInt8} (h : c ≠ 27) : nx (c :: r) = ⟨0, 0, 8⟩ := by
  unfold nx
  rw [if_neg (by simp), if_pos (by simpa using h)]
theorem nx_short {r : List UInt8} (h : (ln (27 :: r)).2 = false) : nx (27 :: r) = ⟨0, (ln (27 :: r)).1, 7⟩ := by
  unfold nx
  rw [if_neg (by simp), if_neg (by simp), if_pos h]
theorem nx_over {r : List UInt8} (h : (ln (27 :: r)).2 = true) : nx (27 :: r) = ⟨kk ((27 :: r).take (ln (27 :: r)).1), (ln (27 :: r)).1, 0⟩ := by
  unfold nx
  rw [if_neg (by simp), if_neg (by simp), if_neg (by rw [h]; simp)]
/-- The four ways. -/
theorem nx_cases (l : List UInt8) : (l = [] ∧ nx l = ⟨0, 0, 6⟩) ∨ (∃ c r, l = c :: r ∧ c ≠ 27 ∧ nx l = ⟨0, 0, 8⟩) ∨
    (∃ r, l = 27 :: r ∧ (ln l).2 = false ∧ nx l = ⟨0, (ln l).1, 7⟩) ∨ (∃ r, l = 27 :: r ∧ (ln l).2 = true ∧ nx l = ⟨kk (l.take (ln l).1), (ln l).1, 0⟩) := by
  rcases l with _ | ⟨c, r⟩
  · exact .inl ⟨rfl, rfl⟩
  · by_cases h : c = 27
    · subst h
      cases e : (ln (27 :: r)).2 with
      | false => exact .inr (.inr (.inl ⟨r, rfl, rfl, nx_short e⟩))
      | true => exact .inr (.inr (.inr ⟨r, rfl, rfl, nx_over e⟩))
    · exact .inr (.inl ⟨c, r, rfl, h, nx_form h⟩)
theorem nx_e (l : List UInt8) : (nx l).e = 0 ∨ (nx l).e = 6 ∨ (nx l).e = 7 ∨ (nx l).e = 8 := by
  rcases nx_cases l with ⟨_, e⟩ | ⟨c, r, _, _, e⟩ | ⟨r, _, _, e⟩ | ⟨r, _, _, e⟩ <;> rw [e] <;> simp
end Go.Proofs.YtdaenaoagejgeaaGreatDoor
