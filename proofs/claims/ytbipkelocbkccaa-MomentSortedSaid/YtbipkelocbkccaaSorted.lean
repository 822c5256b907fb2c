/-
  Rows of moments in order, by their keys: what a stable sort of a row is, that there is one alone, and that two sorted rows may be merged by halves.
-/
import Derived.Test.YtbipkelocbkccaaFloat
namespace Go.Proofs.Ytbipkelocbkccaa
set_option linter.unusedVariables false

/-- A moment: a word of 64 bits. -/
structure Mo where
  v : Nat
  lt : v < 2 ^ 64
instance : Inhabited Mo := ⟨⟨0, by omega⟩⟩
def Mo.key (x : Mo) : Nat := keyN x.v
theorem Mo.eq_of {x y : Mo} (h : x.v = y.v) : x = y := by
  cases x; cases y; simp at h; subst h; rfl

def Sortd (l : List Mo) : Prop := l.Pairwise fun x y => x.key ≤ y.key
/-- As many, and of each key the same ones in the same order. -/
def Eqv (l l' : List Mo) : Prop := l.length = l'.length ∧ ∀ k, l.filter (fun x => x.key == k) = l'.filter (fun x => x.key == k)
/-- z is l in order. -/
def SS (l z : List Mo) : Prop := Sortd z ∧ Eqv l z

theorem Eqv.refl (l : List Mo) : Eqv l l := ⟨rfl, fun _ => rfl⟩
theorem Eqv.symm {l m : List Mo} (h : Eqv l m) : Eqv m l := ⟨h.1.symm, fun k => (h.2 k).symm⟩
theorem Eqv.trans {l m n : List Mo} (h : Eqv l m) (g : Eqv m n) : Eqv l n := ⟨h.1.trans g.1, fun k => (h.2 k).trans (g.2 k)⟩
theorem Eqv.app {l m l' m' : List Mo} (h : Eqv l m) (g : Eqv l' m') : Eqv (l ++ l') (m ++ m') :=
  ⟨by rw [List.length_append, List.length_append, h.1, g.1], fun k => by rw [List.filter_append, List.filter_append, h.2 k, g.2 k]⟩
theorem Eqv.mem {l m : List Mo} (h : Eqv l m) {x : Mo} (hx : x ∈ m) : x ∈ l := by
  have h1 : x ∈ m.filter (fun y => y.key == x.key) := List.mem_filter.2 ⟨hx, by simp⟩
  rw [← h.2] at h1
  exact (List.mem_filter.1 h1).1
theorem Eqv.swap {X Y : List Mo} (h : ∀ x ∈ X, ∀ y ∈ Y, x.key ≠ y.key) : Eqv (X ++ Y) (Y ++ X) := by
  refine ⟨by rw [List.length_append, List.length_append, Nat.add_comm], fun k => ?_⟩
  rw [List.filter_append, List.filter_append]
  cases hx : X.filter (fun x => x.key == k) with
  | nil => simp
  | cons u us =>
    cases hy : Y.filter (fun x => x.key == k) with
    | nil => simp
    | cons v vs =>
      exfalso
      have h1 : u ∈ X.filter (fun x => x.key == k) := by rw [hx]; exact List.mem_cons_self
      have h2 : v ∈ Y.filter (fun x => x.key == k) := by rw [hy]; exact List.mem_cons_self
      have h3 := List.mem_filter.1 h1
      have h4 := List.mem_filter.1 h2
      have e1 : u.key = k := by simpa using h3.2
      have e2 : v.key = k := by simpa using h4.2
      exact h u h3.1 v h4.1 (e1.trans e2.symm)

/-- There is one alone. -/
theorem sorted_uniq : ∀ (l m : List Mo), Sortd l → Sortd m → Eqv l m → l = m
  | [], m, _, _, h => by
    have := h.1
    exact (List.eq_nil_of_length_eq_zero this.symm).symm
  | x :: t, [], _, _, h => by
    have := h.1
    simp at this
  | x :: t, y :: u, hl, hm, h => by
    have hl' := List.pairwise_cons.1 hl
    have hm' := List.pairwise_cons.1 hm
    have hx : x ∈ y :: u := h.symm.mem List.mem_cons_self
    have hy : y ∈ x :: t := h.mem List.mem_cons_self
    have hk : x.key = y.key := by
      have h1 : y.key ≤ x.key := by
        rcases List.mem_cons.1 hx with e | e
        · rw [e]; exact Nat.le_refl _
        · exact hm'.1 x e
      have h2 : x.key ≤ y.key := by
        rcases List.mem_cons.1 hy with e | e
        · rw [e]; exact Nat.le_refl _
        · exact hl'.1 y e
      omega
    have hf := h.2 x.key
    rw [List.filter_cons_of_pos (by simp), List.filter_cons_of_pos (by simp [hk])] at hf
    have hxy : x = y := (List.cons.inj hf).1
    subst hxy
    have ht : Eqv t u := by
      refine ⟨by have := h.1; simp at this; exact this, fun k => ?_⟩
      have hf2 := h.2 k
      by_cases e : x.key = k
      · rw [List.filter_cons_of_pos (by simp [e]), List.filter_cons_of_pos (by simp [e])] at hf2
        exact (List.cons.inj hf2).2
      · rw [List.filter_cons_of_neg (by simp [e]), List.filter_cons_of_neg (by simp [e])] at hf2
        exact hf2
    rw [sorted_uniq t u hl'.2 hm'.2 ht]

theorem SS.uniq {l z z' : List Mo} (h : SS l z) (h' : SS l z') : z = z' := sorted_uniq z z' h.1 h'.1 (h.2.symm.trans h'.2)
theorem SS.of {l m z : List Mo} (h : Eqv l m) (g : SS m z) : SS l z := ⟨g.1, h.trans g.2⟩

theorem merge_of {X1 X2 Y1 Y2 Z1 Z2 : List Mo} (hX : Sortd (X1 ++ X2)) (hY : Sortd (Y1 ++ Y2)) (c1 : ∀ x ∈ X2, ∀ y ∈ Y1, y.key < x.key) (c2 : ∀ x ∈ X1, ∀ y ∈ Y2, x.key ≤ y.key)
    (h1 : SS (X1 ++ Y1) Z1) (h2 : SS (X2 ++ Y2) Z2) : SS ((X1 ++ X2) ++ (Y1 ++ Y2)) (Z1 ++ Z2) := by
  have hX' := List.pairwise_append.1 hX
  have hY' := List.pairwise_append.1 hY
  refine ⟨?_, ?_⟩
  · refine List.pairwise_append.2 ⟨h1.1, h2.1, fun x hx y hy => ?_⟩
    rcases List.mem_append.1 (h1.2.mem hx) with g | g <;> rcases List.mem_append.1 (h2.2.mem hy) with g' | g'
    · exact hX'.2.2 x g y g'
    · exact c2 x g y g'
    · exact Nat.le_of_lt (c1 y g' x g)
    · exact hY'.2.2 x g y g'
  · have e1 : Eqv (X2 ++ Y1) (Y1 ++ X2) := Eqv.swap fun x hx y hy => by have := c1 x hx y hy; omega
    have e2 : Eqv (X1 ++ (X2 ++ Y1) ++ Y2) (X1 ++ (Y1 ++ X2) ++ Y2) := ((Eqv.refl X1).app e1).app (Eqv.refl Y2)
    have e3 := h1.2.app h2.2
    rw [show (X1 ++ X2) ++ (Y1 ++ Y2) = X1 ++ (X2 ++ Y1) ++ Y2 by simp]
    refine e2.trans ?_
    rw [show X1 ++ (Y1 ++ X2) ++ Y2 = (X1 ++ Y1) ++ (X2 ++ Y2) by simp]
    exact e3

/-- One more put in its place, from behind. -/
theorem insert_of {S1 S2 : List Mo} {t : Mo} (hS : Sortd (S1 ++ S2)) (h1 : ∀ x ∈ S1, x.key ≤ t.key) (h2 : ∀ x ∈ S2, t.key < x.key) : SS (S1 ++ S2 ++ [t]) (S1 ++ t :: S2) := by
  have hS' := List.pairwise_append.1 hS
  refine ⟨?_, ?_⟩
  · refine List.pairwise_append.2 ⟨hS'.1, List.pairwise_cons.2 ⟨fun y hy => Nat.le_of_lt (h2 y hy), hS'.2.1⟩, fun x hx y hy => ?_⟩
    rcases List.mem_cons.1 hy with e | e
    · rw [e]; exact h1 x hx
    · exact hS'.2.2 x hx y e
  · have e1 : Eqv (S2 ++ [t]) ([t] ++ S2) := Eqv.swap fun x hx y hy => by
      have e : y = t := by simpa using hy
      have := h2 x hx
      rw [e]
      omega
    rw [List.append_assoc]
    exact (Eqv.refl S1).app e1
/-- One more put in its place, from ahead. -/
theorem insert_ahead {S1 S2 : List Mo} {t : Mo} (hS : Sortd (S1 ++ S2)) (h1 : ∀ x ∈ S1, x.key < t.key) (h2 : ∀ x ∈ S2, t.key ≤ x.key) : SS (t :: (S1 ++ S2)) (S1 ++ t :: S2) := by
  have hS' := List.pairwise_append.1 hS
  refine ⟨?_, ?_⟩
  · refine List.pairwise_append.2 ⟨hS'.1, List.pairwise_cons.2 ⟨fun y hy => h2 y hy, hS'.2.1⟩, fun x hx y hy => ?_⟩
    rcases List.mem_cons.1 hy with e | e
    · rw [e]; exact Nat.le_of_lt (h1 x hx)
    · exact hS'.2.2 x hx y e
  · have e1 : Eqv ([t] ++ S1) (S1 ++ [t]) := Eqv.swap fun x hx y hy => by
      have e : x = t := by simpa using hx
      have := h1 y hy
      rw [e]
      omega
    have := e1.app (Eqv.refl S2)
    simpa using this

/-- Of a sorted row what stands at one place stands over all ahead of it, and under all behind it. -/
theorem sorted_before {P S : List Mo} {x : Mo} (h : Sortd (P ++ x :: S)) : ∀ y ∈ P, y.key ≤ x.key := fun y hy => (List.pairwise_append.1 h).2.2 y hy x List.mem_cons_self
theorem sorted_behind {P S : List Mo} {x : Mo} (h : Sortd (P ++ x :: S)) : ∀ y ∈ S, x.key ≤ y.key := fun y hy => (List.pairwise_cons.1 (List.pairwise_append.1 h).2.1).1 y hy

theorem split_at (Y : List Mo) (j : Nat) (h : j < Y.length) : Y = Y.take j ++ Y[j]! :: Y.drop (j + 1) := by
  rw [getElem!_pos Y j h]
  simp
theorem take_le {Y : List Mo} (hs : Sortd Y) {j : Nat} (h : j < Y.length) : ∀ y ∈ Y.take (j + 1), y.key ≤ (Y[j]!).key := by
  intro y hy
  have e := split_at Y j h
  have hs' := hs
  rw [e] at hs'
  rw [List.take_add_one, List.mem_append] at hy
  rcases hy with hy | hy
  · exact sorted_before hs' y hy
  · rw [getElem!_pos Y j h]
    simp [h] at hy
    rw [hy]
    exact Nat.le_refl _
theorem drop_ge {Y : List Mo} (hs : Sortd Y) {j : Nat} (h : j < Y.length) : ∀ y ∈ Y.drop j, (Y[j]!).key ≤ y.key := by
  intro y hy
  have e := split_at Y j h
  have hs' := hs
  rw [e] at hs'
  rw [List.drop_eq_getElem_cons h] at hy
  rcases List.mem_cons.1 hy with hy | hy
  · rw [getElem!_pos Y j h, hy]
    exact Nat.le_refl _
  · exact sorted_behind hs' y hy
theorem at_mid (P Y S : List Mo) (j : Nat) (h : j < Y.length) : (P ++ Y ++ S)[P.length + j]! = Y[j]! := by
  rw [getElem!_pos Y j h, getElem!_pos _ _ (by simp; omega)]
  simp [h]

/-! ### Rows in blocks -/
inductive BlockS (bs : Nat) : List Mo → Prop
  | last (l : List Mo) : l.length < bs → Sortd l → BlockS bs l
  | cons (x l : List Mo) : x.length = bs → Sortd x → BlockS bs l → BlockS bs (x ++ l)

theorem BlockS.sorted {bs : Nat} {l : List Mo} (h : BlockS bs l) (hl : l.length ≤ bs) : Sortd l := by
  cases h with
  | last _ _ h => exact h
  | cons x l' hx hs _ =>
    rw [List.length_append] at hl
    have : l' = [] := List.eq_nil_of_length_eq_zero (by omega)
    subst this
    simpa using hs
/-- Two whole blocks stand ahead. -/
theorem BlockS.two {bs : Nat} {l : List Mo} (h : BlockS bs l) (hb : 0 < bs) (hl : 2 * bs ≤ l.length) : ∃ x y r, l = x ++ y ++ r ∧ x.length = bs ∧ y.length = bs ∧ Sortd x ∧ Sortd y ∧ BlockS bs r := by
  cases h with
  | last _ h1 _ => omega
  | cons x l' hx hs h' =>
    rw [List.length_append] at hl
    cases h' with
    | last _ h1 _ => omega
    | cons y r hy hs' hr => exact ⟨x, y, r, by simp, hx, hy, hs, hs', hr⟩
/-- Less than two. -/
theorem BlockS.less {bs : Nat} {l : List Mo} (h : BlockS bs l) (hl : l.length < 2 * bs) : (l.length < bs ∧ Sortd l) ∨ ∃ x r, l = x ++ r ∧ x.length = bs ∧ Sortd x ∧ Sortd r := by
  cases h with
  | last _ h1 h2 => exact .inl ⟨h1, h2⟩
  | cons x l' hx hs h' =>
    rw [List.length_append] at hl
    exact .inr ⟨x, l', rfl, hx, hs, h'.sorted (by omega)⟩
end Go.Proofs.Ytbipkelocbkccaa
