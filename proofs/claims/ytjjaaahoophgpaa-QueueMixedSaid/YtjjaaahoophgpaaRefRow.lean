/-
  The document's list in memory: a row that begins anywhere in its block.
-/
import Derived.Test.YtjjaaahoophgpaaTwo
import Derived.Test.YtjjaaahoophgpaaRef
import Derived.ArgAppend
namespace Go.Proofs.Ytjjaaahoophgpaa
open Go.RowKit Go.Lib
set_option linter.unusedVariables false

def encO (e : Ent) : List Value := [.float .f64 e.m.v, .int .i64 e.n]
/-- The row of a slice. -/
structure Rg (W : World) (g off n cap : Nat) (l : List Ent) : Prop where
  len : l.length = n
  room : n ≤ cap
  big : cap ≤ maxLen
  row : ∃ cur, W.heap[g]? = some (.cells cur 41 (0, 0)) ∧ off + cap * 2 ≤ cur.size ∧ ∀ i, i < n → cur[off + i * 2]? = some (.float .f64 (l[i]!).m.v) ∧ cur[off + i * 2 + 1]? = some (.int .i64 (l[i]!).n)
variable {W : World} {g off n cap : Nat} {l : List Ent}
theorem Rg.c0 (h : Rg W g off n cap l) {i : Nat} (hi : i < n) : W.cell? ⟨g, off + i * 2, none⟩ = some (.float .f64 (l[i]!).m.v) := by
  obtain ⟨cur, h1, h2, h3⟩ := h.row
  rw [cell_of_row W g _ cur _ _ h1]
  exact (h3 i hi).1
theorem Rg.c1 (h : Rg W g off n cap l) {i : Nat} (hi : i < n) : W.cell? ⟨g, off + i * 2 + 1, none⟩ = some (.int .i64 (l[i]!).n) := by
  obtain ⟨cur, h1, h2, h3⟩ := h.row
  rw [cell_of_row W g _ cur _ _ h1]
  exact (h3 i hi).2
theorem Rg.fz (h : Rg W g off n cap l) (j : Nat) : W.frozen? ⟨g, j, none⟩ = false := by
  obtain ⟨cur, h1, h2, h3⟩ := h.row
  exact frozen_of_row W g j cur _ h1
theorem Rg.lt (h : Rg W g off n cap l) : g < W.heap.size := by
  obtain ⟨cur, h1, _⟩ := h.row
  exact (Array.getElem?_eq_some_iff.1 h1).1
/-- What has nothing to do with the block. -/
theorem Rg.kept (h : Rg W g off n cap l) {W' : World} (hb : W'.heap[g]? = W.heap[g]?) : Rg W' g off n cap l := by
  obtain ⟨cur, h1, h2⟩ := h.row
  exact ⟨h.len, h.room, h.big, cur, hb.trans h1, h2⟩
theorem cur_set {cur : Array Value} {p q : Nat} {u : Value} {x : Value} (h : cur[q]? = some x) (hne : p ≠ q) : (cur.setIfInBounds p u)[q]? = some x := by
  rw [Array.getElem?_setIfInBounds_ne hne]
  exact h
/-- A whole one laid. -/
theorem Rg.set (h : Rg W g off n cap l) {i : Nat} (hi : i < n) (x : Ent) : Rg (W.setCells g (off + i * 2) (encO x)) g off n cap (l.set i x) ∧ W.grownBy (W.setCells g (off + i * 2) (encO x)) (some g) := by
  obtain ⟨cur, h1, h2, h3⟩ := h.row
  have hl := h.len
  have hr := h.room
  refine ⟨⟨by rw [List.length_set]; exact hl, hr, h.big, _, heap_setCell_same _ g (off + i * 2 + 1) _ _ _ (heap_setCell_same W g (off + i * 2) cur _ _ h1), by simpa using h2, fun k hk => ?_⟩, ?_⟩
  · by_cases e : k = i
    · subst e
      have e1 : (l.set k x)[k]! = x := by rw [getElem!_pos _ k (by rw [List.length_set]; omega)]; simp
      rw [e1]
      refine ⟨?_, ?_⟩
      · refine cur_set ?_ (by omega)
        rw [Array.getElem?_setIfInBounds_self, if_pos (by omega)]
      · rw [Array.getElem?_setIfInBounds_self, if_pos (by rw [Array.size_setIfInBounds]; omega)]
    · have e1 : (l.set i x)[k]! = l[k]! := by
        rw [getElem!_pos _ k (by rw [List.length_set]; omega), getElem!_pos _ k (by omega), List.getElem_set_ne (by omega)]
      rw [e1]
      obtain ⟨a, b⟩ := h3 k hk
      exact ⟨cur_set (cur_set a (by omega)) (by omega), cur_set (cur_set b (by omega)) (by omega)⟩
  · have g1 : ∀ (w : World) (o : Nat) (u : Value), w.grownBy (w.setCell ⟨g, o, none⟩ u) (some g) := fun w o u => ⟨rfl, rfl, rfl, by simp [World.setCell], fun k _ hk => Below.heap_setCell _ _ _ _ (fun e => hk (by rw [e]))⟩
    exact (g1 _ _ _).trans (g1 _ _ _)
/-- One more, where there is room. -/
theorem Rg.more (h : Rg W g off n cap l) (hr : n + 1 ≤ cap) (x : Ent) : Rg (W.setCells g (off + n * 2) (encO x)) g off (n + 1) cap (l ++ [x]) ∧ W.grownBy (W.setCells g (off + n * 2) (encO x)) (some g) := by
  obtain ⟨cur, h1, h2, h3⟩ := h.row
  have hl := h.len
  refine ⟨⟨by simp [hl], hr, h.big, _, heap_setCell_same _ g (off + n * 2 + 1) _ _ _ (heap_setCell_same W g (off + n * 2) cur _ _ h1), by simpa using h2, fun k hk => ?_⟩, ?_⟩
  · by_cases e : k = n
    · subst e
      have e1 : (l ++ [x])[k]! = x := by rw [getElem!_pos _ k (by simp; omega), List.getElem_append_right (by omega)]; simp [hl]
      rw [e1]
      refine ⟨?_, ?_⟩
      · refine cur_set ?_ (by omega)
        rw [Array.getElem?_setIfInBounds_self, if_pos (by omega)]
      · rw [Array.getElem?_setIfInBounds_self, if_pos (by rw [Array.size_setIfInBounds]; omega)]
    · have e1 : (l ++ [x])[k]! = l[k]! := by
        rw [getElem!_pos _ k (by simp; omega), getElem!_pos _ k (by omega), List.getElem_append_left (by omega)]
      rw [e1]
      obtain ⟨a, b⟩ := h3 k (by omega)
      exact ⟨cur_set (cur_set a (by omega)) (by omega), cur_set (cur_set b (by omega)) (by omega)⟩
  · have g1 : ∀ (w : World) (o : Nat) (u : Value), w.grownBy (w.setCell ⟨g, o, none⟩ u) (some g) := fun w o u => ⟨rfl, rfl, rfl, by simp [World.setCell], fun k _ hk => Below.heap_setCell _ _ _ _ (fun e => hk (by rw [e]))⟩
    exact (g1 _ _ _).trans (g1 _ _ _)
def cellsO (l : List Ent) : List Value := l.flatMap encO
theorem cellsO_length (l : List Ent) : (cellsO l).length = l.length * 2 := by
  unfold cellsO
  induction l with
  | nil => rfl
  | cons x t ih => simp only [List.flatMap_cons, List.length_append, ih, List.length_cons]; simp [encO]; omega
theorem cellsO_at (l : List Ent) : ∀ (i : Nat), i < l.length → ∀ j, j < 2 → (cellsO l)[i * 2 + j]? = (encO (l[i]!))[j]? := by
  induction l with
  | nil => intro i hi; simp at hi
  | cons x t ih =>
    intro i hi j hj
    have hx : (encO x).length = 2 := rfl
    cases i with
    | zero =>
      simp only [cellsO, List.flatMap_cons, Nat.zero_mul, Nat.zero_add]
      rw [List.getElem?_append_left (by omega)]
      rfl
    | succ i =>
      have := ih i (by simpa using hi) j hj
      simp only [cellsO, List.flatMap_cons]
      rw [List.getElem?_append_right (by rw [hx]; omega), hx, show (i + 1) * 2 + j - 2 = i * 2 + j by omega]
      simpa [cellsO] using this
/-- A new row. -/
theorem Rg.of_own {base : Nat} {v : Value} (h : W.ownsRow base 41 2 v l.length (cellsO l)) (hl : l ≠ []) : ∃ g cap, v = .slice (some ⟨g, 0, none⟩) l.length cap ∧ base ≤ g ∧ Rg W g 0 l.length cap l := by
  rcases h.2 with ⟨_, h0⟩ | ⟨g, cap, cur, rfl, hg, hh, hnc, hm, hs, ht⟩
  · exact absurd (List.length_eq_zero_iff.1 h0) hl
  · refine ⟨g, cap, rfl, hg, rfl, hnc, hm, cur, hh, by omega, fun i hi => ?_⟩
    have e : ∀ j, j < 2 → cur[i * 2 + j]? = (encO (l[i]!))[j]? := fun j hj => by
      rw [← cellsO_at l i hi j hj, ← ht, List.getElem?_take, if_pos (by omega), Array.getElem?_toList]
    rw [Nat.zero_add]
    exact ⟨e 0 (by omega), e 1 (by omega)⟩
theorem one_info : (Try.prog.info? 41).map (fun i => (i.zero, i.size, i.bytes)) = some (some (.agg #[.float .f64 0, .int .i64 0]), 2, 16) := by kernel_rfl

/-- The list. -/
def Rr (W : World) (v : Value) (l : List Ent) : Prop := (v = .slice none 0 0 ∧ l = []) ∨ ∃ g off cap, v = .slice (some ⟨g, off, none⟩) l.length cap ∧ Rg W g off l.length cap l
/-- The document's queue in memory. -/
structure Mu (W : World) (F : List Nat) (b : Nat) (v : Value) (l : List Ent) : Prop where
  obj : W.heap[b]? = some (.cells #[v] 28 (0, 0))
  row : Rr W v l
  foot : b ∈ F
  foot2 : ∀ k, v.ownBlock = some k → k ∈ F ∧ k ≠ b
  old : ∀ k ∈ F, k < W.heap.size
variable {F : List Nat} {b : Nat} {v : Value}
theorem Mu.c0 (h : Mu W F b v l) : W.cell? ⟨b, 0, none⟩ = some v := by rw [cell_of_row W b 0 _ _ _ h.obj]; rfl
theorem Mu.f0 (h : Mu W F b v l) (j : Nat) : W.frozen? ⟨b, j, none⟩ = false := frozen_of_row W b j _ _ h.obj
theorem Mu.lt (h : Mu W F b v l) : b < W.heap.size := (Array.getElem?_eq_some_iff.1 h.obj).1
theorem Mu.other {G G' : List Nat} {W' : World} (h : Mu W F b v l) (hs : Stp G W G' W') (hd : ∀ k ∈ F, k ∉ G) : Mu W' F b v l := by
  refine ⟨(hs.block b h.lt (hd b h.foot)).trans h.obj, ?_, h.foot, h.foot2, fun k hk => Nat.lt_of_lt_of_le (h.old k hk) hs.size⟩
  rcases h.row with hn | ⟨g, off, cap, rfl, hr⟩
  · exact .inl hn
  · exact .inr ⟨g, off, cap, rfl, hr.kept (hs.block g hr.lt (hd g (h.foot2 g rfl).1))⟩
theorem Mu.stays (h : Mu W F b v l) {W' : World} (hs : Stp [] W [] W') : Mu W' F b v l := h.other hs (fun _ _ h => by cases h)
theorem Mu.slice (h : Mu W F b v l) : ∃ a cap, v = .slice a l.length cap := by
  rcases h.row with ⟨rfl, rfl⟩ | ⟨g, off, cap, rfl, _⟩
  · exact ⟨none, 0, rfl⟩
  · exact ⟨_, cap, rfl⟩
/-- A new slice laid into it. -/
theorem Mu.lay (h : Mu W F b v l) {W' : World} {F' : List Nat} {v' : Value} {l' : List Ent} (ho : W'.heap[b]? = W.heap[b]?) (hr : Rr W' v' l') (hf : b ∈ F') (hf2 : ∀ k, v'.ownBlock = some k → k ∈ F' ∧ k ≠ b) (ho' : ∀ k ∈ F', k < W'.heap.size) :
    Mu (W'.setCell ⟨b, 0, none⟩ v') F' b v' l' := by
  have h1 : W'.heap[b]? = some (.cells #[v] 28 (0, 0)) := ho.trans h.obj
  refine ⟨heap_setCell_same W' b 0 _ _ v' h1, ?_, hf, hf2, fun k hk => by rw [World.size_setCell]; exact ho' k hk⟩
  rcases hr with hn | ⟨g, off, cap, rfl, hr⟩
  · exact .inl hn
  · exact .inr ⟨g, off, cap, rfl, hr.kept (Below.heap_setCell W' ⟨b, 0, none⟩ _ g (hf2 g rfl).2)⟩
end Go.Proofs.Ytjjaaahoophgpaa
