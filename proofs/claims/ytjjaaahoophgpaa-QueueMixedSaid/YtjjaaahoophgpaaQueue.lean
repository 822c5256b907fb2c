/-
  The queue in memory, and container/heap's Push and Pop at it.
-/
import Derived.Test.YtjjaaahoophgpaaUp
namespace Go.Proofs.Ytjjaaahoophgpaa
open Go.RowKit Go.Lib
set_option linter.unusedVariables false

/-! ### Steps of memory -/
/-- From W to W' nothing has turned but in the blocks F; the blocks F' are among them, or new. -/
structure Stp (F : List Nat) (W : World) (F' : List Nat) (W' : World) : Prop where
  os : W'.os = W.os
  tape : W'.tape = W.tape
  output : W'.output = W.output
  size : W.heap.size ≤ W'.heap.size
  block : ∀ k, k < W.heap.size → k ∉ F → W'.heap[k]? = W.heap[k]?
  foot : ∀ k ∈ F', k ∈ F ∨ W.heap.size ≤ k

theorem Stp.refl (F : List Nat) (W : World) : Stp F W F W := ⟨rfl, rfl, rfl, Nat.le_refl _, fun _ _ _ => rfl, fun _ h => .inl h⟩
theorem Stp.trans {F F' F'' : List Nat} {W W' W'' : World} (h : Stp F W F' W') (k : Stp F' W' F'' W'') : Stp F W F'' W'' :=
  ⟨k.os.trans h.os, k.tape.trans h.tape, k.output.trans h.output, Nat.le_trans h.size k.size,
    fun i hi hF => (k.block i (Nat.lt_of_lt_of_le hi h.size) (fun hF' => by rcases h.foot i hF' with g | g; exact hF g; omega)).trans (h.block i hi hF),
    fun i hi => by
      rcases k.foot i hi with g | g
      · exact h.foot i g
      · exact .inr (Nat.le_trans h.size g)⟩
theorem Stp.below {F F' : List Nat} {W W' : World} {B : Nat} (h : Stp F W F' W') (hF : ∀ k ∈ F, B ≤ k) (hB : B ≤ W.heap.size) : Below B W W' :=
  ⟨h.os, h.tape, h.output, h.size, fun k hk => h.block k (by omega) (fun g => by have := hF k g; omega)⟩
theorem Stp.grown {F F' : List Nat} {W W' : World} {row : Option Nat} (hg : W.grownBy W' row) (hr : ∀ k, row = some k → k ∈ F) (hF : ∀ k ∈ F', k ∈ F ∨ W.heap.size ≤ k) : Stp F W F' W' :=
  ⟨hg.os, hg.tape, hg.output, hg.size, fun k hk hF => hg.block k hk (fun e => hF (hr k e.symm)), hF⟩
theorem Stp.alloc (F : List Nat) (W : World) (o : Obj) : Stp F W F (W.alloc o) := ⟨rfl, rfl, rfl, by simp, fun k hk _ => Below.heap_alloc W o k hk, fun _ h => .inl h⟩
theorem Stp.drewN (F : List Nat) (W : World) (q : Nat) : Stp F W F (W.drewN q) := ⟨rfl, rfl, rfl, Nat.le_refl _, fun _ _ _ => rfl, fun _ h => .inl h⟩
theorem Stp.setCell {F : List Nat} (W : World) {a : Addr} (v : Value) (h : a.block ∈ F) : Stp F W F (W.setCell a v) :=
  ⟨rfl, rfl, rfl, by simp [World.setCell], fun k hk hF => Below.heap_setCell _ _ _ _ (fun e => hF (e ▸ h)), fun _ h => .inl h⟩
theorem Stp.cell {F F' : List Nat} {W W' : World} (h : Stp F W F' W') {a : Addr} (hb : a.block < W.heap.size) (hF : a.block ∉ F) : W'.cell? a = W.cell? a := World.cell?_of_block (h.block _ hb hF)

/-! ### The queue -/
/-- The numbers of a queue, in the heap's order, and how many were pushed ever. -/
structure Qu (W : World) (F : List Nat) (b : Nat) (v : Value) (l : List Ent) (t : Nat) : Prop where
  obj : W.heap[b]? = some (.cells #[v, .int .i64 (t : Int)] 62 (0, 0))
  row : Rw W v l
  foot : b ∈ F
  foot2 : ∀ k, v.ownBlock = some k → k ∈ F ∧ k ≠ b
  old : ∀ k ∈ F, k < W.heap.size
variable {W : World} {F : List Nat} {b t : Nat} {v : Value} {l : List Ent}
theorem Qu.c0 (h : Qu W F b v l t) : W.cell? ⟨b, 0, none⟩ = some v := by rw [cell_of_row W b 0 _ _ _ h.obj]; rfl
theorem Qu.c1 (h : Qu W F b v l t) : W.cell? ⟨b, 1, none⟩ = some (.int .i64 (t : Int)) := by rw [cell_of_row W b 1 _ _ _ h.obj]; rfl
theorem Qu.f0 (h : Qu W F b v l t) (j : Nat) : W.frozen? ⟨b, j, none⟩ = false := frozen_of_row W b j _ _ h.obj
theorem Qu.lt (h : Qu W F b v l t) : b < W.heap.size := (Array.getElem?_eq_some_iff.1 h.obj).1
/-- What has nothing to do with it turns nothing of it. -/
theorem Qu.other {G G' : List Nat} {W' : World} (h : Qu W F b v l t) (hs : Stp G W G' W') (hd : ∀ k ∈ F, k ∉ G) : Qu W' F b v l t := by
  refine ⟨(hs.block b h.lt (hd b h.foot)).trans h.obj, ?_, h.foot, h.foot2, fun k hk => Nat.lt_of_lt_of_le (h.old k hk) hs.size⟩
  refine ⟨h.row.1, ?_⟩
  rcases h.row.2 with hn | ⟨g, cap, cur, rfl, hb, hgg, rest⟩
  · exact .inl hn
  · exact .inr ⟨g, cap, cur, rfl, hb, (hs.block g (Array.getElem?_eq_some_iff.1 hgg).1 (hd g (h.foot2 g rfl).1)).trans hgg, rest⟩
theorem Qu.stays (h : Qu W F b v l t) (W' : World) (hs : Stp [] W [] W') : Qu W' F b v l t := h.other hs (fun _ _ h => by cases h)
/-- A new slice laid into it. -/
theorem Qu.slice (h : Qu W F b v l t) {W' : World} {F' : List Nat} {v' : Value} {l' : List Ent} (ho : W'.heap[b]? = W.heap[b]?) (hr : Rw W' v' l') (hf : b ∈ F') (hf2 : ∀ k, v'.ownBlock = some k → k ∈ F' ∧ k ≠ b) (ho' : ∀ k ∈ F', k < W'.heap.size) :
    Qu (W'.setCell ⟨b, 0, none⟩ v') F' b v' l' t := by
  have h1 : W'.heap[b]? = some (.cells #[v, .int .i64 (t : Int)] 62 (0, 0)) := ho.trans h.obj
  refine ⟨heap_setCell_same W' b 0 _ _ v' h1, ?_, hf, hf2, fun k hk => by rw [World.size_setCell]; exact ho' k hk⟩
  refine ⟨hr.1, ?_⟩
  rcases hr.2 with hn | ⟨g, cap, cur, rfl, hb, hgg, rest⟩
  · exact .inl hn
  · exact .inr ⟨g, cap, cur, rfl, hb, (Below.heap_setCell W' ⟨b, 0, none⟩ _ g (hf2 g rfl).2).trans hgg, rest⟩
theorem Qu.turn (h : Qu W F b v l t) (t' : Nat) : Qu (W.setCell ⟨b, 1, none⟩ (.int .i64 (t' : Int))) F b v l t' := by
  refine ⟨heap_setCell_same W b 1 _ _ _ h.obj, ?_, h.foot, h.foot2, fun k hk => by rw [World.size_setCell]; exact h.old k hk⟩
  refine ⟨h.row.1, ?_⟩
  rcases h.row.2 with hn | ⟨g, cap, cur, rfl, hb, hgg, rest⟩
  · exact .inl hn
  · exact .inr ⟨g, cap, cur, rfl, hb, (Below.heap_setCell W ⟨b, 1, none⟩ _ g (h.foot2 g rfl).2).trans hgg, rest⟩
theorem Qu.hp (h : Qu W F b v l t) {g cap n : Nat} (e : v = .slice (some ⟨g, 0, none⟩) n cap) : Hp W b g cap n l W := by
  subst e
  exact ⟨h.row, h.c0, fun e => (h.foot2 g rfl).2 e.symm, World.grownBy.refl _ _⟩
theorem Qu.of_hp (h : Qu W F b v l t) {g cap n : Nat} {W' : World} {l' : List Ent} (e : v = .slice (some ⟨g, 0, none⟩) n cap) (hp : Hp W b g cap n l' W') : Qu W' F b v l' t ∧ Stp F W F W' := by
  subst e
  have hF := h.foot2 g rfl
  refine ⟨⟨(hp.gr.block b h.lt (fun e => hF.2 (by simpa using e.symm))).trans h.obj, hp.row, h.foot, h.foot2, fun k hk => Nat.lt_of_lt_of_le (h.old k hk) hp.gr.size⟩, Stp.grown hp.gr (fun k e => ?_) fun _ h => .inl h⟩
  simp only [Option.some.injEq] at e
  subst e
  exact hF.1
end Go.Proofs.Ytjjaaahoophgpaa
