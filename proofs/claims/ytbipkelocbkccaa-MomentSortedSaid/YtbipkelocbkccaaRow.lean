/-
  A row of moments of the call's own in memory, as a list: what its cells hold, and what two stores that exchange two of them leave.
-/
import Derived.Test.YtbipkelocbkccaaSorted
import Derived.Test.YtbipkelocbkccaaOf
import Derived.Shelf.SlSortCmp.Kit1
import Derived.Deep.LoopGhost
import Derived.Deep.QuietTactic
import Derived.BigQuiet
import Derived.BigRegion
namespace Go.Proofs.Ytbipkelocbkccaa
open Go.RowKit Go.Lib Go.Sort
set_option linter.unusedVariables false

def encM (x : Mo) : Value := .float .f64 x.v
theorem encM_one : OneCell encM := fun x => rfl
theorem store_float (b : Nat) (a : Addr) (m : Mode) (w : World) : Sem.run Try.prog (store a (.float .f64 b) m) w = stored Try.prog w a (.float .f64 b) m := run_store Try.prog w a _ m rfl

/-- The row at a place of memory holds a list, all else as in w0. -/
structure At (w0 : World) (blk off n : Nat) (l : List Mo) (W : World) : Prop where
  len : l.length = n
  sw : SW encM w0 blk off l.toArray W
/-- What is told of the row, once. -/
structure Ro (w0 : World) (blk off n : Nat) : Prop where
  row : ∃ d0 : Array Mo, d0.size = n ∧ Row1 encM w0 blk off d0
  small : n < 4611686018427387904

variable {w0 W : World} {blk off n : Nat} {l : List Mo}

theorem at_split (P S : List Mo) (x : Mo) : (P ++ x :: S).toArray[P.length]! = x := by simp

theorem At.cell (h : At w0 blk off n l W) (R : Ro w0 blk off n) {P S : List Mo} {x : Mo} (e : l = P ++ x :: S) : W.cell? ⟨blk, off + P.length, none⟩ = some (.float .f64 x.v) := by
  obtain ⟨⟨d0, hd, R⟩, _⟩ := R
  have hs : l.toArray.size = d0.size := by simp [h.len, hd]
  have hi : P.length < l.toArray.size := by rw [e]; simp
  have := h.sw.c1 R hs P.length hi
  rw [this]
  subst e
  rw [at_split]
  rfl
theorem At.cellI (h : At w0 blk off n l W) (R : Ro w0 blk off n) {i : Nat} (hi : i < n) : W.cell? ⟨blk, off + i, none⟩ = some (.float .f64 (l[i]!).v) := by
  obtain ⟨⟨d0, hd, R⟩, _⟩ := R
  have hs : l.toArray.size = d0.size := by simp [h.len, hd]
  have hi : i < l.toArray.size := by simp [h.len, hi]
  have := h.sw.c1 R hs i hi
  rw [this]
  simp [encM]
theorem At.free (h : At w0 blk off n l W) (R : Ro w0 blk off n) {i : Nat} (hi : i < n) : W.frozen? ⟨blk, off + i, none⟩ = false := by
  obtain ⟨⟨d0, hd, R⟩, _⟩ := R
  have hs : l.toArray.size = d0.size := by simp [h.len, hd]
  exact h.sw.f1 R hs i (by simp [h.len, hi])
theorem At.drew (h : At w0 blk off n l W) : At w0 blk off n l W.drew := ⟨h.len, h.sw.drew⟩
theorem At.drewN (h : At w0 blk off n l W) (q : Nat) : At w0 blk off n l (W.drewN q) := ⟨h.len, h.sw.drewN q⟩
theorem At.swap (h : At w0 blk off n l W) (R : Ro w0 blk off n) {P M S : List Mo} {x y : Mo} (e : l = P ++ x :: (M ++ y :: S)) {i j : Nat} (hi : i = P.length) (hj : j = P.length + 1 + M.length) :
    At w0 blk off n (P ++ y :: (M ++ x :: S)) ((W.setCell ⟨blk, off + i, none⟩ (.float .f64 y.v)).setCell ⟨blk, off + j, none⟩ (.float .f64 x.v)) := by
  obtain ⟨⟨d0, hd, R⟩, _⟩ := R
  refine ⟨by have := h.len; rw [e] at this; simp at this ⊢; omega, ?_⟩
  have h1 : i < l.toArray.size := by rw [e]; simp; omega
  have h2 : j < l.toArray.size := by rw [e]; simp; omega
  have := h.sw.swap R.hblk i j h1 h2
  have ei : l.toArray[i]! = x := by rw [e, hi]; exact at_split _ _ _
  have ej : l.toArray[j]! = y := by
    rw [e, show P ++ x :: (M ++ y :: S) = (P ++ x :: M) ++ y :: S by simp, show j = (P ++ x :: M).length by simp; omega]
    exact at_split _ _ _
  have es : swp l.toArray i j = (P ++ y :: (M ++ x :: S)).toArray := by
    unfold swp
    rw [ei, ej, e, hi, hj]
    simp
    rw [show P ++ y :: (M ++ y :: S) = (P ++ y :: M) ++ y :: S by simp, show P.length + 1 + M.length = (P ++ y :: M).length by simp; omega, List.set_append_right _ _ (Nat.le_refl _)]
    simp
  rw [ei, ej, es] at this
  exact this
/-- The same, the stores the other way about. -/
theorem At.swapR (h : At w0 blk off n l W) (R : Ro w0 blk off n) {P M S : List Mo} {x y : Mo} (e : l = P ++ x :: (M ++ y :: S)) {i j : Nat} (hi : i = P.length) (hj : j = P.length + 1 + M.length) :
    At w0 blk off n (P ++ y :: (M ++ x :: S)) ((W.setCell ⟨blk, off + j, none⟩ (.float .f64 x.v)).setCell ⟨blk, off + i, none⟩ (.float .f64 y.v)) := by
  obtain ⟨⟨d0, hd, R⟩, _⟩ := R
  refine ⟨by have := h.len; rw [e] at this; simp at this ⊢; omega, ?_⟩
  have h1 : i < l.toArray.size := by rw [e]; simp; omega
  have h2 : j < l.toArray.size := by rw [e]; simp; omega
  have := h.sw.swap R.hblk j i h2 h1
  have ei : l.toArray[i]! = x := by rw [e, hi]; exact at_split _ _ _
  have ej : l.toArray[j]! = y := by
    rw [e, show P ++ x :: (M ++ y :: S) = (P ++ x :: M) ++ y :: S by simp, show j = (P ++ x :: M).length by simp; omega]
    exact at_split _ _ _
  have es : swp l.toArray j i = (P ++ y :: (M ++ x :: S)).toArray := by
    unfold swp
    rw [ei, ej, e, hi, hj]
    rw [show P ++ x :: (M ++ y :: S) = (P ++ x :: M) ++ y :: S by simp, show P.length + 1 + M.length = (P ++ x :: M).length by simp; omega]
    simp
  rw [ei, ej, es] at this
  exact this
theorem cmp_neg {x y : Mo} : cmpN x.v y.v < 0 ↔ x.key < y.key := by
  unfold cmpN cmpK Mo.key
  (repeat' split) <;> omega
theorem compare_quiet (x y : Mo) (w : World) (q : Nat) : Calls Try.prog 12 #[.float .f64 x.v, .float .f64 y.v] (w.drewN q) fun e w' => e = .returned (.int .i64 (cmpN x.v y.v)) ∧ ∃ n, w' = w.drewN n :=
  (compare_any x.v y.v x.lt y.lt (w.drewN q)).mono fun e w' ⟨he, hw⟩ => ⟨he, q, hw⟩
/-- Behind the first of the two stores the other cell is as it was. -/
theorem At.second (h : At w0 blk off n l W) (R : Ro w0 blk off n) {P S : List Mo} {x : Mo} (e : l = P ++ x :: S) {i : Nat} (hi : i ≠ P.length) (v : Value) :
    (W.setCell ⟨blk, off + i, none⟩ v).cell? ⟨blk, off + P.length, none⟩ = some (.float .f64 x.v) :=
  (World.cell?_setCell_other _ _ _ _ (by intro e'; simp only [Addr.mk.injEq] at e'; omega)).trans (h.cell R e)
end Go.Proofs.Ytbipkelocbkccaa
