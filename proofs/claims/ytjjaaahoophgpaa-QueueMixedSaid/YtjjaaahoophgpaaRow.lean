/-
  A row of entries in memory, as a list: what its cells hold, and what a store of a whole entry leaves.
-/
import Derived.Test.YtjjaaahoophgpaaHeap
import Derived.Test.YtjjaaahoophgpaaKey
import Derived.Deep.MidRow
import Derived.Deep.LoopGhost
import Derived.Deep.QuietTactic
import Derived.BigQuiet
import Derived.BigRegion
import Derived.Maps.AppendAt
import Derived.Laws.OwnMore
import Derived.Laws.AppendOwnNone
import Derived.Below
import Derived.OwnWalk
import Derived.Handy
namespace Go.Proofs.Ytjjaaahoophgpaa
open Go.RowKit Go.Lib
set_option linter.unusedVariables false

def encE (e : Ent) : List Value := [.float .f64 e.m.v, .int .i64 e.n, .int .i64 (e.t : Int)]
def cellsE (l : List Ent) : List Value := l.flatMap encE
theorem cellsE_length (l : List Ent) : (cellsE l).length = l.length * 3 := by
  unfold cellsE
  induction l with
  | nil => rfl
  | cons x t ih => simp only [List.flatMap_cons, List.length_append, ih, List.length_cons]; simp [encE]; omega
theorem cellsE_at (l : List Ent) : ∀ (i : Nat), i < l.length → ∀ j, j < 3 → (cellsE l)[i * 3 + j]? = (encE (l[i]!))[j]? := by
  induction l with
  | nil => intro i hi; simp at hi
  | cons x t ih =>
    intro i hi j hj
    have hx : (encE x).length = 3 := rfl
    cases i with
    | zero =>
      simp only [cellsE, List.flatMap_cons, Nat.zero_mul, Nat.zero_add]
      rw [List.getElem?_append_left (by omega)]
      rfl
    | succ i =>
      have := ih i (by simpa using hi) j hj
      simp only [cellsE, List.flatMap_cons]
      rw [List.getElem?_append_right (by rw [hx]; omega), hx, show (i + 1) * 3 + j - 3 = i * 3 + j by omega]
      simpa [cellsE] using this
theorem cellsE_set (l : List Ent) (x : Ent) : ∀ (i : Nat), i < l.length → ((((cellsE l).set (i * 3) (.float .f64 x.m.v)).set (i * 3 + 1) (.int .i64 x.n)).set (i * 3 + 2) (.int .i64 (x.t : Int))) = cellsE (l.set i x) := by
  induction l with
  | nil => intro i hi; simp at hi
  | cons y t ih =>
    intro i hi
    cases i with
    | zero => simp [cellsE, encE]
    | succ i =>
      have := ih i (by simpa using hi)
      have e : cellsE (y :: t) = .float .f64 y.m.v :: .int .i64 y.n :: .int .i64 (y.t : Int) :: cellsE t := by simp [cellsE, encE]
      rw [e, List.set_cons_succ, show (i + 1) * 3 = (i * 3) + 1 + 1 + 1 by omega]
      simp only [List.set_cons_succ]
      rw [this]
      simp [cellsE, encE]

/-- A row of entries. -/
def Rw (W : World) (v : Value) (l : List Ent) : Prop := W.ownsRow 0 66 3 v l.length (cellsE l)

theorem Rw.form {W : World} {v : Value} {l : List Ent} (h : Rw W v l) : (v = .slice none 0 0 ∧ l = []) ∨ ∃ g cap, v = .slice (some ⟨g, 0, none⟩) l.length cap ∧ g < W.heap.size := by
  rcases h.2 with ⟨h1, h0⟩ | ⟨g, cap, cur, hv, hg, hh, _⟩
  · exact .inl ⟨h1, List.length_eq_zero_iff.1 h0⟩
  · exact .inr ⟨g, cap, hv, (Array.getElem?_eq_some_iff.1 hh).1⟩

variable {W : World} {g n cap : Nat} {l : List Ent}
theorem Rw.len (h : Rw W (.slice (some ⟨g, 0, none⟩) n cap) l) : n = l.length := by
  rcases h.2 with ⟨h1, h0⟩ | ⟨g, cap, cur, hv, hg, hh, _⟩
  · cases h1
  · cases hv; rfl
theorem Rw.cell (h : Rw W (.slice (some ⟨g, 0, none⟩) n cap) l) {i : Nat} (hi : i < n) (j : Nat) (hj : j < 3) : W.cell? ⟨g, i * 3 + j, none⟩ = (encE (l[i]!))[j]? := by
  have hn := h.len
  subst hn
  have := World.ownsRow.cellAt h (i * 3 + j) (by omega)
  rw [this]
  exact cellsE_at l i hi j hj
theorem Rw.c0 (h : Rw W (.slice (some ⟨g, 0, none⟩) n cap) l) {i : Nat} (hi : i < n) : W.cell? ⟨g, i * 3, none⟩ = some (.float .f64 (l[i]!).m.v) := h.cell hi 0 (by omega)
theorem Rw.c1 (h : Rw W (.slice (some ⟨g, 0, none⟩) n cap) l) {i : Nat} (hi : i < n) : W.cell? ⟨g, i * 3 + 1, none⟩ = some (.int .i64 (l[i]!).n) := h.cell hi 1 (by omega)
theorem Rw.c2 (h : Rw W (.slice (some ⟨g, 0, none⟩) n cap) l) {i : Nat} (hi : i < n) : W.cell? ⟨g, i * 3 + 2, none⟩ = some (.int .i64 ((l[i]!).t : Int)) := h.cell hi 2 (by omega)
theorem Rw.range (h : Rw W (.slice (some ⟨g, 0, none⟩) n cap) l) {i : Nat} (hi : i < n) : W.rangeAt g (i * 3) (encE (l[i]!)) := by
  intro j v hv
  have hj : j < 3 := (List.getElem?_eq_some_iff.1 hv).1
  rw [h.cell hi j hj, hv]
theorem Rw.there (h : Rw W (.slice (some ⟨g, 0, none⟩) n cap) l) {i : Nat} (hi : i < n) : W.there g (i * 3) 3 := by
  intro j hj
  have hn := h.len
  subst hn
  refine ⟨?_, World.ownsRow.frozenAt h _⟩
  rw [h.cell hi j hj]
  rcases j with _ | _ | _ | j
  · rfl
  · rfl
  · rfl
  · omega
theorem Rw.set (h : Rw W (.slice (some ⟨g, 0, none⟩) n cap) l) {i : Nat} (hi : i < n) (x : Ent) :
    Rw (W.setCells g (i * 3) (encE x)) (.slice (some ⟨g, 0, none⟩) n cap) (l.set i x) ∧ W.grownBy (W.setCells g (i * 3) (encE x)) (some g) := by
  have hn := h.len
  subst hn
  obtain ⟨a1, b1⟩ := World.ownsRow.stored h (i * 3) (.float .f64 x.m.v)
  obtain ⟨a2, b2⟩ := World.ownsRow.stored a1 (i * 3 + 1) (.int .i64 x.n)
  obtain ⟨a3, b3⟩ := World.ownsRow.stored a2 (i * 3 + 2) (.int .i64 (x.t : Int))
  rw [cellsE_set l x i hi] at a3
  refine ⟨?_, (b1.trans b2).trans b3⟩
  unfold Rw
  rw [List.length_set]
  exact a3
/-- A whole entry, read. -/
theorem Rw.load (h : Rw W (.slice (some ⟨g, 0, none⟩) n cap) l) {i : Nat} (hi : i < n) :
    (Instr.loadAt 66 (.pointer (some ⟨g, i * 3, none⟩))).run Try.prog W = .ok (.agg #[.float .f64 (l[i]!).m.v, .int .i64 (l[i]!).n, .int .i64 ((l[i]!).t : Int)]) W :=
  run_loadAt_mid (P := Try.prog) W g (i * 3) 66 (encE (l[i]!)) _ (h.range hi) Try.underlying66 rfl (by kernel_rfl)
/-- A whole entry, laid. -/
theorem Rw.store (h : Rw W (.slice (some ⟨g, 0, none⟩) n cap) l) {i : Nat} (hi : i < n) (x : Ent) :
    (Instr.storeAt 66 (.pointer (some ⟨g, i * 3, none⟩)) (.agg #[.float .f64 x.m.v, .int .i64 x.n, .int .i64 (x.t : Int)])).run Try.prog W = .ok () (W.setCells g (i * 3) (encE x)) :=
  run_storeAt_mid (P := Try.prog) W g (i * 3) 66 #[.float .f64 x.m.v, .int .i64 x.n, .int .i64 (x.t : Int)] (h.there hi) (by kernel_rfl) (all_oneCell_toArray (cs := encE x) (by intro v hv; simp only [encE, List.mem_cons, List.not_mem_nil, or_false] at hv; rcases hv with rfl | rfl | rfl <;> rfl))
theorem Rw.kept {W W' : World} {v : Value} {l : List Ent} {row : Option Nat} (h : Rw W v l) (hg : W.grownBy W' row) (hne : v.ownBlock = none ∨ v.ownBlock ≠ row) : Rw W' v l := World.ownsRow.kept h hg hne
end Go.Proofs.Ytjjaaahoophgpaa
