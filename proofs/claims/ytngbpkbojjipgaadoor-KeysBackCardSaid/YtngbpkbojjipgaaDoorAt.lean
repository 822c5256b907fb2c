/-
  A key as a value, a block of one, and results in a cell.
-/
import Derived.Test.YtngbpkbojjipgaaDoorTabs
import Derived.Laws.ResultCell
import Derived.Laws.Rows
namespace Go.Proofs.YtngbpkbojjipgaaDoor
open Go.RowKit Go.Lib
set_option linter.unusedVariables false

/-- A key. -/
def kv (k c : Int) : Value := .agg #[.int .i64 k, .int .i64 c]
theorem key_info : (Tryd.prog.info? 23).map (·.size) = some 2 := by kernel_rfl
theorem res_key {fn : Func} {p : Tmp} (h : fn.results = #[.cell p 23]) (tmps : Array Value) (w : World) (g : Nat) (k c : Int) (hp : tmps.getD p undef = .pointer (some ⟨g, 0, none⟩))
    (hg : w.heap[g]? = some (.cells #[.int .i64 k, .int .i64 c] 23 (0, 0))) : (results fn tmps).run Tryd.prog w = .ok (kv k c) w := by
  exact results_cell_row h tmps w g _ _ _ _ hp hg Tryd.underlying23 rfl key_info
theorem res_key2 {fn : Func} {p u : Tmp} (h : fn.results = #[.cell p 23, .tmp u]) (tmps : Array Value) (w : World) (g : Nat) (k c : Int) (hp : tmps.getD p undef = .pointer (some ⟨g, 0, none⟩))
    (hg : w.heap[g]? = some (.cells #[.int .i64 k, .int .i64 c] 23 (0, 0))) : (results fn tmps).run Tryd.prog w = .ok (.tuple #[kv k c, tmps.getD u undef]) w := by
  rw [results_cell_tmp h, hp]
  have h1 := run_loadVar_row (P := Tryd.prog) w g _ _ _ _ _ hg Tryd.underlying23 rfl key_info
  simp only [asAddr, Sem.run_pure, Result.andThen_ok, h1]
  unfold kv
  rfl

/-- A block of a key known whole. -/
def At2 (W : World) (g : Nat) (k c : Int) : Prop := W.heap[g]? = some (.cells #[.int .i64 k, .int .i64 c] 23 (0, 0))
theorem At2.new (W : World) (k c : Int) : At2 (W.alloc (.cells #[.int .i64 k, .int .i64 c] 23)) W.heap.size k c := heap_alloc_new _ _
theorem At2.lt {W : World} {g : Nat} {k c : Int} (h : At2 W g k c) : g < W.heap.size := (Array.getElem?_eq_some_iff.1 h).1
theorem At2.stays {W W' : World} {g : Nat} {k c : Int} {F : List Nat} (h : At2 W g k c) (hs : Stp [] W F W') : At2 W' g k c := (hs.block g h.lt (by simp)).trans h
theorem At2.other {W W' : World} {g : Nat} {k c : Int} {F F' : List Nat} (h : At2 W g k c) (hs : Stp F W F' W') (hF : g ∉ F) : At2 W' g k c := (hs.block g h.lt hF).trans h
theorem At2.cells {W : World} {g : Nat} {k c : Int} (h : At2 W g k c) : W.cell? ⟨g, 0, none⟩ = some (.int .i64 k) ∧ W.cell? ⟨g, 1, none⟩ = some (.int .i64 c) ∧ W.frozen? ⟨g, 0, none⟩ = false ∧ W.frozen? ⟨g, 1, none⟩ = false :=
  ⟨by rw [cell_of_row W g 0 _ _ _ h]; rfl, by rw [cell_of_row W g 1 _ _ _ h]; rfl, frozen_of_row W g 0 _ _ h, frozen_of_row W g 1 _ _ h⟩
theorem At2.set {W : World} {g : Nat} {k c : Int} (h : At2 W g k c) (k' c' : Int) : At2 ((W.setCell ⟨g, 0, none⟩ (.int .i64 k')).setCell ⟨g, 1, none⟩ (.int .i64 c')) g k' c' := by
  have h1 := heap_setCell_same W g 0 _ _ (.int .i64 k') h
  have h2 := heap_setCell_same _ g 1 _ _ (.int .i64 c') h1
  exact h2
theorem At2.stp (W : World) (g : Nat) (a b : Value) : Stp [g] W [g] ((W.setCell ⟨g, 0, none⟩ a).setCell ⟨g, 1, none⟩ b) :=
  (Stp.setCell (F := [g]) (a := ⟨g, 0, none⟩) W a (by simp)).trans (Stp.setCell (F := [g]) (a := ⟨g, 1, none⟩) _ b (by simp))
end Go.Proofs.YtngbpkbojjipgaaDoor
