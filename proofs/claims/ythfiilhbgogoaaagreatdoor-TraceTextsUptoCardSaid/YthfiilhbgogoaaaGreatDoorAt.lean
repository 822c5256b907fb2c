/-
  A block of attributes, and results in a cell.
-/
import Derived.Test.YthfiilhbgogoaaaGreatDoorText2
import Derived.Laws.ResultCell
import Derived.Laws.Rows
namespace Go.Proofs.YthfiilhbgogoaaaGreatDoor
open Go.RowKit Go.Lib
set_option linter.unusedVariables false

theorem attrs_info : (Tryz.prog.info? 41).map (·.size) = some 3 := by kernel_rfl
theorem res_attrs {fn : Func} {p : Tmp} (h : fn.results = #[.cell p 41]) (tmps : Array Value) (w : World) (g f m t : Nat) (hp : tmps.getD p undef = .pointer (some ⟨g, 0, none⟩))
    (hg : w.heap[g]? = some (.cells #[.int .u32 (f : Int), .int .u8 (m : Int), .int .u8 (t : Int)] 41 (0, 0))) : (results fn tmps).run Tryz.prog w = .ok (av f m t) w := by
  exact results_cell_row h tmps w g _ _ _ _ hp hg Tryz.underlying41 rfl attrs_info
theorem res_attrs2 {fn : Func} {p u : Tmp} (h : fn.results = #[.cell p 41, .tmp u]) (tmps : Array Value) (w : World) (g f m t : Nat) (hp : tmps.getD p undef = .pointer (some ⟨g, 0, none⟩))
    (hg : w.heap[g]? = some (.cells #[.int .u32 (f : Int), .int .u8 (m : Int), .int .u8 (t : Int)] 41 (0, 0))) : (results fn tmps).run Tryz.prog w = .ok (.tuple #[av f m t, tmps.getD u undef]) w := by
  rw [results_cell_tmp h, hp]
  have h1 := run_loadVar_row (P := Tryz.prog) w g _ _ _ _ _ hg Tryz.underlying41 rfl attrs_info
  simp only [asAddr, Sem.run_pure, Result.andThen_ok, h1]
  unfold av
  rfl

/-- A block of attributes known whole. -/
def At3 (W : World) (g f m t : Nat) : Prop := W.heap[g]? = some (.cells #[.int .u32 (f : Int), .int .u8 (m : Int), .int .u8 (t : Int)] 41 (0, 0))
theorem At3.new (W : World) (f m t : Nat) : At3 (W.alloc (.cells #[.int .u32 (f : Int), .int .u8 (m : Int), .int .u8 (t : Int)] 41)) W.heap.size f m t := heap_alloc_new _ _
theorem At3.lt {W : World} {g f m t : Nat} (h : At3 W g f m t) : g < W.heap.size := (Array.getElem?_eq_some_iff.1 h).1
theorem At3.stays {W W' : World} {g f m t : Nat} {F : List Nat} (h : At3 W g f m t) (hs : Stp [] W F W') : At3 W' g f m t := (hs.block g h.lt (by simp)).trans h
theorem At3.cells {W : World} {g f m t : Nat} (h : At3 W g f m t) : W.cell? ⟨g, 0, none⟩ = some (.int .u32 (f : Int)) ∧ W.cell? ⟨g, 1, none⟩ = some (.int .u8 (m : Int)) ∧ W.cell? ⟨g, 2, none⟩ = some (.int .u8 (t : Int)) ∧
    W.frozen? ⟨g, 0, none⟩ = false ∧ W.frozen? ⟨g, 1, none⟩ = false ∧ W.frozen? ⟨g, 2, none⟩ = false :=
  ⟨by rw [cell_of_row W g 0 _ _ _ h]; rfl, by rw [cell_of_row W g 1 _ _ _ h]; rfl, by rw [cell_of_row W g 2 _ _ _ h]; rfl, frozen_of_row W g 0 _ _ h, frozen_of_row W g 1 _ _ h, frozen_of_row W g 2 _ _ h⟩
theorem At3.set {W : World} {g f m t : Nat} (h : At3 W g f m t) (f' m' t' : Nat) : At3 (((W.setCell ⟨g, 0, none⟩ (.int .u32 (f' : Int))).setCell ⟨g, 1, none⟩ (.int .u8 (m' : Int))).setCell ⟨g, 2, none⟩ (.int .u8 (t' : Int))) g f' m' t' := by
  have h1 := heap_setCell_same W g 0 _ _ (.int .u32 (f' : Int)) h
  have h2 := heap_setCell_same _ g 1 _ _ (.int .u8 (m' : Int)) h1
  have h3 := heap_setCell_same _ g 2 _ _ (.int .u8 (t' : Int)) h2
  exact h3
theorem At3.stp (W : World) (g : Nat) (a b c : Value) : Stp [g] W [g] (((W.setCell ⟨g, 0, none⟩ a).setCell ⟨g, 1, none⟩ b).setCell ⟨g, 2, none⟩ c) :=
  ((Stp.setCell (F := [g]) (a := ⟨g, 0, none⟩) W a (by simp)).trans (Stp.setCell (F := [g]) (a := ⟨g, 1, none⟩) _ b (by simp))).trans (Stp.setCell (F := [g]) (a := ⟨g, 2, none⟩) _ c (by simp))
end Go.Proofs.YthfiilhbgogoaaaGreatDoor
