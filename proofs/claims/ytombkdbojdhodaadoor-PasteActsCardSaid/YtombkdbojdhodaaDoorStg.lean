/-
  A stage in memory: New, Start, Drop, Begun, Over, Len, Add.
-/
import Derived.Test.YtombkdbojdhodaaDoorBuf4
import Derived.Defers
namespace Go.Proofs.YtombkdbojdhodaaDoor
open Go.RowKit Go.Lib
set_option linter.unusedVariables false

/-- What a stage holds: the characters that wait, whether a paste is begun, and whether it is over. -/
structure Sv where
  X : List Nat
  bg : Bool
  ov : Bool
/-- A stage over an arena. -/
structure Sg (W : World) (s b g N : Nat) (t : Sv) : Prop where
  obj : W.heap[s]? = some (.cells #[.pointer (some ⟨b, 0, none⟩), .bool t.bg, .bool t.ov] 74 (0, 0))
  ar : Ar W b g N (fl t.X)
  pr : Pr t.X
  inv : t.bg = false → t.X = [] ∧ t.ov = false
  sb : s ≠ b
  sg : s ≠ g
section
variable {W W' : World} {s b g N : Nat} {t : Sv}
theorem Sg.c0 (h : Sg W s b g N t) : W.cell? ⟨s, 0, none⟩ = some (.pointer (some ⟨b, 0, none⟩)) := by rw [cell_of_row W s 0 _ _ _ h.obj]; rfl
theorem Sg.c1 (h : Sg W s b g N t) : W.cell? ⟨s, 1, none⟩ = some (.bool t.bg) := by rw [cell_of_row W s 1 _ _ _ h.obj]; rfl
theorem Sg.c2 (h : Sg W s b g N t) : W.cell? ⟨s, 2, none⟩ = some (.bool t.ov) := by rw [cell_of_row W s 2 _ _ _ h.obj]; rfl
theorem Sg.f1 (h : Sg W s b g N t) : W.frozen? ⟨s, 1, none⟩ = false := frozen_of_row W s 1 _ _ h.obj
theorem Sg.f2 (h : Sg W s b g N t) : W.frozen? ⟨s, 2, none⟩ = false := frozen_of_row W s 2 _ _ h.obj
theorem Sg.lt (h : Sg W s b g N t) : s < W.heap.size ∧ b < W.heap.size ∧ g < W.heap.size := ⟨(Array.getElem?_eq_some_iff.1 h.obj).1, Cl.lt h.ar, h.ar.row.lt⟩
theorem Sg.other {F F' : List Nat} (h : Sg W s b g N t) (hs : Stp F W F' W') (he : s ∉ F) (hb : b ∉ F) (hg : g ∉ F) : Sg W' s b g N t :=
  ⟨(hs.block s h.lt.1 he).trans h.obj, h.ar.other hs hb hg, h.pr, h.inv, h.sb, h.sg⟩
theorem Sg.stays {F : List Nat} (h : Sg W s b g N t) (hs : Stp [] W F W') : Sg W' s b g N t := h.other hs (by simp) (by simp) (by simp)
theorem Sg.lens (h : Sg W s b g N t) : (fl t.X).length ≤ N ∧ N ≤ 4096 := ⟨h.ar.le, h.ar.top⟩
end
/-- Nothing waits. -/
def sv0 : Sv := ⟨[], false, false⟩
/-- What Start leaves. -/
def stS (t : Sv) : Int × Sv := if t.bg = true then (11, t) else (0, ⟨t.X, true, t.ov⟩)
/-- What Add leaves. -/
def adS (N : Nat) (c : Int) (t : Sv) : Int × Sv :=
  if t.bg = true then (if U.prB c = true then (if t.ov = true then (4, t) else if (fl t.X).length + (fl [c.toNat]).length ≤ N then (0, ⟨t.X ++ [c.toNat], true, false⟩) else (4, ⟨t.X, true, true⟩)) else (2, t)) else (11, t)
/-- What a call leaves: its error, and a stage. -/
def SDid (s b g N : Nat) (r : Int × Sv) (W : World) (en : Ending) (w' : World) : Prop := en = .returned (.int .i64 r.1) ∧ Sg w' s b g N r.2 ∧ Stp [s, b, g] W [s, b, g] w'

theorem snew_nil (W : World) : Calls Tryd.prog 32 #[.pointer none] W (Gives (.tuple #[.pointer none, .int .i64 1]) W) := by
  go_enter Tryd.func32, Tryd.ntmps32
  go_wp2
  go_ret2
  exact ⟨rfl, rfl⟩
/-- What New answers. -/
def SNewed (b g N : Nat) (W : World) (e : Ending) (w' : World) : Prop := ∃ d, e = .returned (.tuple #[.pointer (some ⟨d, 0, none⟩), .int .i64 0]) ∧ W.heap.size ≤ d ∧ Sg w' d b g N sv0 ∧ Stp [b, g] W [d, b, g] w'
theorem snew_run {W : World} {b g N : Nat} {l : List UInt8} (h : Ar W b g N l) : Calls Tryd.prog 32 #[.pointer (some ⟨b, 0, none⟩)] W (SNewed b g N W) := by
  have K2 := Lib.hid (wipe_run h)
  have HL : Aside (b < W.heap.size ∧ g < W.heap.size) := ⟨Cl.lt h, h.row.lt⟩
  clear h
  go_enter Tryd.func32, Tryd.ntmps32
  go_wp2_with fail
  refine K2.out.mono ?_
  rintro _ w1 ⟨rfl, ha, hs⟩
  have H1 : Aside (Ar w1 b g N [] ∧ Stp [b, g] W [b, g] w1) := ⟨ha, hs⟩
  clear K2 ha hs
  go_wp2
  go_ret2
  have hz := H1.out.2.size
  refine ⟨w1.heap.size, rfl, hz, ⟨?_, H1.out.1.stays (Stp.alloc [] w1 _), Pr.nil, fun _ => ⟨rfl, rfl⟩, by have := HL.out; omega, by have := HL.out; omega⟩, H1.out.2.trans ?_⟩
  · rw [heap_alloc_new]
    rfl
  · have hs := Stp.alloc [b, g] w1 (.cells #[.pointer (some ⟨b, 0, none⟩), .bool false, .bool false] 74)
    exact ⟨hs.os, hs.tape, hs.output, hs.size, hs.block, fun k hk => by simp at hk ⊢; omega⟩

/-! ### Of no stage -/
theorem start_nil (W : World) : Calls Tryd.prog 11 #[.pointer none] W (Gives (.int .i64 1) W) := by
  go_enter Tryd.func11, Tryd.ntmps11
  go_wp2
  go_ret
  exact ⟨rfl, rfl⟩
theorem add_nil (c : Int) (W : World) : Calls Tryd.prog 13 #[.pointer none, .int .i64 c] W (Gives (.int .i64 1) W) := by
  go_enter Tryd.func13, Tryd.ntmps13
  go_wp2
  go_ret
  exact ⟨rfl, rfl⟩
theorem drop_nil (W : World) : Calls Tryd.prog 17 #[.pointer none] W (Gives (.tuple #[]) W) := by
  go_enter Tryd.func17, Tryd.ntmps17
  go_wp2
  refine bodyPost_ret (results_none rfl _ _ _) rfl ?_
  exact ⟨rfl, rfl⟩
theorem begun_nil (W : World) : Calls Tryd.prog 24 #[.pointer none] W (Gives (.bool false) W) := by
  go_enter Tryd.func24, Tryd.ntmps24
  go_wp2
  go_ret
  exact ⟨rfl, rfl⟩
theorem over_nil (W : World) : Calls Tryd.prog 25 #[.pointer none] W (Gives (.bool false) W) := by
  go_enter Tryd.func25, Tryd.ntmps25
  go_wp2
  go_ret
  exact ⟨rfl, rfl⟩
theorem slen_nil (W : World) : Calls Tryd.prog 26 #[.pointer none] W (Gives (.int .i64 0) W) := by
  go_enter Tryd.func26, Tryd.ntmps26
  go_wp2
  go_ret
  exact ⟨rfl, rfl⟩
theorem end_nil (v : Value) (W : World) : Calls Tryd.prog 15 #[.pointer none, v] W (Gives (.int .i64 1) W) := by
  go_enter_defers Tryd.func15, Tryd.ntmps15
  go_wp2
  exact ⟨_, results_tmp rfl _ _ _, rfl, rfl⟩

/-! ### Of a stage -/
section
variable {W : World} {s b g N : Nat} {t : Sv}
theorem begun_run (h : Sg W s b g N t) : Calls Tryd.prog 24 #[.pointer (some ⟨s, 0, none⟩)] W (Gives (.bool t.bg) W) := by
  have c1 := h.c1
  clear h
  generalize t.bg = bg at *
  go_enter Tryd.func24, Tryd.ntmps24
  go_wp2
  go_ret
  exact ⟨rfl, rfl⟩
theorem over_run (h : Sg W s b g N t) : Calls Tryd.prog 25 #[.pointer (some ⟨s, 0, none⟩)] W (Gives (.bool t.ov) W) := by
  have c2 := h.c2
  clear h
  generalize t.ov = ov at *
  go_enter Tryd.func25, Tryd.ntmps25
  go_wp2
  go_ret
  exact ⟨rfl, rfl⟩
theorem slen_run (h : Sg W s b g N t) : Calls Tryd.prog 26 #[.pointer (some ⟨s, 0, none⟩)] W (Gives (.int .i64 ((fl t.X).length : Int)) W) := by
  have K1 := Lib.hid (len_cl h.ar)
  have c0 := h.c0
  clear h
  go_enter Tryd.func26, Tryd.ntmps26
  go_wp2_with fail
  refine K1.out.mono ?_
  rintro _ W ⟨rfl, rfl⟩
  go_wp2
  go_ret
  exact ⟨rfl, rfl⟩
theorem start_run (h : Sg W s b g N t) : Calls Tryd.prog 11 #[.pointer (some ⟨s, 0, none⟩)] W (SDid s b g N (stS t) W) := by
  have c1 := h.c1
  have f1 := h.f1
  obtain ⟨X, bg, ov⟩ := t
  dsimp only at c1
  have H := Lib.hid h
  clear h
  cases bg with
  | true =>
    go_enter Tryd.func11, Tryd.ntmps11
    go_wp2
    go_ret
    exact ⟨rfl, H.out, Stp.refl _ _⟩
  | false =>
    go_enter Tryd.func11, Tryd.ntmps11
    go_wp2
    go_ret
    have h := H.out
    have hs : Stp [s] W [s] (W.setCell ⟨s, 1, none⟩ (.bool true)) := Stp.setCell (F := [s]) (a := ⟨s, 1, none⟩) W _ (by simp)
    exact ⟨rfl, ⟨heap_setCell_same W s 1 _ _ _ h.obj, h.ar.other hs (by simpa using h.sb.symm) (by simpa using h.sg.symm), h.pr, (fun h => by cases h), h.sb, h.sg⟩, hs.more (fun k hk => by simp at hk; simp [hk])⟩
end
end Go.Proofs.YtombkdbojdhodaaDoor
