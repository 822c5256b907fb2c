/-
  The buffer in memory; New, Len, and where characters begin.
-/
import Derived.Test.YtcailmgincafcaaDoorEdp
namespace Go.Proofs.YtcailmgincafcaaDoor
open Go.RowKit Go.Lib
set_option linter.unusedVariables false

/-- A buffer over an arena: the characters A ahead of the place, B behind it. -/
structure Bu (W : World) (e b g N : Nat) (A B : List Nat) : Prop where
  obj : W.heap[e]? = some (.cells #[.pointer (some ⟨b, 0, none⟩), .int .i64 ((fl A).length : Int)] 56 (0, 0))
  ar : Ar W b g N (fl (A ++ B))
  pr : Pr (A ++ B)
  eb : e ≠ b
  eg : e ≠ g
section
variable {W W' : World} {e b g N : Nat} {A B : List Nat}
theorem Bu.c0 (h : Bu W e b g N A B) : W.cell? ⟨e, 0, none⟩ = some (.pointer (some ⟨b, 0, none⟩)) := by rw [cell_of_row W e 0 _ _ _ h.obj]; rfl
theorem Bu.c1 (h : Bu W e b g N A B) : W.cell? ⟨e, 1, none⟩ = some (.int .i64 ((fl A).length : Int)) := by rw [cell_of_row W e 1 _ _ _ h.obj]; rfl
theorem Bu.f1 (h : Bu W e b g N A B) : W.frozen? ⟨e, 1, none⟩ = false := frozen_of_row W e 1 _ _ h.obj
theorem Bu.lt (h : Bu W e b g N A B) : e < W.heap.size ∧ b < W.heap.size ∧ g < W.heap.size := ⟨(Array.getElem?_eq_some_iff.1 h.obj).1, Cl.lt h.ar, h.ar.row.lt⟩
theorem Bu.other {F F' : List Nat} (h : Bu W e b g N A B) (hs : Stp F W F' W') (he : e ∉ F) (hb : b ∉ F) (hg : g ∉ F) : Bu W' e b g N A B :=
  ⟨(hs.block e h.lt.1 he).trans h.obj, h.ar.other hs hb hg, h.pr, h.eb, h.eg⟩
theorem Bu.stays {F : List Nat} (h : Bu W e b g N A B) (hs : Stp [] W F W') : Bu W' e b g N A B := h.other hs (by simp) (by simp) (by simp)
theorem Bu.lens (h : Bu W e b g N A B) : (fl A).length + (fl B).length = (fl (A ++ B)).length ∧ (fl (A ++ B)).length ≤ N ∧ N ≤ 4096 :=
  ⟨by rw [fl_app, List.length_append], h.ar.le, h.ar.top⟩
/-- Its place has gone. -/
theorem Bu.place (h : Bu W e b g N A B) {A' B' : List Nat} (hab : A' ++ B' = A ++ B) (n : Nat) (hn : n = (fl A').length) : Bu (W.setCell ⟨e, 1, none⟩ (.int .i64 (n : Int))) e b g N A' B' := by
  subst hn
  have hs : Stp [e] W [e] (W.setCell ⟨e, 1, none⟩ (.int .i64 ((fl A').length : Int))) := Stp.setCell (F := [e]) (a := ⟨e, 1, none⟩) W _ (by simp)
  exact ⟨heap_setCell_same W e 1 _ _ _ h.obj, by rw [hab]; exact h.ar.other hs (by simpa using h.eb.symm) (by simpa using h.eg.symm), by rw [hab]; exact h.pr, h.eb, h.eg⟩
end

/-! ### New, Len -/
theorem enew_nil (W : World) : Calls Tryd.prog 19 #[.pointer none] W (Gives (.tuple #[.pointer none, .int .i64 1]) W) := by
  go_enter Tryd.func19, Tryd.ntmps19
  go_wp2
  go_ret2
  exact ⟨rfl, rfl⟩
/-- What New answers. -/
def ENewed (b g N : Nat) (W : World) (e : Ending) (w' : World) : Prop := ∃ d, e = .returned (.tuple #[.pointer (some ⟨d, 0, none⟩), .int .i64 0]) ∧ W.heap.size ≤ d ∧ Bu w' d b g N [] [] ∧ Stp [b, g] W [d, b, g] w'
theorem enew_run {W : World} {b g N : Nat} {l : List UInt8} (h : Ar W b g N l) : Calls Tryd.prog 19 #[.pointer (some ⟨b, 0, none⟩)] W (ENewed b g N W) := by
  have K2 := Lib.hid (wipe_run h)
  have HL : Aside (b < W.heap.size ∧ g < W.heap.size) := ⟨Cl.lt h, h.row.lt⟩
  clear h
  go_enter Tryd.func19, Tryd.ntmps19
  go_wp2_with fail
  refine K2.out.mono ?_
  rintro _ w1 ⟨rfl, ha, hs⟩
  have H1 : Aside (Ar w1 b g N [] ∧ Stp [b, g] W [b, g] w1) := ⟨ha, hs⟩
  clear K2 ha hs
  go_wp2
  go_ret2
  have hz := H1.out.2.size
  refine ⟨w1.heap.size, rfl, hz, ⟨?_, H1.out.1.stays (Stp.alloc [] w1 _), Pr.nil, by have := HL.out; omega, by have := HL.out; omega⟩, H1.out.2.trans ?_⟩
  · rw [heap_alloc_new]
    rfl
  · have hs := Stp.alloc [b, g] w1 (.cells #[.pointer (some ⟨b, 0, none⟩), .int .i64 0] 56)
    exact ⟨hs.os, hs.tape, hs.output, hs.size, hs.block, fun k hk => by simp at hk ⊢; omega⟩
theorem blen_nil (W : World) : Calls Tryd.prog 16 #[.pointer none] W (Gives (.int .i64 0) W) := by
  go_enter Tryd.func16, Tryd.ntmps16
  go_wp2
  go_ret
  exact ⟨rfl, rfl⟩
section
variable {W : World} {e b g N : Nat} {A B : List Nat}
theorem blen_run (h : Bu W e b g N A B) : Calls Tryd.prog 16 #[.pointer (some ⟨e, 0, none⟩)] W (Gives (.int .i64 ((fl (A ++ B)).length : Int)) W) := by
  have K1 := Lib.hid (len_cl h.ar)
  have c0 := h.c0
  clear h
  go_enter Tryd.func16, Tryd.ntmps16
  go_wp2_with fail
  refine K1.out.mono ?_
  rintro _ W ⟨rfl, rfl⟩
  go_wp2
  go_ret
  exact ⟨rfl, rfl⟩
theorem pad_get {N : Nat} {l : List UInt8} {i : Nat} (h : i < l.length) : (pad N l)[i]! = l[i]! := by
  rw [getElem!_pos l i h, getElem!_pos _ i (by simp [pad]; omega)]
  simp [pad, h]
theorem max_zero (n : Nat) : ∀ (w : World) (ts : Array TypeId) (t : TypeId), (Builtin.max_ ts t #[.int .i64 (n : Int), .int .i64 0]).run Tryd.prog w = .ok (.int .i64 (n : Int)) w := fun w ts t => by
  rw [run_max_int2]
  by_cases h : (0 : Int) > (n : Int)
  · omega
  · rw [if_neg h]
theorem max_neg : ∀ (w : World) (ts : Array TypeId) (t : TypeId), (Builtin.max_ ts t #[.int .i64 (-1), .int .i64 0]).run Tryd.prog w = .ok (.int .i64 0) w := fun w ts t => by
  rw [run_max_int2]
  rfl
theorem min_fst (n m : Nat) (h : n ≤ m) : ∀ (w : World) (ts : Array TypeId) (t : TypeId), (Builtin.min_ ts t #[.int .i64 (n : Int), .int .i64 (m : Int)]).run Tryd.prog w = .ok (.int .i64 (n : Int)) w := fun w ts t => by
  rw [run_min_int2, if_neg (by omega)]
theorem min_snd (n m : Nat) (h : m ≤ n) : ∀ (w : World) (ts : Array TypeId) (t : TypeId), (Builtin.min_ ts t #[.int .i64 (n : Int), .int .i64 (m : Int)]).run Tryd.prog w = .ok (.int .i64 (m : Int)) w := fun w ts t => by
  rw [run_min_int2]
  by_cases h2 : (m : Int) < (n : Int)
  · rw [if_pos h2]
  · rw [if_neg h2, show (n : Int) = (m : Int) by omega]

/-- Len in a drawn region. -/
theorem blen_q (h : Ar W b g N (fl (A ++ B))) (q : Nat) : Calls Tryd.prog 22 #[.pointer (some ⟨b, 0, none⟩)] (W.drewN q) fun e w' => e = .returned (.int .i64 ((fl (A ++ B)).length : Int)) ∧ ∃ m, w' = W.drewN m :=
  (len_cl (h.stays (Stp.drewN [] W q))).mono fun _ _ ⟨h1, h2⟩ => ⟨h1, q, h2⟩
end
end Go.Proofs.YtcailmgincafcaaDoor
