/-
  The arena in memory, and its calls that change no byte: New, Len, Cap, At, Cell, Clean, Zero, Copy; and Wipe.
-/
import Derived.Test.YtcailmgincafcaaDoorMem
namespace Go.Proofs.YtcailmgincafcaaDoor
open Go.RowKit Go.Lib
set_option linter.unusedVariables false

/-- An arena's cells hold C, of which the first u are its bytes. -/
structure Cl (W : World) (b g N u : Nat) (C : List UInt8) : Prop where
  obj : W.heap[b]? = some (.cells #[.slice (some ⟨g, 0, none⟩) N N, .int .i64 (u : Int)] 58 (0, 0))
  row : Blk W g C
  len : C.length = N
  pos : 1 ≤ N
  top : N ≤ 4096
  use : u ≤ N
  ne : b ≠ g
/-- The bytes l, and nothing but 0 behind them. -/
def pad (N : Nat) (l : List UInt8) : List UInt8 := l ++ List.replicate (N - l.length) 0
theorem pad_length {N : Nat} {l : List UInt8} (h : l.length ≤ N) : (pad N l).length = N := by simp [pad]; omega
/-- An arena of N cells with the bytes l. -/
def Ar (W : World) (b g N : Nat) (l : List UInt8) : Prop := Cl W b g N l.length (pad N l)

section
variable {W : World} {b g N u : Nat} {C : List UInt8}
theorem Cl.c0 (h : Cl W b g N u C) : W.cell? ⟨b, 0, none⟩ = some (.slice (some ⟨g, 0, none⟩) N N) := by rw [cell_of_row W b 0 _ _ _ h.obj]; rfl
theorem Cl.c1 (h : Cl W b g N u C) : W.cell? ⟨b, 1, none⟩ = some (.int .i64 (u : Int)) := by rw [cell_of_row W b 1 _ _ _ h.obj]; rfl
theorem Cl.f1 (h : Cl W b g N u C) : W.frozen? ⟨b, 1, none⟩ = false := frozen_of_row W b 1 _ _ h.obj
theorem Cl.lt (h : Cl W b g N u C) : b < W.heap.size := (Array.getElem?_eq_some_iff.1 h.obj).1
theorem Cl.other {F F' : List Nat} {W' : World} (h : Cl W b g N u C) (hs : Stp F W F' W') (hb : b ∉ F) (hg : g ∉ F) : Cl W' b g N u C :=
  ⟨(hs.block b h.lt hb).trans h.obj, h.row.other hs hg, h.len, h.pos, h.top, h.use, h.ne⟩
/-- New cells laid. -/
theorem Cl.lay {W' : World} {C' : List UInt8} (h : Cl W b g N u C) (hs : Stp [g] W [g] W') (hB : Blk W' g C') (hl : C'.length = N) : Cl W' b g N u C' :=
  ⟨(hs.block b h.lt (by simpa using h.ne)).trans h.obj, hB, hl, h.pos, h.top, h.use, h.ne⟩
theorem Cl.turn (h : Cl W b g N u C) {u' : Nat} (hu : u' ≤ N) : Cl (W.setCell ⟨b, 1, none⟩ (.int .i64 (u' : Int))) b g N u' C :=
  ⟨heap_setCell_same W b 1 _ _ _ h.obj, (Below.heap_setCell W ⟨b, 1, none⟩ _ g (Ne.symm h.ne)).trans h.row, h.len, h.pos, h.top, hu, h.ne⟩
end
section
variable {W : World} {b g N : Nat} {l : List UInt8}
theorem Ar.other {F F' : List Nat} {W' : World} (h : Ar W b g N l) (hs : Stp F W F' W') (hb : b ∉ F) (hg : g ∉ F) : Ar W' b g N l := Cl.other h hs hb hg
theorem Ar.stays {F' : List Nat} {W' : World} (h : Ar W b g N l) (hs : Stp [] W F' W') : Ar W' b g N l := Cl.other h hs (fun h => by cases h) (fun h => by cases h)
theorem Ar.le (h : Ar W b g N l) : l.length ≤ N := h.use
end

/-! ### The calls -/
/-- What New answers. -/
def Newed (w : World) (n : Nat) (e : Ending) (w' : World) : Prop := ∃ b g, e = .returned (.tuple #[.pointer (some ⟨b, 0, none⟩), .int .i64 0]) ∧ w.heap.size ≤ b ∧ w.heap.size ≤ g ∧ Ar w' b g n [] ∧ Stp [] w [b, g] w'
theorem new_no (n : Int) (w : World) (hn : n < 1 ∨ 4096 < n) : Calls Tryd.prog 18 #[.int .i64 n] w (Gives (.tuple #[.pointer none, .int .i64 3]) w) := by
  by_cases h : n < 1
  · go_enter Tryd.func18, Tryd.ntmps18
    go_wp2
    go_ret2
    exact ⟨rfl, rfl⟩
  · have h2 : 4096 < n := by omega
    go_enter Tryd.func18, Tryd.ntmps18
    go_wp2
    go_ret2
    exact ⟨rfl, rfl⟩
theorem new_run (n : Nat) (w : World) (h1 : 1 ≤ n) (h2 : n ≤ 4096) : Calls Tryd.prog 18 #[.int .i64 (n : Int)] w (Newed w n) := by
  have i1 : ¬ (n : Int) < 1 := by omega
  have i2 : ¬ (4096 : Int) < (n : Int) := by omega
  have hmk := fun w => make_any w .i64 .i64 n (by omega)
  have HO : Aside (∃ o, o = Obj.cells ((List.replicate n (0 : UInt8)).map bval).toArray 5) := ⟨_, rfl⟩
  obtain ⟨o, ho⟩ := HO.out
  rw [← ho] at hmk
  have HB := Lib.hid ho
  clear ho HO
  go_enter Tryd.func18, Tryd.ntmps18
  go_wp2
  go_ret2
  have hp : pad n [] = List.replicate n 0 := by simp [pad]
  refine ⟨w.heap.size + 1, w.heap.size, rfl, by omega, Nat.le_refl _, ⟨?_, ?_, pad_length (Nat.zero_le _), h1, h2, Nat.zero_le _, by omega⟩, ?_⟩
  · have := heap_alloc_new (w.alloc o) (.cells #[.slice (some ⟨w.heap.size, 0, none⟩) n n, .int .i64 0] 58)
    rw [World.size_alloc] at this
    exact this
  · rw [hp]
    refine ((Stp.alloc [] (w.alloc o) _).block w.heap.size (by rw [World.size_alloc]; omega) (fun h => by cases h)).trans ?_
    rw [heap_alloc_new w o, HB.out]
  · refine ⟨rfl, rfl, rfl, by simp only [World.size_alloc]; omega, fun k hk _ => ?_, fun k hk => .inr ?_⟩
    · exact (Below.heap_alloc _ _ _ (by rw [World.size_alloc]; omega)).trans (Below.heap_alloc w o k hk)
    · simp at hk
      omega

section
variable {W : World} {b g N u : Nat} {C : List UInt8}
theorem len_nil (W : World) : Calls Tryd.prog 22 #[.pointer none] W (Gives (.int .i64 0) W) := by
  go_enter Tryd.func22, Tryd.ntmps22
  go_wp2
  go_ret
  exact ⟨rfl, rfl⟩
theorem len_cl (h : Cl W b g N u C) : Calls Tryd.prog 22 #[.pointer (some ⟨b, 0, none⟩)] W (Gives (.int .i64 (u : Int)) W) := by
  have c1 := h.c1
  clear h
  go_enter Tryd.func22, Tryd.ntmps22
  go_wp2
  go_ret
  exact ⟨rfl, rfl⟩

theorem wipe_nil (W : World) : Calls Tryd.prog 24 #[.pointer none] W (Gives (.tuple #[]) W) := by
  go_enter Tryd.func24, Tryd.ntmps24
  go_wp2
  refine bodyPost_ret (results_none rfl _ _ _) rfl ?_
  exact ⟨rfl, rfl⟩
theorem wipe_run (h : Cl W b g N u C) : Calls Tryd.prog 24 #[.pointer (some ⟨b, 0, none⟩)] W fun e w' => e = .returned (.tuple #[]) ∧ Ar w' b g N [] ∧ Stp [b, g] W [b, g] w' := by
  have c0 := h.c0
  obtain ⟨w1, hr, hB, hs⟩ := clear_any (off := 0) (c := N) 0 h.row (n := N) (p := some ⟨g, 0, none⟩) (fun _ => rfl) (by rw [h.len]; omega)
  have h1 : Cl w1 b g N u (lay C 0 (List.replicate N 0)) := h.lay hs hB (by rw [lay_length (by simp [h.len]), h.len])
  have c1 := h1.c1
  have f1 := h1.f1
  have H := Lib.hid (And.intro h (And.intro h1 hs))
  clear h hB hs h1
  go_enter Tryd.func24, Tryd.ntmps24
  go_wp2
  go_end0
  obtain ⟨h, h1, hs⟩ := H.out
  have e : lay C 0 (List.replicate N 0) = pad N [] := by
    have := h.len
    simp [lay, pad, this]
  rw [e] at h1
  refine ⟨rfl, h1.turn (Nat.zero_le _), (hs.more (fun k hk => by simp at hk; simp [hk])).trans (Stp.setCell _ _ (by simp))⟩
end
end Go.Proofs.YtcailmgincafcaaDoor
