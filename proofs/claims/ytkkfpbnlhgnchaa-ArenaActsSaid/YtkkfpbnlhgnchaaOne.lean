/-
  An arena that is new; and a text's bytes.
-/
import Derived.Test.YtkkfpbnlhgnchaaGreat
import Derived.Lib.ConvBytes
namespace Go.Proofs.Ytkkfpbnlhgnchaa
open Go.RowKit Go.Lib
set_option linter.unusedVariables false

/-- An arena that is new since w. -/
structure One (w W : World) (b g N : Nat) (l : List UInt8) : Prop where
  ar : Ar W b g N l
  stp : Stp [] w [] W
  new : w.heap.size ≤ b ∧ w.heap.size ≤ g
section
variable {w W W' : World} {b g N : Nat} {l k : List UInt8}
theorem One.act (h : One w W b g N l) (ha : Ar W' b g N k) (hs : Stp [b, g] W [b, g] W') : One w W' b g N k :=
  ⟨ha, (h.stp.fresh hs (fun i hi => by have := h.new; simp at hi; omega)).none, h.new⟩
theorem One.stays {F : List Nat} (h : One w W b g N l) (hs : Stp [] W F W') : One w W' b g N l := ⟨h.ar.stays hs, h.stp.trans hs.none, h.new⟩
end
theorem As.stays {w wr : World} {a : Option Addr} {l : List Ac} (h : As w a l) {F : List Nat} (hs : Stp [] w F wr) : As wr a l := fun hl => by
  obtain ⟨b, off, h1, hb, h2⟩ := h hl
  refine ⟨b, off, h1, Nat.lt_of_lt_of_le hb hs.size, fun i hi => ?_⟩
  obtain ⟨c0, c1, c2, c3, c4, c5, c6⟩ := h2 i hi
  have hn : b ∉ ([] : List Nat) := fun h => by cases h
  exact ⟨(hs.cell (a := ⟨b, _, none⟩) hb hn).trans c0, (hs.cell (a := ⟨b, _, none⟩) hb hn).trans c1, (hs.cell (a := ⟨b, _, none⟩) hb hn).trans c2, (hs.cell (a := ⟨b, _, none⟩) hb hn).trans c3, (hs.cell (a := ⟨b, _, none⟩) hb hn).trans c4, c5.stays hs, c6⟩
theorem great_at (a : Option Addr) (cap n : Nat) (l : List Ac) (w : World) (hU : As w a l) (hn : n = l.length) (hl : n ≤ 9223372036854775807) (g : Bool) (hg : Great l = g) :
    ∀ W, Stp [] w [] W → Calls Try.prog 12 #[.slice a n cap] W (Tells (.bool g) W) := fun W hs => by
  subst hg
  exact great_run a cap n l W (hU.stays hs) hn hl
/-- A text's bytes in memory of their own. -/
theorem conv_str (W : World) (l : List UInt8) : ∃ a c w', (convert 9 31 (.string (str l))).run Try.prog W = .ok (.slice a l.length c) w' ∧ Bts w' a l ∧ Stp [] W [] w' := by
  have h := Go.Lib.run_convert_string_bytes (P := Try.prog) W 9 31 5 (str l) Try.underlying9 Try.underlying31 Try.underlying5
  rw [str_size] at h
  refine ⟨_, _, _, h, ?_, ?_⟩
  · intro _
    refine ⟨W.heap.size, 0, rfl, fun i hi => ?_⟩
    rw [Nat.zero_add, bytesWorld_cell W _ _ i (by rw [str_size]; exact hi), str_data, getElem!_pos l i hi]
    simp [bval, List.getD, hi]
  · exact ⟨rfl, rfl, rfl, by rw [bytesWorld_size]; omega, fun k hk _ => bytesWorld_at_old W _ _ k hk, fun _ h => .inl h⟩
theorem pad_zero {N : Nat} {l : List UInt8} {i : Nat} (h : l.length ≤ i) (hi : i < N) : (pad N l)[i]! = 0 := by
  rw [getElem!_pos _ i (by simp [pad]; omega)]
  simp [pad, List.getElem_append_right h]
theorem index_str (l : List UInt8) (i : Nat) (hi : i < l.length) (w : World) : (Instr.index 9 (.string (str l)) (.int .i64 (i : Int))).run Try.prog w = .ok (bval (l[i]!)) w := by
  rw [run_index_string w 9 (str l) .i64 i Try.underlying9, dif_pos ⟨by omega, by rw [str_size]; omega⟩]
  have h : (str l).data.toList[i]? = l[i]? := by rw [str_data]
  have h2 : (str l)[((i : Nat) : Int).toNat]'(by rw [str_size]; omega) = l[i]! := by
    rw [getElem!_pos l i hi]
    simp only [Int.toNat_natCast]
    have h3 : (str l).data.toList[i]'(by rw [str_data]; exact hi) = l[i] := by
      have : ∀ (m : List UInt8) (e : m = l) (q : i < m.length), m[i] = l[i] := fun m e q => by subst e; rfl
      exact this _ (str_data l) _
    rw [← h3]
    rfl
  rw [h2]
  rfl
end Go.Proofs.Ytkkfpbnlhgnchaa
