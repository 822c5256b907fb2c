/-
  Are all of some bytes 0? And Clean, Zero, Copy of an arena.
-/
import Derived.Test.YtcailmgincafcaaDoorDelete
namespace Go.Proofs.YtcailmgincafcaaDoor
open Go.RowKit Go.Lib
set_option linter.unusedVariables false

theorem Bts.head {w : World} {a : Option Addr} {M M' : List UInt8} (h : Bts w a (M ++ M')) : Bts w a M := fun hne => by
  obtain ⟨b, off, rfl, h2⟩ := h (by simp [hne])
  refine ⟨b, off, rfl, fun i hi => ?_⟩
  rw [h2 i (by simp; omega), getElem!_pos _ _ (by simp; omega), getElem!_pos M i hi, List.getElem_append_left hi]
/-- Are all of them 0? -/
def zeros (l : List UInt8) : Bool := l.all (· == 0)
theorem zeros_append (l m : List UInt8) : zeros (l ++ m) = (zeros l && zeros m) := by simp [zeros]
theorem zeros_rep (n : Nat) : zeros (List.replicate n 0) = true := by simp [zeros]
theorem zeros_pad (N : Nat) (l : List UInt8) : zeros (pad N l) = zeros l := by simp [pad, zeros_append, zeros_rep]
theorem byte_ne {x : UInt8} (h : x ≠ 0) : ((x.toNat : Int) != 0) = true := by
  have : x.toNat ≠ 0 := fun e => h (UInt8.toNat_inj.1 (by simpa using e))
  simp only [bne_iff_ne, ne_eq]
  omega
theorem byte_eq {x : UInt8} (h : x = 0) : ((x.toNat : Int) != 0) = false := by subst h; rfl
theorem zeros_no {l : List UInt8} {i : Nat} (hi : i < l.length) (h : l[i]! ≠ 0) : zeros l = false := by
  rw [getElem!_pos l i hi] at h
  simp only [zeros, List.all_eq_false]
  exact ⟨l[i], List.getElem_mem hi, by simpa using h⟩
theorem zeros_yes {l : List UInt8} (h : ∀ i, i < l.length → l[i]! = 0) : zeros l = true := by
  simp only [zeros, List.all_eq_true]
  intro x hx
  obtain ⟨i, hi, rfl⟩ := List.getElem_of_mem hx
  have := h i hi
  rw [getElem!_pos l i hi] at this
  simpa using this

section
variable {W : World} {b g N : Nat} {l : List UInt8}

theorem copy_nil (v : Value) (W : World) : Calls Tryd.prog 23 #[.pointer none, v] W (Gives (.int .i64 0) W) := by
  go_enter Tryd.func23, Tryd.ntmps23
  go_wp2
  go_ret
  exact ⟨rfl, rfl⟩
/-- Bytes laid into a block: as many as there are, or as it is long. -/
theorem copy_run (h : Ar W b g N l) (k n c : Nat) (T : List UInt8) (hB : Blk W k T) (hT : T.length = n) (hk : k ≠ g) : Calls Tryd.prog 23 #[.pointer (some ⟨b, 0, none⟩), .slice (some ⟨k, 0, none⟩) n c] W
    fun e w' => e = .returned (.int .i64 ((min l.length n : Nat) : Int)) ∧ Blk w' k (lay T 0 (l.take n)) ∧ Stp [k] W [k] w' := by
  have c0 := h.c0
  have c1 := h.c1
  have hu := h.le
  have s1 := cut_h (some ⟨g, 0, none⟩) N N l.length hu
  obtain ⟨w1, hr1, hB1, hs1⟩ := copy_any (w := W.drew) (dL := n) (dC := c) (sL := l.length) (sC := N) (off := 0) (dp := some ⟨k, 0, none⟩) (sp := some ⟨g, 0, none⟩) (l := l.take n) 3 (hB.other (Stp.drew [] W) (fun h => by cases h))
    (by
      have := (Ar.stays h (Stp.drew [] W)).row.bts
      unfold pad at this
      exact (show Bts _ _ (l.take n) from Bts.head (M' := l.drop n) (by rw [List.take_append_drop]; exact this.head)))
    (by rw [List.length_take]; omega) (fun _ => rfl) (by rw [List.length_take]; omega)
  rw [List.length_take, Nat.min_comm] at hr1
  have H1 := Lib.hid (And.intro hB1 hs1)
  clear h hB hT hB1 hs1
  go_enter Tryd.func23, Tryd.ntmps23
  go_wp2_with fail
  go_region
  go_wp2
  go_ret
  exact ⟨rfl, H1.out.1, (Stp.drew _ _).trans H1.out.2⟩
end
end Go.Proofs.YtcailmgincafcaaDoor
