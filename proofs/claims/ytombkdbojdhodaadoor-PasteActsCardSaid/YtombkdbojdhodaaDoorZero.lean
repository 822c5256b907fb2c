/-
  Are all of some bytes 0? And Clean, Zero, Copy of an arena.
-/
import Derived.Test.YtombkdbojdhodaaDoorDelete
namespace Go.Proofs.YtombkdbojdhodaaDoor
open Go.RowKit Go.Lib
set_option linter.unusedVariables false

theorem Bts.head {w : World} {a : Option Addr} {M M' : List UInt8} (h : Bts w a (M ++ M')) : Bts w a M := fun hne => by
  obtain ⟨b, off, rfl, h2⟩ := h (by simp [hne])
  refine ⟨b, off, rfl, fun i hi => ?_⟩
  rw [h2 i (by simp; omega), getElem!_pos _ _ (by simp; omega), getElem!_pos M i hi, List.getElem_append_left hi]
/-- Are all of them 0? -/
def zeros (l : List UInt8) : Bool := l.all (· == 0)
theorem zeros_append (l m : List UInt8) : zeros (l ++ m) = (zeros l && zeros m) := by simp [zeros]
theorem zeros_rep (n : Nat) : zeros (List.replicate n 0) = true := by simp [zeros]
theorem zeros_pad (N : Nat) (l : List UInt8) : zeros (pad N l) = zeros l := by simp [pad, zeros_append, zeros_rep]
theorem byte_ne {x : UInt8} (h : x ≠ 0) : ((x.toNat : Int) != 0) = true := by
  have : x.toNat ≠ 0 := fun e => h (UInt8.toNat_inj.1 (by simpa using e))
  simp only [bne_iff_ne, ne_eq]
  omega
theorem byte_eq {x : UInt8} (h : x = 0) : ((x.toNat : Int) != 0) = false := by subst h; rfl
theorem zeros_no {l : List UInt8} {i : Nat} (hi : i < l.length) (h : l[i]! ≠ 0) : zeros l = false := by
  rw [getElem!_pos l i hi] at h
  simp only [zeros, List.all_eq_false]
  exact ⟨l[i], List.getElem_mem hi, by simpa using h⟩
theorem zeros_yes {l : List UInt8} (h : ∀ i, i < l.length → l[i]! = 0) : zeros l = true := by
  simp only [zeros, List.all_eq_true]
  intro x hx
  obtain ⟨i, hi, rfl⟩ := List.getElem_of_mem hx
  have := h i hi
  rw [getElem!_pos l i hi] at this
  simpa using this

theorem allZero_run (a : Option Addr) (n c : Nat) (l : List UInt8) (w : World) (h : Bts w a l) (hn : l.length = n) (hm : n ≤ 1000000) :
    Calls Tryd.prog 52 #[.slice a n c] w (Gives (.bool (zeros l)) w) := by
  have H := Lib.hid (And.intro h hn)
  clear h hn
  go_enter Tryd.func52, Tryd.ntmps52
  go_wp2
  go_loopg [7] n (fun gk vi wr => ∃ k : Nat, vi = .int .i64 (k : Int) ∧ k ≤ n ∧ n - k ≤ gk ∧ Aside (wr = w ∧ ∀ i, i < k → l[i]! = 0))
  case atStart => exact ⟨0, rfl, by omega, by omega, rfl, fun i hi => absurd hi (Nat.not_lt_zero _)⟩
  case round =>
    obtain ⟨k, rfl, hk, hg, HS⟩ := hrel
    obtain rfl : wr = w := HS.out.1
    by_cases hlt : k < n
    · have hltz : (k : Int) < (n : Int) := by omega
      obtain ⟨b, off, rfl, hc⟩ := H.out.1.at (i := k) (by have := H.out.2; omega)
      unfold bval at hc
      by_cases hz : l[k]! = 0
      · have h1 := byte_eq hz
        have HZ : Aside (l[k]! = 0) := hz
        clear hz
        generalize ((l[k]!).toNat : Int) = z at *
        go_wp2
        go_roundg (n - (k + 1))
        case measure => omega
        case rel =>
          refine ⟨k + 1, by go_num, by omega, by omega, rfl, fun i hi => ?_⟩
          by_cases e : i = k
          · subst e; exact HZ.out
          · exact HS.out.2 i (by omega)
      · have h1 := byte_ne hz
        have HZ : Aside (zeros l = false) := zeros_no (by have := H.out.2; omega) hz
        clear hz
        generalize ((l[k]!).toNat : Int) = z at *
        go_wp2
        go_ret
        rw [HZ.out]
        exact ⟨rfl, rfl⟩
    · have hltz : ¬ (k : Int) < (n : Int) := by omega
      go_wp2
      go_ret
      rw [zeros_yes (fun i hi => HS.out.2 i (by have := H.out.2; omega))]
      exact ⟨rfl, rfl⟩
theorem clean_nil (W : World) : Calls Tryd.prog 31 #[.pointer none] W (Says (.bool true) W) := by
  go_enter Tryd.func31, Tryd.ntmps31
  go_wp2_with fail
  go_quiet (fail)
  go_wp2
  go_ret
  exact ⟨rfl, _, rfl⟩
theorem zero_nil (W : World) : Calls Tryd.prog 35 #[.pointer none] W (Says (.bool true) W) := by
  go_enter Tryd.func35, Tryd.ntmps35
  go_wp2
  go_ret
  exact ⟨rfl, 0, rfl⟩
section
variable {W : World} {b g N : Nat} {l : List UInt8}
theorem zero_run (h : Ar W b g N l) : Calls Tryd.prog 35 #[.pointer (some ⟨b, 0, none⟩)] W (Says (.bool (zeros l)) W) := by
  have c0 := h.c0
  have K := Lib.hid (allZero_run (some ⟨g, 0, none⟩) N N (pad N l) W h.row.bts h.len (by have := h.top; omega))
  rw [zeros_pad] at K
  clear h
  go_enter Tryd.func35, Tryd.ntmps35
  go_wp2_with fail
  refine K.out.mono ?_
  rintro _ W ⟨rfl, rfl⟩
  go_wp2
  go_ret
  exact ⟨rfl, 0, rfl⟩
theorem clean_run (h : Ar W b g N l) : Calls Tryd.prog 31 #[.pointer (some ⟨b, 0, none⟩)] W (Says (.bool true) W) := by
  have c0 := h.c0
  have c1 := h.c1
  have hu := h.le
  have K : ∀ q, Calls Tryd.prog 52 #[.slice (cutp (some ⟨g, 0, none⟩) l.length N) (N - l.length) (N - l.length)] (W.drewN q) fun e w' => e = .returned (.bool true) ∧ ∃ m, w' = W.drewN m := fun q => by
    have hb := (Ar.stays h (Stp.drewN [] W q)).row.bts.cut (i := l.length) (j := N) (N := N) hu (by rw [pad_length hu]; exact Nat.le_refl _) (by rw [pad_length hu]; exact Nat.le_refl _)
    have e : ((pad N l).drop l.length).take (N - l.length) = List.replicate (N - l.length) 0 := by simp [pad]
    rw [e] at hb
    refine (allZero_run _ _ _ _ _ hb (by simp) (by have := h.top; omega)).mono ?_
    rintro e w' ⟨rfl, rfl⟩
    exact ⟨by rw [zeros_rep], q, rfl⟩
  have s1 := cut_l (some ⟨g, 0, none⟩) N N l.length hu
  have HK := Lib.hid K
  clear h K
  go_enter Tryd.func31, Tryd.ntmps31
  go_wp2_with fail
  go_quiet ((go_at_call 52; exact HK.out _))
  go_wp2
  go_ret
  exact ⟨rfl, _, rfl⟩

theorem copy_nil (v : Value) (W : World) : Calls Tryd.prog 59 #[.pointer none, v] W (Gives (.int .i64 0) W) := by
  go_enter Tryd.func59, Tryd.ntmps59
  go_wp2
  go_ret
  exact ⟨rfl, rfl⟩
/-- Bytes laid into a block: as many as there are, or as it is long. -/
theorem copy_run (h : Ar W b g N l) (k n c : Nat) (T : List UInt8) (hB : Blk W k T) (hT : T.length = n) (hk : k ≠ g) : Calls Tryd.prog 59 #[.pointer (some ⟨b, 0, none⟩), .slice (some ⟨k, 0, none⟩) n c] W
    fun e w' => e = .returned (.int .i64 ((min l.length n : Nat) : Int)) ∧ Blk w' k (lay T 0 (l.take n)) ∧ Stp [k] W [k] w' := by
  have c0 := h.c0
  have c1 := h.c1
  have hu := h.le
  have s1 := cut_h (some ⟨g, 0, none⟩) N N l.length hu
  obtain ⟨w1, hr1, hB1, hs1⟩ := copy_any (w := W.drew) (dL := n) (dC := c) (sL := l.length) (sC := N) (off := 0) (dp := some ⟨k, 0, none⟩) (sp := some ⟨g, 0, none⟩) (l := l.take n) 3 (hB.other (Stp.drew [] W) (fun h => by cases h))
    (by
      have := (Ar.stays h (Stp.drew [] W)).row.bts
      unfold pad at this
      exact (show Bts _ _ (l.take n) from Bts.head (M' := l.drop n) (by rw [List.take_append_drop]; exact this.head)))
    (by rw [List.length_take]; omega) (fun _ => rfl) (by rw [List.length_take]; omega)
  rw [List.length_take, Nat.min_comm] at hr1
  have H1 := Lib.hid (And.intro hB1 hs1)
  clear h hB hT hB1 hs1
  go_enter Tryd.func59, Tryd.ntmps59
  go_wp2_with fail
  go_region
  go_wp2
  go_ret
  exact ⟨rfl, H1.out.1, (Stp.drew _ _).trans H1.out.2⟩
end
end Go.Proofs.YtombkdbojdhodaaDoor
