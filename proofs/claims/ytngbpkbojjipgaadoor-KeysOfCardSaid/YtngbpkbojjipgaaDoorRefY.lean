/-
  The document: Bytes.
-/
import Derived.Test.YtngbpkbojjipgaaDoorBytK
namespace Go.Proofs.YtngbpkbojjipgaaDoor
open Go.RowKit Go.Lib
set_option linter.unusedVariables false

/-- Bytes are told. -/
def RTold (l : List UInt8) (w : World) (e : Ending) (w' : World) : Prop := ∃ a cap, e = .returned (.slice a l.length cap) ∧ Bts w' a l ∧ Stp [] w [] w'
/-- A part of a list that is laid. -/
theorem lit_part (w : World) (g : Nat) (cs : Array Value) (C l : List UInt8) (n m : Nat) (hg : w.heap.size = g) (hcs : cs = (C.map bval).toArray) (hl : (C.drop n).take m = l) : Bts (w.alloc (.cells cs 5)) (some ⟨g, n, none⟩) l := fun _ => by
  subst hg hcs hl
  refine ⟨w.heap.size, n, rfl, fun i hi => ?_⟩
  rw [cell_of_row _ w.heap.size (n + i) _ _ _ (heap_alloc_new w _)]
  have h2 : n + i < C.length := by
    simp at hi
    omega
  rw [getElem!_pos _ i hi]
  simp [h2]
def C16 : List UInt8 := [0, 13, 127, 0, 2, 6, 1, 5, 21, 11, 12, 3, 4, 0, 0, 0]
theorem told_of {w W : World} {e : Ending} {a : Option Addr} {n cap : Nat} {l : List UInt8} (he : e = .returned (.slice a n cap)) (hn : n = l.length) (hb : Bts W a l) (hs : Stp [] w [] W) : RTold l w e W := ⟨a, cap, by rw [he, hn], hb, hs⟩
set_option maxHeartbeats 4000000 in
set_option maxRecDepth 100000 in
theorem rbytes_run (n m : Nat) (h : chk (n : Int) (m : Int) = 0) (w : World) : Calls Tryd.prog 15 #[kv n m] w (RTold (kb n m) w) := by
  obtain ⟨n', m', e1, e2, hn, h0, h1⟩ := chk_zero h
  obtain rfl : n = n' := by omega
  obtain rfl : m = m' := by omega
  unfold kv
  by_cases g : n = 0
  · subst g
    have hm := (h0 rfl).2
    have KP : Hid (∀ W, Calls Tryd.prog 26 #[.int .i64 (m : Int)] W (U.RPuts m W)) := Lib.hid fun W => U.rput_any m W hm
    have HV : Aside (kb 0 m = enc8 m) := rfl
    clear h0 h1 hn h e1 e2
    go_enter Tryd.func15, Tryd.ntmps15
    go_wp2_with fail
    refine (KP.out _).mono ?_
    rintro _ w2 ⟨v, rfl, ho, hb⟩
    have HO : Aside (Stp [] w [] w2) := (Stp.alloc [] w _).trans (Stp.of_below hb)
    obtain ⟨a, cap, rfl, hbt, hcap, hmax, _⟩ := ho.bts (U.enc_lt m hm)
    have HB : Aside (Bts w2 a (enc8 m) ∧ (U.enc m).length = (enc8 m).length) := ⟨bts_of_U hbt, by unfold enc8; simp⟩
    clear hbt ho hb
    generalize (U.enc m).length = L at *
    go_wp2
    go_ret
    exact told_of rfl (by rw [HV.out]; exact HB.out.2) (by rw [HV.out]; exact HB.out.1) HO.out
  · obtain rfl := h1 g
    clear h0 h1 h e1 e2
    have hc : n = 1 ∨ n = 2 ∨ n = 3 ∨ n = 4 ∨ n = 5 ∨ n = 6 ∨ n = 7 ∨ n = 8 ∨ n = 9 ∨ n = 10 ∨ n = 11 ∨ n = 12 ∨ n = 13 ∨ n = 14 ∨ n = 15 := by omega
    clear hn g
    rcases hc with rfl | rfl | rfl | rfl | rfl | rfl | rfl | rfl | rfl | rfl | rfl | rfl | rfl | rfl | rfl
    all_goals
      go_enter Tryd.func15, Tryd.ntmps15
      go_wp2
      go_ret
    · exact told_of rfl rfl (lit_part _ _ _ C16 _ 1 1 (World.size_alloc _ _) rfl rfl) ((Stp.alloc [] _ _).trans (Stp.alloc [] _ _))
    · exact told_of rfl rfl (lit_part _ _ _ C16 _ 2 1 (World.size_alloc _ _) rfl rfl) ((Stp.alloc [] _ _).trans (Stp.alloc [] _ _))
    · exact told_of rfl rfl (lit_part _ _ _ (kt 3) _ 0 4 (World.size_alloc _ _) rfl rfl) ((Stp.alloc [] _ _).trans (Stp.alloc [] _ _))
    · exact told_of rfl rfl (lit_part _ _ _ C16 _ 4 1 (World.size_alloc _ _) rfl rfl) ((Stp.alloc [] _ _).trans (Stp.alloc [] _ _))
    · exact told_of rfl rfl (lit_part _ _ _ C16 _ 5 1 (World.size_alloc _ _) rfl rfl) ((Stp.alloc [] _ _).trans (Stp.alloc [] _ _))
    · exact told_of rfl rfl (lit_part _ _ _ C16 _ 6 1 (World.size_alloc _ _) rfl rfl) ((Stp.alloc [] _ _).trans (Stp.alloc [] _ _))
    · exact told_of rfl rfl (lit_part _ _ _ C16 _ 7 1 (World.size_alloc _ _) rfl rfl) ((Stp.alloc [] _ _).trans (Stp.alloc [] _ _))
    · exact told_of rfl rfl (lit_part _ _ _ C16 _ 8 1 (World.size_alloc _ _) rfl rfl) ((Stp.alloc [] _ _).trans (Stp.alloc [] _ _))
    · exact told_of rfl rfl (lit_part _ _ _ C16 _ 9 1 (World.size_alloc _ _) rfl rfl) ((Stp.alloc [] _ _).trans (Stp.alloc [] _ _))
    · exact told_of rfl rfl (lit_part _ _ _ C16 _ 10 1 (World.size_alloc _ _) rfl rfl) ((Stp.alloc [] _ _).trans (Stp.alloc [] _ _))
    · exact told_of rfl rfl (lit_part _ _ _ C16 _ 11 1 (World.size_alloc _ _) rfl rfl) ((Stp.alloc [] _ _).trans (Stp.alloc [] _ _))
    · exact told_of rfl rfl (lit_part _ _ _ C16 _ 12 1 (World.size_alloc _ _) rfl rfl) ((Stp.alloc [] _ _).trans (Stp.alloc [] _ _))
    · exact told_of rfl rfl (lit_part _ _ _ (kt 13) _ 0 6 (World.size_alloc _ _) rfl rfl) ((Stp.alloc [] _ _).trans (Stp.alloc [] _ _))
    · exact told_of rfl rfl (lit_part _ _ _ (kt 14) _ 0 6 (World.size_alloc _ _) rfl rfl) ((Stp.alloc [] _ _).trans (Stp.alloc [] _ _))
    · exact told_of rfl rfl (lit_part _ _ _ C16 _ 15 1 (World.size_alloc _ _) rfl rfl) ((Stp.alloc [] _ _).trans (Stp.alloc [] _ _))
end Go.Proofs.YtngbpkbojjipgaaDoor
