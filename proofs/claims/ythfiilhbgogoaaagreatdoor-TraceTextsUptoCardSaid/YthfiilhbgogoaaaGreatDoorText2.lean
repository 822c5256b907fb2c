/-
  attrs.Text: the text of attributes.
-/
import Derived.Test.YthfiilhbgogoaaaGreatDoorText
import Derived.Deep.RegionHeld
namespace Go.Proofs.YthfiilhbgogoaaaGreatDoor
open Go.RowKit Go.Lib
set_option linter.unusedVariables false

/-- Attributes, as a value. -/
def av (f m t : Nat) : Value := .agg #[.int .u32 (f : Int), .int .u8 (m : Int), .int .u8 (t : Int)]
theorem text_join (f m t : Nat) : Lib.join [ftext f, dig 10 m, dig 10 t] [32] = text f m t := by
  rw [join_cons2, join_cons2, Lib.join_one]
  rfl
theorem three_run {f m t : Nat} (h : Ok f m t) (W : World) :
    Calls Tryz.prog 65 #[.string ⟨#[32]⟩, .slice (some ⟨W.heap.size, 0, none⟩) 3 3] (W.alloc (.cells #[.string (st (ftext f)), .string (st (dig 10 m)), .string (st (dig 10 t))] 9))
      (Tells (.string (st (text f m t))) (W.alloc (.cells #[.string (st (ftext f)), .string (st (dig 10 m)), .string (st (dig 10 t))] 9))) := by
  have hl := text_len h
  have K := joined_run W.heap.size 3 [ftext f, dig 10 m, dig 10 t] [32] (W.alloc (.cells #[.string (st (ftext f)), .string (st (dig 10 m)), .string (st (dig 10 t))] 9)) (fun j x hx => by
    rw [cell_of_row _ W.heap.size _ _ _ _ (heap_alloc_new W _)]
    rcases j with _ | _ | _ | j
    · simp at hx; subst hx; rfl
    · simp at hx; subst hx; rfl
    · simp at hx; subst hx; rfl
    · simp at hx) (by rw [World.size_alloc]; omega) (by simp) (by simp) (by rw [text_join]; omega)
  rw [text_join] at K
  exact K
set_option maxHeartbeats 4000000 in
set_option maxRecDepth 100000 in
theorem text_run {f m t : Nat} (h : Ok f m t) (w : World) (hT : Tabs w) : Calls Tryz.prog 48 #[av f m t] w (Tells (.string (st (text f m t))) w) := by
  have hs0 : Stp [] w [] (w.alloc (.cells #[.int .u32 (f : Int), .int .u8 (m : Int), .int .u8 (t : Int)] 41)) := Stp.alloc _ _ _
  have hc0 : (w.alloc (.cells #[.int .u32 (f : Int), .int .u8 (m : Int), .int .u8 (t : Int)] 41)).cell? ⟨w.heap.size, 0, none⟩ = some (.int .u32 (f : Int)) := by rw [cell_of_row _ w.heap.size _ _ _ _ (heap_alloc_new w _)]; rfl
  have hc1 : (w.alloc (.cells #[.int .u32 (f : Int), .int .u8 (m : Int), .int .u8 (t : Int)] 41)).cell? ⟨w.heap.size, 1, none⟩ = some (.int .u8 (m : Int)) := by rw [cell_of_row _ w.heap.size _ _ _ _ (heap_alloc_new w _)]; rfl
  have hc2 : (w.alloc (.cells #[.int .u32 (f : Int), .int .u8 (m : Int), .int .u8 (t : Int)] 41)).cell? ⟨w.heap.size, 2, none⟩ = some (.int .u8 (t : Int)) := by rw [cell_of_row _ w.heap.size _ _ _ _ (heap_alloc_new w _)]; rfl
  unfold av
  go_enter Tryz.func48, Tryz.ntmps48
  go_wp2_with fail
  generalize w.alloc (.cells #[.int .u32 (f : Int), .int .u8 (m : Int), .int .u8 (t : Int)] 41) = w0 at *
  have HT : Aside (Tabs w0) := hT.stays hs0
  have HS0 : Aside (Stp [] w [] w0) := hs0
  have KF : Hid (∀ W, Stp [] w0 [] W → Calls Tryz.prog 66 #[.int .u32 (f : Int)] W (Tells (.string (st (ftext f))) W)) := Lib.hid fun W hs => flags_run f h.f W (HT.out.stays hs)
  have KM : Hid (∀ W, Stp [] w0 [] W → Calls Tryz.prog 67 #[.int .u8 (m : Int)] W (Tells (.string (st (dig 10 m))) W)) := Lib.hid fun W hs => byte_run m h.m W (HT.out.stays hs)
  have KT : Hid (∀ W, Stp [] w0 [] W → Calls Tryz.prog 67 #[.int .u8 (t : Int)] W (Tells (.string (st (dig 10 t))) W)) := Lib.hid fun W hs => byte_run t h.t W (HT.out.stays hs)
  have KJ : Hid (∀ W : World, Calls Tryz.prog 65 #[.string ⟨#[32]⟩, .slice (some ⟨W.heap.size, 0, none⟩) 3 3] (W.alloc (.cells #[.string (st (ftext f)), .string (st (dig 10 m)), .string (st (dig 10 t))] 9))
      (Tells (.string (st (text f m t))) (W.alloc (.cells #[.string (st (ftext f)), .string (st (dig 10 m)), .string (st (dig 10 t))] 9)))) := Lib.hid fun W => three_run h W
  have hKeep : Aside (∀ W, Stp [] w0 [] W → W.cell? ⟨w.heap.size, 0, none⟩ = some (.int .u32 (f : Int)) ∧ W.cell? ⟨w.heap.size, 1, none⟩ = some (.int .u8 (m : Int)) ∧ W.cell? ⟨w.heap.size, 2, none⟩ = some (.int .u8 (t : Int))) := fun W hs => ⟨hs.keeps rfl hc0, hs.keeps rfl hc1, hs.keeps rfl hc2⟩
  have hcur : Stp [] w0 [] w0.drew := Stp.drew _ _
  clear hc0 hc1 hc2 hs0 hT
  generalize w.heap.size = g at *
  go_region_held (fun W => Stp [] w0 [] W ∧ W.cell? ⟨g, 0, none⟩ = some (.int .u32 (f : Int)) ∧ W.cell? ⟨g, 1, none⟩ = some (.int .u8 (m : Int)) ∧ W.cell? ⟨g, 2, none⟩ = some (.int .u8 (t : Int)))
    (first | exact ⟨hcur, hKeep.out _ hcur⟩ | exact ⟨hcur.trans (Stp.alloc [] _ _), hKeep.out _ (hcur.trans (Stp.alloc [] _ _))⟩ | assumption)
    (first
      | (go_at_call 66; refine (KF.out _ hcur).mono ?_; rintro _ w1 ⟨rfl, s1⟩; replace hcur := hcur.trans s1; clear s1)
      | (go_at_call_of 67 (Value.int .u8 (m : Int)); refine (KM.out _ hcur).mono ?_; rintro _ w2 ⟨rfl, s2⟩; replace hcur := hcur.trans s2; clear s2)
      | (go_at_call_of 67 (Value.int .u8 (t : Int)); refine (KT.out _ hcur).mono ?_; rintro _ w3 ⟨rfl, s3⟩; replace hcur := hcur.trans s3; clear s3)
      | (go_at_call 65; refine (KJ.out _).mono ?_; rintro _ w4 ⟨rfl, s4⟩; replace hcur := (hcur.trans (Stp.alloc [] _ _)).trans s4; clear s4))
  all_goals
    go_wp2
    go_ret
    exact ⟨rfl, HS0.out.trans hcur⟩
end Go.Proofs.YthfiilhbgogoaaaGreatDoor
