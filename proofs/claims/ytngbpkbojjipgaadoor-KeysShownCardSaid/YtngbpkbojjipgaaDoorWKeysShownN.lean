/-
  A number's key is a Rune just if it may be shown, and then it is that one; each key is one that may be: the walk, where it may not be shown.
-/
import Derived.Test.YtngbpkbojjipgaaDoorWKeysShownO
namespace Go.Proofs.YtngbpkbojjipgaaDoor
open Go.RowKit Go.Lib
set_option linter.unusedVariables false

set_option maxHeartbeats 4000000 in
set_option maxRecDepth 100000 in
theorem shown_no (c : Int) (w : World) (hc : (Lit.int .i64 c).wf = true) (hs : shown c = false) (hT : Tabs w) : Calls Tryd.prog 6 #[.int .i64 c] w (Truth w) := by
  have HT : Aside (Tabs w) := hT
  have hk := ofk_ok c
  have K1 : Hid (∀ W, Calls Tryd.prog 12 #[.int .i64 c] W (Tells (.agg #[.int .i64 (ofk c).1, .int .i64 (ofk c).2]) W)) := Lib.hid fun W => of_run c hc W
  have K2 : Hid (∀ W, Stp [] w [] W → Calls Tryd.prog 8 #[.agg #[.int .i64 (ofk c).1, .int .i64 (ofk c).2]] W fun e w' => ∃ v, e = .returned (.tuple #[v, .int .i64 0]) ∧ Stp [] W [] w') := Lib.hid fun W hs => (bytes_run _ _ W (HT.out.stays hs)).mono fun e w' h => by
    rw [hk] at h
    obtain ⟨a, cap, h1, _, _, _, h3⟩ := h
    exact ⟨_, h1, h3⟩
  have K3 : Hid (∀ W, Stp [] w [] W → Calls Tryd.prog 11 #[] W (Tells (.bool true) W)) := Lib.hid fun W hs => alive_run W (HT.out.stays hs)
  have K4 : Hid (∀ W, Calls Tryd.prog 21 #[.int .i64 c] W (Gives (.bool (shown c)) W)) := Lib.hid fun W => pr_run c W
  have e : ofk c = ((kof c : Int), 0) := by unfold ofk; rw [hs]; rfl
  have hp := kof_pos c
  rw [e] at K1 K2
  rw [hs] at K4
  have hz : ((kof c : Int) == 0) = false := beq_eq_false_iff_ne.2 (by omega)
  have hz2 : ((kof c : Int) != 0) = true := by simp [bne, hz]
  clear hk e hs hT hc hp
  generalize (kof c : Int) = z at *
  go_enter Tryd.func6, Tryd.ntmps6
  go_wp2_with fail
  refine (K1.out _).mono ?_
  rintro _ w1 ⟨rfl, h1⟩
  go_wp2_with fail
  refine (K2.out _ (h1.trans (Stp.alloc [] _ _))).mono ?_
  rintro _ w2 ⟨v, rfl, h2⟩
  have HS2 : Aside (At2 w2 w1.heap.size z 0 ∧ Stp [] w [] w2) := ⟨(At2.new w1 z 0).stays h2, (h1.trans (Stp.alloc [] _ _)).trans h2⟩
  clear h1 h2
  go_wp2_with fail
  have hA : At2 w2.drew w1.heap.size z 0 := HS2.out.1.stays (Stp.drew [] _)
  have hcur : Stp [] w [] w2.drew := HS2.out.2.trans (Stp.drew [] _)
  clear HS2
  generalize w1.heap.size = g at *
  first | (go_region_with (first
    | (go_at_call 11; refine (K3.out _ hcur).mono ?_; rintro _ w3 ⟨rfl, h3⟩; replace hcur := hcur.trans h3; replace hA := hA.stays h3; obtain ⟨c0, c1, _, _⟩ := hA.cells; have hlt := hA.lt; clear h3)
    | (go_at_call 21; refine (K4.out _).mono ?_; rintro _ w4 ⟨rfl, rfl⟩))) | fail
  all_goals
    go_wp2
    go_ret
    exact ⟨rfl, hcur.under⟩
end Go.Proofs.YtngbpkbojjipgaaDoor
