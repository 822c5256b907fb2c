/-
  alive: the document's examples.
-/
import Derived.Test.YtngbpkbojjipgaaDoorReadK
import Derived.Test.YtngbpkbojjipgaaDoorOf
import Derived.Test.YtngbpkbojjipgaaDoorBytK
namespace Go.Proofs.YtngbpkbojjipgaaDoor
open Go.RowKit Go.Lib
set_option linter.unusedVariables false

theorem ktx_a : ktx 0 65 = [114, 117, 110, 101, 32, 54, 53] := by
  unfold ktx
  rw [if_pos rfl, dig_ge (by omega) (by omega), dig_lt (by omega)]
  decide
set_option maxHeartbeats 2000000 in
set_option maxRecDepth 100000 in
theorem alive_run (w : World) (hT : Tabs w) : Calls Tryd.prog 11 #[] w (Tells (.bool true) w) := by
  have HT : Aside (Tabs w) := hT
  have K1 : Hid (∀ W, Stp [] w [] W → Calls Tryd.prog 8 #[.agg #[.int .i64 3, .int .i64 0]] W fun e w' => ∃ a cap, e = .returned (.tuple #[.slice a 4 cap, .int .i64 0]) ∧ Bts w' a [27, 91, 51, 126] ∧ Stp [] W [] w') := Lib.hid fun W hs => (bytes_run 3 0 W (HT.out.stays hs)).mono fun e w' h => by
    have e1 : chk 3 0 = 0 := by decide
    have e2 : kbs 3 0 = [27, 91, 51, 126] := by unfold kbs kb; rw [if_pos e1]; rfl
    rw [e1, e2] at h
    obtain ⟨a, cap, h1, h2, _, _, h3⟩ := h
    exact ⟨a, cap, h1, h2, h3⟩
  have K2 : Hid (∀ W, Stp [] w [] W → Calls Tryd.prog 17 #[.string ⟨#[114, 117, 110, 101, 32, 54, 53]⟩] W (Tells (.tuple #[.agg #[.int .i64 0, .int .i64 65], .int .i64 0]) W)) := Lib.hid fun W hs => by
    have := read_run [114, 117, 110, 101, 32, 54, 53] (by decide) W (HT.out.stays hs)
    rw [← ktx_a, rkv_text (by decide), ktx_a] at this
    exact this
  have K3 : Hid (∀ W, Calls Tryd.prog 12 #[.int .i64 21] W (Tells (.agg #[.int .i64 8, .int .i64 0]) W)) := Lib.hid fun W => by
    have := of_run 21 (by decide) W
    rw [show ofk 21 = (8, 0) from by decide] at this
    exact this
  clear hT
  go_enter Tryd.func11, Tryd.ntmps11
  go_wp2_with fail
  refine (K1.out _ (Stp.refl _ _)).mono ?_
  rintro _ w1 ⟨a, cap, rfl, b1, h1⟩
  go_wp2_with fail
  refine (K2.out _ h1).mono ?_
  rintro _ w2 ⟨rfl, h2⟩
  have HS : Aside (Bts w2 a [27, 91, 51, 126] ∧ Stp [] w [] w2) := ⟨b1.stays h2, h1.trans h2⟩
  clear h1 h2 b1
  go_wp2_with fail
  refine (K3.out _).mono ?_
  rintro _ w3 ⟨rfl, h3⟩
  have hA := (At2.new w2 0 65).stays h3
  have hlt := hA.lt
  obtain ⟨c0, c1, _, _⟩ := hA.cells
  have cv := conv_bts cap 4 ((HS.out.1.stays (Stp.alloc [] w2 (.cells #[.int .i64 0, .int .i64 65] 23))).stays h3) rfl
  have hst : (st [27, 91, 51, 126]).toList = [27, 91, 51, 126] := st_toList _
  have HE : Aside (Stp [] w [] w3) := (HS.out.2.trans (Stp.alloc [] _ _)).trans h3
  clear HS h3 hA
  generalize w2.heap.size = g at *
  go_wp2
  go_ret
  exact ⟨rfl, HE.out⟩
end Go.Proofs.YtngbpkbojjipgaaDoor
