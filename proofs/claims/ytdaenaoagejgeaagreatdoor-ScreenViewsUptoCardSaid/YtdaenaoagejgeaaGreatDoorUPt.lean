/-
  utf.Put and utf.Printable, and the document's own ones, at every number.
-/
import Derived.Test.YtdaenaoagejgeaaGreatDoorUPut2
namespace Go.Proofs.YtdaenaoagejgeaaGreatDoor.U
open Go.RowKit Go.Lib
set_option linter.unusedVariables false

/-- What Put comes to: a character's bytes in new memory. -/
def Puts (c : Nat) (w : World) (e : Ending) (w' : World) : Prop := ∃ v, e = .returned (.tuple #[v, .int .i64 0]) ∧ Own w' w.heap.size v (enc c) ∧ Below w.heap.size w w'

set_option maxHeartbeats 1000000 in
set_option maxRecDepth 100000 in
theorem put_yes (c : Nat) (w : World) (hc : isCh c = true) : Calls Tryz.prog 7 #[.int .i64 c] w (Puts c w) := by
  have h := of_decide_eq_true hc
  have k1 := isc_any c w
  rw [hc] at k1
  have q0 : Own w w.heap.size (.slice none 0 0) [] := ⟨by simp, .inl ⟨rfl, rfl⟩⟩
  have K1 := Lib.hid k1
  have K2 := Lib.hid (rune_app w w.heap.size (.slice none 0 0) [] c hc q0 (by simp) (Nat.le_refl _))
  have i1 : (c : Int) ≤ 1114111 := by omega
  clear h k1 hc q0
  go_enter Tryz.func7, Tryz.ntmps7
  go_wp2_with fail
  refine K1.out.mono ?_
  rintro e w' ⟨rfl, hw⟩
  obtain rfl : w = w' := hw.symm
  go_wp2_with fail
  refine K2.out.mono ?_
  rintro e w1 ⟨v', rfl, ho, hg, hat⟩
  go_wp2
  go_ret2
  exact ⟨v', rfl, by simpa using ho, (Below.refl _ _).grown hg (Nat.le_refl _) (by simp [Value.ownBlock])⟩

set_option maxHeartbeats 1000000 in
set_option maxRecDepth 100000 in
theorem put_no (c : Int) (w : World) (hc : isCh c = false) : Calls Tryz.prog 7 #[.int .i64 c] w fun e w' => e = .returned (.tuple #[.slice none 0 0, .int .i64 3]) ∧ w = w' := by
  have k1 := isc_any c w
  rw [hc] at k1
  have K1 := Lib.hid k1
  clear k1 hc
  go_enter Tryz.func7, Tryz.ntmps7
  go_wp2_with fail
  refine K1.out.mono ?_
  rintro e w' ⟨rfl, hw⟩
  obtain rfl : w = w' := hw.symm
  go_wp2
  go_ret2
  exact ⟨rfl, rfl⟩
end Go.Proofs.YtdaenaoagejgeaaGreatDoor.U
