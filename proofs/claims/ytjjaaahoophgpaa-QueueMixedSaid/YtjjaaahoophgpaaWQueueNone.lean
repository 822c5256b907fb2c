/-
  QueueNone returns true for every word and number.
-/
import Derived.Test.YtjjaaahoophgpaaAliveQ
namespace Go.Proofs.Ytjjaaahoophgpaa
open Go.RowKit Go.Lib
set_option linter.unusedVariables false

/-- What a statement's call answers. -/
def Truth (w : World) (e : Ending) (w' : World) : Prop := e = .returned (.bool true) ∧ Below w.heap.size w w'
theorem Stp.under {F : List Nat} {w w' : World} (h : Stp [] w F w') : Below w.heap.size w w' := h.below (fun k h => by cases h) (Nat.le_refl _)

theorem none_walk (a : Nat) (n : Int) (w : World) : Calls Try.prog 4 #[.int .u64 (a : Int), .int .i64 n] w (Truth w) := by
  have fa := from_run a
  have ez : (FloatKind.f64.format.order 0 0 == some .eq) = true := by rw [eq_num (by omega) (by omega) (by decide) (by decide)]; decide
  have K1 := Lib.hid (qpop_nil w)
  have K2 := Lib.hid (qpeek_nil w)
  have K3 := Lib.hid (alive_run w)
  go_enter Try.func4, Try.ntmps4
  go_wp2_with fail
  refine K1.out.mono ?_
  rintro _ _ ⟨rfl, rfl⟩
  go_wp2_with fail
  refine K2.out.mono ?_
  rintro _ _ ⟨rfl, rfl⟩
  go_wp2_with fail
  refine K3.out.mono ?_
  rintro _ w1 ⟨rfl, s1⟩
  have K4 := Lib.hid (qpush_nil w1 a n)
  have K5 := Lib.hid (qlen_nil w1)
  have K6 := Lib.hid (before_nil w1 a)
  have H1 := Lib.hid s1
  clear K1 K2 K3 s1
  go_wp2_with fail
  refine K4.out.mono ?_
  rintro _ _ ⟨rfl, rfl⟩
  go_wp2_with fail
  refine K5.out.mono ?_
  rintro _ _ ⟨rfl, rfl⟩
  go_wp2_with fail
  refine K6.out.mono ?_
  rintro _ _ ⟨rfl, rfl⟩
  go_wp2
  go_ret
  exact ⟨rfl, H1.out.under⟩
end Go.Proofs.Ytjjaaahoophgpaa
