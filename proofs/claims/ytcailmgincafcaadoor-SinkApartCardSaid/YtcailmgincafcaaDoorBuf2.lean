/-
  The buffer's calls: Count, At, Copy; Back, Delete, Left, Right, Home, Last, KillStart, KillEnd; what lies a character or a text.
-/
import Derived.Test.YtcailmgincafcaaDoorBuf
namespace Go.Proofs.YtcailmgincafcaaDoor
open Go.RowKit Go.Lib
set_option linter.unusedVariables false

/-- What a call leaves: its error, and a buffer. -/
def Did (e b g N : Nat) (r : Rs) (W : World) (en : Ending) (w' : World) : Prop := en = .returned (.int .i64 r.e) ∧ Bu w' e b g N r.A r.B ∧ Stp [e, b, g] W [e, b, g] w'
section
variable {W : World} {e b g N : Nat} {A B : List Nat}
theorem bcopy_nil (v : Value) (W : World) : Calls Tryd.prog 17 #[.pointer none, v] W (Gives (.int .i64 0) W) := by
  go_enter Tryd.func17, Tryd.ntmps17
  go_wp2
  go_ret
  exact ⟨rfl, rfl⟩
theorem bcopy_run (h : Bu W e b g N A B) (k n c : Nat) (T : List UInt8) (hB : Blk W k T) (hT : T.length = n) (hk : k ≠ g) : Calls Tryd.prog 17 #[.pointer (some ⟨e, 0, none⟩), .slice (some ⟨k, 0, none⟩) n c] W
    fun en w' => en = .returned (.int .i64 ((min (fl (A ++ B)).length n : Nat) : Int)) ∧ Blk w' k (lay T 0 ((fl (A ++ B)).take n)) ∧ Stp [k] W [k] w' := by
  have K1 := Lib.hid (copy_run h.ar k n c T hB hT hk)
  have c0 := h.c0
  clear h
  generalize min (fl (A ++ B)).length n = m at *
  go_enter Tryd.func17, Tryd.ntmps17
  go_wp2_with fail
  refine K1.out.mono ?_
  rintro _ w1 ⟨rfl, h1, h2⟩
  have H := Lib.hid (And.intro h1 h2)
  clear h1 h2
  go_wp2
  go_ret
  exact ⟨rfl, H.out.1, H.out.2⟩

/-! ### The place goes, or what stands beside it -/
end
end Go.Proofs.YtcailmgincafcaaDoor
