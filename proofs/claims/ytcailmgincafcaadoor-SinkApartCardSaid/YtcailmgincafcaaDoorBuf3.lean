/-
  The buffer's calls: Back, Delete, Left, Right, Home, Last, KillStart, KillEnd; what lies a character or a text.
-/
import Derived.Test.YtcailmgincafcaaDoorBuf2
import Derived.Deep.RegionWith
namespace Go.Proofs.YtcailmgincafcaaDoor
open Go.RowKit Go.Lib
set_option linter.unusedVariables false

theorem Did.from {e b g N : Nat} {r : Rs} {W W1 w' : World} {en : Ending} (h : Did e b g N r W1 en w') (hs : Stp [e, b, g] W [e, b, g] W1) : Did e b g N r W en w' := ⟨h.1, h.2.1, hs.trans h.2.2⟩
section
variable {W : World} {e b g N : Nat} {A B : List Nat}
theorem Bu.drew (h : Bu W e b g N A B) : Bu W.drew e b g N A B := h.stays (Stp.drew [] W)
theorem Bu.drewN (h : Bu W e b g N A B) (q : Nat) : Bu (W.drewN q) e b g N A B := h.stays (Stp.drewN [] W q)
end
end Go.Proofs.YtcailmgincafcaaDoor
