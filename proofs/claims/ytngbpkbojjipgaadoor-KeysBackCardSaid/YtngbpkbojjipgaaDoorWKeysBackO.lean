/-
  What a key is told by, if that is one character, has that key; a text is read as its key, and what is read has that text: the walk of a long text.
-/
import Derived.Test.YtngbpkbojjipgaaDoorAlive
import Derived.Test.YtngbpkbojjipgaaDoorLaidB
import Derived.Test.YtngbpkbojjipgaaDoorNxt
namespace Go.Proofs.YtngbpkbojjipgaaDoor
open Go.RowKit Go.Lib
set_option linter.unusedVariables false

set_option maxHeartbeats 1000000 in
set_option maxRecDepth 100000 in
theorem back_long (k c : Int) (s : ByteArray) (w : World) (h : 500 < s.size) (hT : TabsB w) : Calls Tryd.prog 5 #[kv k c, .string s] w (Truth w) := by
  have HT : Aside (TabsB w) := hT
  have KA : Hid (∀ W, Stp [] w [] W → Calls Tryd.prog 11 #[] W (Tells (.bool true) W)) := Lib.hid fun W hs => alive_run W (HT.out.1.stays hs)
  have hz : (500 : Int) < (s.size : Int) := by omega
  unfold kv
  clear hT h
  go_enter Tryd.func5, Tryd.ntmps5
  go_wp2_with (go_at_call 11; refine (KA.out _ (Stp.alloc [] w _)).mono ?_; rintro _ w3 ⟨rfl, h3⟩)
  go_ret
  exact ⟨rfl, ((Stp.alloc [] w _).trans h3).under⟩
end Go.Proofs.YtngbpkbojjipgaaDoor
