/-
  Two keys that may be have the same text just if they are the same; so have what they are told by: the walk.
-/
import Derived.Test.YtngbpkbojjipgaaDoorWKeysUnlikeS
import Derived.Test.YtngbpkbojjipgaaDoorWKeysUnlikeK
import Derived.Test.YtngbpkbojjipgaaDoorWKeysUnlikeC
import Derived.Deep.RegionHeld
namespace Go.Proofs.YtngbpkbojjipgaaDoor
open Go.RowKit Go.Lib
set_option linter.unusedVariables false


theorem unlike_walk (k c k' c' : Int) (w : World) (hT : Tabs w) : Calls Tryd.prog 7 #[kv k c, kv k' c'] w (Truth w) := by
  by_cases h : chk k c = 0
  · by_cases h' : chk k' c' = 0
    · obtain ⟨n, m, rfl, rfl, _⟩ := chk_zero h
      obtain ⟨n', m', rfl, rfl, _⟩ := chk_zero h'
      by_cases hk : n = n'
      · by_cases hc : m = m'
        · exact unlike_same n m n' m' w h h' hk hc (by subst hk hc; exact unl_yes _ _) hT
        · exact unlike_c n m n' m' w h h' hc (unl_no h h' (fun e => hc e.2)) hT
      · exact unlike_k n m n' m' w h h' hk (unl_no h h' (fun e => hk e.1)) hT
    · exact unlike_bad k c k' c' w (.inr h') hT
  · exact unlike_bad k c k' c' w (.inl h) hT
end Go.Proofs.YtngbpkbojjipgaaDoor
