/-
  What a key is told by, if that is one character, has that key; a text is read as its key, and what is read has that text: the walk.
-/
import Derived.Test.YtngbpkbojjipgaaDoorWKeysBackBN
import Derived.Test.YtngbpkbojjipgaaDoorWKeysBackBS
import Derived.Test.YtngbpkbojjipgaaDoorWKeysBackLN
import Derived.Test.YtngbpkbojjipgaaDoorWKeysBackLS
import Derived.Test.YtngbpkbojjipgaaDoorWKeysBackEN
import Derived.Test.YtngbpkbojjipgaaDoorWKeysBackES
namespace Go.Proofs.YtngbpkbojjipgaaDoor
open Go.RowKit Go.Lib
set_option linter.unusedVariables false

theorem back_walk (k c : Int) (s : ByteArray) (w : World) (hT : TabsB w) : Calls Tryd.prog 5 #[kv k c, .string s] w (Truth w) := by
  by_cases hs : 500 < s.size
  · exact back_long k c s w hs hT
  · have e : s = st s.data.toList := (st_of s).symm
    have hl : s.data.toList.length ≤ 500 := by
      have := st_size s.data.toList
      rw [← e] at this
      omega
    rw [e]
    generalize s.data.toList = l at *
    by_cases h : chk k c = 0
    · obtain ⟨n, m, rfl, rfl, _⟩ := chk_zero h
      obtain ⟨x, q, hnx, hx, _, hq⟩ := nx_kb h
      rcases rkv_cases l with ⟨r1, r2, h1, h2, h3⟩ | ⟨_, h3⟩
      · rcases hq with hq | ⟨hq, hof⟩
        · exact back_l_s n m l w hl r1 r2 h1 h2 h3 h x q hnx hx hq hT
        · exact back_e_s n m l w hl r1 r2 h1 h2 h3 h x q hnx hx hq hof hT
      · rcases hq with hq | ⟨hq, hof⟩
        · exact back_l_n n m l w hl h3 h x q hnx hx hq hT
        · exact back_e_n n m l w hl h3 h x q hnx hx hq hof hT
    · rcases rkv_cases l with ⟨r1, r2, h1, h2, h3⟩ | ⟨_, h3⟩
      · exact back_bad_s k c l w hl r1 r2 h1 h2 h3 h hT
      · exact back_bad_n k c l w hl h3 h hT
end Go.Proofs.YtngbpkbojjipgaaDoor
