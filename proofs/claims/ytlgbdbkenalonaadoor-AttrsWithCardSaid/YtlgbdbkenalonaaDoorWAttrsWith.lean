/-
  AttrsWith's walk.
-/
import Derived.Test.YtlgbdbkenalonaaDoorWAttrsWithZ
import Derived.Test.YtlgbdbkenalonaaDoorWAttrsWithP
namespace Go.Proofs.YtlgbdbkenalonaaDoor
open Go.RowKit Go.Lib

theorem with_walk (f m t k n : Nat) (w : World) (ho : Ok f m t) (hk : k < 4294967296) (hn : n < 4294967296) (hT : Tabs w) : Calls Tryd.prog 3 #[av f m t, .int .u32 (k : Int), .int .u32 (n : Int)] w (Truth w) := by
  by_cases h : k = 0
  · exact with_zero f m t k n w ho hk hn h hT
  · exact with_pos f m t k n w ho hk hn h hT
end Go.Proofs.YtlgbdbkenalonaaDoor
