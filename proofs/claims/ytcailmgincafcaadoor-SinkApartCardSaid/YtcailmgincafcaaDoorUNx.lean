/-
  utf.Next at lists of bytes.
-/
import Derived.Test.YtcailmgincafcaaDoorUNext
import Derived.Test.YtcailmgincafcaaDoorUMem
namespace Go.Proofs.YtcailmgincafcaaDoor.U
open Go.RowKit Go.Lib
set_option linter.unusedVariables false

theorem Bts.four {w : World} {l : List Nat} {b off : Nat} (hl : ∀ x ∈ l, x < 256) (hc : ∀ i, i < l.length → w.cell? ⟨b, off + i, none⟩ = some (.int .u8 (l.getD i 0 : Nat))) (h0 : 0 < l.length) :
    Four w b off l.length (l.getD 0 0) (l.getD 1 0) (l.getD 2 0) (l.getD 3 0) :=
  ⟨hc 0 h0, hc 1, hc 2, hc 3, getD_lt hl 0, getD_lt hl 1, getD_lt hl 2, getD_lt hl 3⟩

/-- The first character of a list of bytes. -/
def nx (l : List Nat) : Nat × Nat × Nat := nextN l.length (l.getD 0 0) (l.getD 1 0) (l.getD 2 0) (l.getD 3 0)

theorem nx_nil : nx [] = (0, 0, 6) := rfl

theorem next_any (a : Option Addr) (cap : Nat) (l : List Nat) (w : World) (h : Bts w a l) (hcap : l.length ≤ cap) (hm : cap ≤ maxLen) (hT : Tabs w) :
    Calls Tryd.prog 32 #[.slice a l.length cap] w (Nx (nx l) w) := by
  by_cases hl : l = []
  · subst hl
    exact next_empty a cap w
  · obtain ⟨b, off, rfl, hc⟩ := h.2 hl
    have h0 : 0 < l.length := List.length_pos_iff.2 hl
    exact next_four b off l.length cap _ _ _ _ w h0 hcap hm (Bts.four h.1 hc h0) hT

end Go.Proofs.YtcailmgincafcaaDoor.U
