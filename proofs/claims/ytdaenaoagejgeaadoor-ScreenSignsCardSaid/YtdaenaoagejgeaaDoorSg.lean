/-
  Bytes that a text has laid; the signs of view.
-/
import Derived.Test.YtdaenaoagejgeaaDoorLw
namespace Go.Proofs.YtdaenaoagejgeaaDoor
open Go.RowKit Go.Lib
set_option linter.unusedVariables false

/-- What a sign's call answers: its bytes in one new block. -/
def Sign (L : List UInt8) (w : World) (e : Ending) (w' : World) : Prop := ∃ a, e = .returned (.slice (some a) L.length L.length) ∧ Bts w' (some a) L ∧ Stp [] w [] w'
set_option maxRecDepth 100000 in
theorem vbell_run (w : World) : Calls Tryd.prog 21 #[] w (Sign [7] w) := by
  have hc := Go.Lib.run_convert_bytes_const (P := Tryd.prog) w 25 5 #[.int .u8 7] 1 1 Tryd.underlying25 Tryd.underlying5
  go_enter Tryd.func21, Tryd.ntmps21
  go_wp2
  go_ret
  exact ⟨_, rfl, lit_bts w [7], Stp.alloc _ _ _⟩
set_option maxRecDepth 100000 in
theorem vstart_run (w : World) : Calls Tryd.prog 22 #[] w (Sign S2 w) := by
  have hc := Go.Lib.run_convert_bytes_const (P := Tryd.prog) w 25 5 #[.int .u8 27, .int .u8 91, .int .u8 63, .int .u8 50, .int .u8 48, .int .u8 48, .int .u8 52, .int .u8 104] 8 8 Tryd.underlying25 Tryd.underlying5
  go_enter Tryd.func22, Tryd.ntmps22
  go_wp2
  go_ret
  exact ⟨_, rfl, lit_bts w S2, Stp.alloc _ _ _⟩
set_option maxRecDepth 100000 in
theorem vstop_run (w : World) : Calls Tryd.prog 23 #[] w (Sign S3 w) := by
  have hc := Go.Lib.run_convert_bytes_const (P := Tryd.prog) w 25 5 #[.int .u8 27, .int .u8 91, .int .u8 63, .int .u8 50, .int .u8 48, .int .u8 48, .int .u8 52, .int .u8 108] 8 8 Tryd.underlying25 Tryd.underlying5
  go_enter Tryd.func23, Tryd.ntmps23
  go_wp2
  go_ret
  exact ⟨_, rfl, lit_bts w S3, Stp.alloc _ _ _⟩
set_option maxRecDepth 100000 in
theorem vclose_run (w : World) : Calls Tryd.prog 24 #[] w (Sign [13, 10] w) := by
  have hc := Go.Lib.run_convert_bytes_const (P := Tryd.prog) w 25 5 #[.int .u8 13, .int .u8 10] 2 2 Tryd.underlying25 Tryd.underlying5
  go_enter Tryd.func24, Tryd.ntmps24
  go_wp2
  go_ret
  exact ⟨_, rfl, lit_bts w [13, 10], Stp.alloc _ _ _⟩
/-- What the four do to what is seen. -/
structure Sgn (l : List UInt8) (bells rows : Nat) (pa : Bool) : Prop where
  sn : ∃ up, seen l = ⟨up, [], 0, bells, pa, 0⟩ ∧ up.length + 1 = rows
  hh : held l = []
theorem Sgn.zero : Sgn [] 0 1 false := ⟨⟨[], rfl, rfl⟩, rfl⟩
section
variable {l : List UInt8} {bells rows : Nat} {pa : Bool}
theorem Sgn.bell (h : Sgn l bells rows pa) : Sgn (l ++ [7]) (bells + 1) rows pa := by
  obtain ⟨⟨up, e, hr⟩, hh⟩ := h
  have h1 := seen_bell hh
  rw [e] at h1
  exact ⟨⟨up, h1.1, hr⟩, h1.2⟩
theorem Sgn.start (h : Sgn l bells rows pa) : Sgn (l ++ S2) bells rows true := by
  obtain ⟨⟨up, e, hr⟩, hh⟩ := h
  have h1 := seen_S2 hh
  rw [e] at h1
  exact ⟨⟨up, h1.1, hr⟩, h1.2⟩
theorem Sgn.stop (h : Sgn l bells rows pa) : Sgn (l ++ S3) bells rows false := by
  obtain ⟨⟨up, e, hr⟩, hh⟩ := h
  have h1 := seen_S3 hh
  rw [e] at h1
  exact ⟨⟨up, h1.1, hr⟩, h1.2⟩
theorem Sgn.close (h : Sgn l bells rows pa) : Sgn (l ++ [13, 10]) bells (rows + 1) pa := by
  obtain ⟨⟨up, e, hr⟩, hh⟩ := h
  have h1 := seen_back0 hh
  rw [e] at h1
  have h2 := seen_row h1.2
  rw [h1.1, List.append_assoc] at h2
  exact ⟨⟨_, h2.1, by simp; omega⟩, h2.2⟩
end
end Go.Proofs.YtdaenaoagejgeaaDoor
