/-
  What a screen tells, from a world on.
-/
import Derived.Test.YtdaenaoagejgeaaDoorLw
namespace Go.Proofs.YtdaenaoagejgeaaDoor
open Go.RowKit Go.Lib
set_option linter.unusedVariables false

/-- What a screen tells, from a world on: its place, how many rows, bells and odd bytes, whether pastes are told, its rows. -/
structure Says (W : World) (s : Nat) (r c b o : Int) (n : Nat) (pa : Bool) (tx : Nat → ByteArray) : Prop where
  place : ∀ W', Stp [] W [] W' → Calls Tryd.prog 15 #[.pointer (some ⟨s, 0, none⟩)] W' (Tells (.tuple #[.int .i64 r, .int .i64 c]) W')
  bells : ∀ W', Stp [] W [] W' → Calls Tryd.prog 17 #[.pointer (some ⟨s, 0, none⟩)] W' (Tells (.int .i64 b) W')
  pastes : ∀ W', Stp [] W [] W' → Calls Tryd.prog 18 #[.pointer (some ⟨s, 0, none⟩)] W' (Tells (.bool pa) W')
  rows : ∀ W', Stp [] W [] W' → Calls Tryd.prog 16 #[.pointer (some ⟨s, 0, none⟩)] W' (Tells (.int .i64 (n : Int)) W')
  odd : ∀ W', Stp [] W [] W' → Calls Tryd.prog 19 #[.pointer (some ⟨s, 0, none⟩)] W' (Tells (.int .i64 o) W')
  row : ∀ W', Stp [] W [] W' → ∀ i : Nat, i < n → Calls Tryd.prog 20 #[.pointer (some ⟨s, 0, none⟩), .int .i64 (i : Int)] W' (Tells (.string (tx i)) W')
theorem Ks.says {w W : World} {s : Nat} {F : List Nat} {l : List UInt8} (h : Ks w W s F l) (hl : l.length ≤ 90000) :
    Says W s ((seen l).up.length : Int) ((seen l).col : Int) ((seen l).bells : Int) ((seen l).odd : Int) (rowsL l).length (seen l).pa (fun i => st (fl ((rowsL l).getD i []))) :=
  ⟨fun W' hs => place_run (h.sc.stays hs) hl, fun W' hs => bells_run (h.sc.stays hs), fun W' hs => pastes_run (h.sc.stays hs), fun W' hs => rows_run (h.sc.stays hs), fun W' hs => odd_run (h.sc.stays hs), fun W' hs i hi => lrow_run (h.sc.stays hs) hl i hi⟩
end Go.Proofs.YtdaenaoagejgeaaDoor
