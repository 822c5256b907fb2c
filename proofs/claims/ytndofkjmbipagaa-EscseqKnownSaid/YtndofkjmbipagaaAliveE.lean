/-
  Next at bytes that a call lays; alive of whispererlaw09.
-/
import Derived.Test.YtndofkjmbipagaaNx
import Derived.Lib.SmallJoins
namespace Go.Proofs.Ytndofkjmbipagaa
open Go.RowKit Go.Lib
set_option linter.unusedVariables false

/-- Next at bytes that have just been laid. -/
theorem lit_run (l : List UInt8) (W : World) (hl : l.length ≤ 1000000) :
    Calls Try.prog 9 #[.slice (some ⟨W.heap.size, 0, none⟩) l.length l.length] (W.alloc (.cells (l.map bval).toArray 5)) (Tells (nxv (nx l)) (W.alloc (.cells (l.map bval).toArray 5))) :=
  next_run _ _ _ l _ (Blk.bts (C := l) (heap_alloc_new W _)) rfl (Nat.le_refl _) hl
/-- The same behind the mark of a constant text's bytes. -/
theorem lit_run' (l : List UInt8) (f : Nat × Nat) (W : World) (hl : l.length ≤ 1000000) :
    Calls Try.prog 9 #[.slice (some ⟨W.heap.size, 0, none⟩) l.length l.length] (W.alloc (.cells (l.map bval).toArray 5 f)) (Tells (nxv (nx l)) (W.alloc (.cells (l.map bval).toArray 5 f))) :=
  next_run _ _ _ l _ (fun _ => ⟨W.heap.size, 0, rfl, fun i hi => by
    rw [World.cell?_alloc_mark, Nat.zero_add]
    simp [hi]⟩) rfl (Nat.le_refl _) hl
set_option maxHeartbeats 1000000 in
set_option maxRecDepth 100000 in
theorem alive_run (w : World) : Calls Try.prog 8 #[] w (Tells (.bool true) w) := by
  have K1 : Hid (∀ (W : World) (g : Nat), g = W.heap.size → Calls Try.prog 9 #[.slice (some ⟨g, 0, none⟩) 4 4] (W.alloc (.cells #[.int .u8 27, .int .u8 91, .int .u8 51, .int .u8 126] 5 (4, 5))) (Tells (.tuple #[.agg #[.int .i64 3, .int .i64 0], .int .i64 4, .int .i64 0]) (W.alloc (.cells #[.int .u8 27, .int .u8 91, .int .u8 51, .int .u8 126] 5 (4, 5))))) :=
    Lib.hid (fun W g hg => by subst hg; exact lit_run' [27, 91, 51, 126] (4, 5) W (by decide))
  have K2 : Hid (∀ (W : World) (g : Nat), g = W.heap.size → Calls Try.prog 9 #[.slice (some ⟨g, 0, none⟩) 3 3] (W.alloc (.cells #[.int .u8 27, .int .u8 91, .int .u8 51] 5 (3, 4))) (Tells (.tuple #[.agg #[.int .i64 0, .int .i64 0], .int .i64 3, .int .i64 7]) (W.alloc (.cells #[.int .u8 27, .int .u8 91, .int .u8 51] 5 (3, 4))))) :=
    Lib.hid (fun W g hg => by subst hg; exact lit_run' [27, 91, 51] (3, 4) W (by decide))
  have K3 : Hid (∀ (W : World) (g : Nat), g = W.heap.size → Calls Try.prog 9 #[.slice (some ⟨g, 0, none⟩) 4 4] (W.alloc (.cells #[.int .u8 27, .int .u8 91, .int .u8 51, .int .u8 10] 5 (4, 5))) (Tells (.tuple #[.agg #[.int .i64 15, .int .i64 0], .int .i64 3, .int .i64 0]) (W.alloc (.cells #[.int .u8 27, .int .u8 91, .int .u8 51, .int .u8 10] 5 (4, 5))))) :=
    Lib.hid (fun W g hg => by subst hg; exact lit_run' [27, 91, 51, 10] (4, 5) W (by decide))
  have kc := fun (w : World) (C : Array Value) (n c g : Nat) (hg : g = w.heap.size) => Joins.run_convert_bytes_const_at (P := Try.prog) w 22 5 C n c g hg Try.underlying22 Try.underlying5
  have hs0 : Aside (Stp [] w [] w) := Stp.refl [] w
  go_enter Try.func8, Try.ntmps8
  go_wp2_with fail
  refine (K1.out _ _ (by simp)).mono ?_
  rintro _ w1 ⟨rfl, s1⟩
  have HS1 : Aside (Stp [] w [] w1) := (Stp.alloc [] w _).trans s1
  clear s1
  go_wp2_with fail
  refine (K2.out _ _ (by simp)).mono ?_
  rintro _ w2 ⟨rfl, s2⟩
  have HS2 : Aside (Stp [] w [] w2 ∧ At2 w2 w1.heap.size 3 0) := ⟨HS1.out.trans (((Stp.alloc [] w1 _).trans (Stp.alloc [] _ _)).trans s2), ((At2.new w1 3 0).stays (Stp.alloc [] _ _)).stays s2⟩
  clear s2
  generalize w1.heap.size = g1 at *
  go_wp2_with fail
  refine (K3.out _ _ (by simp)).mono ?_
  rintro _ w3 ⟨rfl, s3⟩
  have HS3 : Aside (Stp [] w [] (w3.alloc (.cells #[.int .i64 15, .int .i64 0] 25)) ∧ At2 (w3.alloc (.cells #[.int .i64 15, .int .i64 0] 25)) g1 3 0) :=
    ⟨(HS2.out.1.trans (((Stp.alloc [] w2 _).trans (Stp.alloc [] _ _)).trans s3)).trans (Stp.alloc [] _ _), (((HS2.out.2.stays (Stp.alloc [] _ _)).stays (Stp.alloc [] _ _)).stays s3).stays (Stp.alloc [] _ _)⟩
  clear s3
  obtain ⟨c0, c1, f0, f1⟩ := HS3.out.2.cells
  obtain ⟨d0, d1, h0, h1⟩ := (At2.new w3 15 0).cells
  go_wp2
  go_ret
  exact ⟨rfl, HS3.out.1⟩
end Go.Proofs.Ytndofkjmbipagaa
