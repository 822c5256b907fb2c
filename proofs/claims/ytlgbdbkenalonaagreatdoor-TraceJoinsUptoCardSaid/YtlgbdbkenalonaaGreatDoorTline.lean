/-
  trace.Line.
-/
import Derived.Test.YtlgbdbkenalonaaGreatDoorLine
namespace Go.Proofs.YtlgbdbkenalonaaGreatDoor
open Go.RowKit Go.Lib
set_option linter.unusedVariables false

set_option maxHeartbeats 1000000 in
set_option maxRecDepth 100000 in
theorem tline_run (x : Ev) (h1 : Ok x.f x.m x.t) (h2 : x.n ≤ 9223372036854775807) (h3 : x.l.length ≤ 100000) (w : World) (hT : Tabs w) (hd : Ed w x) :
    Calls Tryz.prog 8 #[.agg #[.int .i64 x.k, .int .u32 (x.f : Int), .int .u8 (x.m : Int), .int .u8 (x.t : Int), .slice x.a x.l.length x.c, .int .i64 x.n, .bool x.ok]] w (Tells (.tuple #[.string (st (lnE x).1), .int .i64 (lnE x).2]) w) := by
  have KA := Lib.hid all_run
  have HT : Aside (Tabs w ∧ Ed w x) := ⟨hT, hd⟩
  have KE : Hid (∀ X ga W, Stp [] w [] W → AllAt W X → W.heap[ga]? = some (.cells (closures X).toArray 57 (0, 0)) → Calls Tryz.prog 22 #[.pointer (some ⟨ga, 0, none⟩), .agg #[.int .i64 x.k, .int .u32 (x.f : Int), .int .u8 (x.m : Int), .int .u8 (x.t : Int), .slice x.a x.l.length x.c, .int .i64 x.n, .bool x.ok]] W (Tells (.tuple #[.string (st (lnE x).1), .int .i64 (lnE x).2]) W)) := Lib.hid fun X ga W hs2 hx hg => line_run X ga x h1 h2 h3 W (HT.out.1.stays hs2) hx hg (HT.out.2.stays hs2)
  clear hT hd h1 h2 h3
  generalize (lnE x).1 = s1 at *
  generalize (lnE x).2 = s2 at *
  go_enter Tryz.func8, Tryz.ntmps8
  go_wp2_with fail
  refine (KA.out _).mono ?_
  rintro _ w1 ⟨X, rfl, h1, h2⟩
  have hsc := store_all w1 X h1.1
  have hcl : (closures X).length = 14 := by rw [closures_len, h1.1]
  have H1 : Aside (AllAt (w1.alloc (.cells (closures X).toArray 57)) X ∧ (w1.alloc (.cells (closures X).toArray 57)).heap[w1.heap.size]? = some (.cells (closures X).toArray 57 (0, 0)) ∧ Stp [] w [] (w1.alloc (.cells (closures X).toArray 57))) :=
    ⟨h1.stays (Stp.alloc [] _ _), heap_alloc_new _ _, ((Stp.alloc [] w _).trans h2).trans (Stp.alloc [] _ _)⟩
  have R0 : EAt (w.alloc (.cells #[.int .i64 x.k, .int .u32 (x.f : Int), .int .u8 (x.m : Int), .int .u8 (x.t : Int), .slice x.a x.l.length x.c, .int .i64 x.n, .bool x.ok] 27)) w.heap.size x.k x.f x.m x.t (.slice x.a x.l.length x.c) x.n x.ok := heap_alloc_new _ _
  have R1 := (R0.other h2 (by simp)).other (Stp.alloc [] w1 (.cells (closures X).toArray 57)) (by simp)
  have c0 := R1.c0
  have c1 := R1.c1
  have c2 := R1.c2
  have c3 := R1.c3
  have c4 := R1.c4
  have c5 := R1.c5
  have c6 := R1.c6
  clear h1 h2 KA R0 R1
  generalize w1.alloc (.cells (closures X).toArray 57) = w2 at *
  go_wp2_with fail
  refine (KE.out X _ _ H1.out.2.2 H1.out.1 H1.out.2.1).mono ?_
  rintro _ w3 ⟨rfl, h3⟩
  go_wp2
  go_ret2
  exact ⟨rfl, H1.out.2.2.trans h3⟩
end Go.Proofs.YtlgbdbkenalonaaGreatDoor
