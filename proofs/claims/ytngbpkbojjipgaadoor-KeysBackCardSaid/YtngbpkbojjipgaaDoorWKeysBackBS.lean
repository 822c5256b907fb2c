/-
  What a key is told by, if that is one character, has that key; a text is read as its key, and what is read has that text: the walk where there is no such key.
-/
import Derived.Test.YtngbpkbojjipgaaDoorWKeysBackO
import Derived.Deep.RegionHeld
namespace Go.Proofs.YtngbpkbojjipgaaDoor
open Go.RowKit Go.Lib
set_option linter.unusedVariables false

set_option maxHeartbeats 4000000 in
set_option maxRecDepth 100000 in
theorem back_bad_s (k c : Int) (l : List UInt8) (w : World) (hl : l.length ≤ 500) (r1 r2 : Nat) (hrc : chk (r1 : Int) (r2 : Int) = 0) (hrt : ktx r1 r2 = l) (hr : rkv l = .tuple #[kv r1 r2, .int .i64 0]) (h : chk k c ≠ 0) (hT : TabsB w) : Calls Tryd.prog 5 #[kv k c, .string (st l)] w (Truth w) := by
  have HT : Aside (TabsB w) := hT
  have KA : Hid (∀ W, Stp [] w [] W → Calls Tryd.prog 11 #[] W (Tells (.bool true) W)) := Lib.hid fun W hs => alive_run W (HT.out.1.stays hs)
  have KD : Hid (∀ W, Stp [] w [] W → Calls Tryd.prog 17 #[.string (st l)] W (Tells (.tuple #[.agg #[.int .i64 (r1 : Int), .int .i64 (r2 : Int)], .int .i64 0]) W)) := Lib.hid fun W hs => by
    have := read_run l (by omega) W (HT.out.1.stays hs)
    rw [hr] at this
    exact this
  have KB : Hid (∀ W, Stp [] w [] W → Calls Tryd.prog 8 #[.agg #[.int .i64 k, .int .i64 c]] W (Told (kbs k c) (chk k c : Int) W)) := Lib.hid fun W hs => bytes_run k c W (HT.out.1.stays hs)
  have KX : Hid (∀ W, Stp [] w [] W → Calls Tryd.prog 16 #[.agg #[.int .i64 (r1 : Int), .int .i64 (r2 : Int)]] W (Tells (.tuple #[.string (st l), .int .i64 0]) W)) := Lib.hid fun W hs => by
    have := text_run (r1 : Int) (r2 : Int) W (HT.out.1.stays hs)
    have e : ktxt (r1 : Int) (r2 : Int) = l := by unfold ktxt; rw [if_pos hrc]; simpa using hrt
    rw [hrc, e] at this
    exact this
  have hq0 : ((st l).toList == (st l).toList) = true := st_yes rfl
  clear hrc hrt
  generalize (r1 : Int) = z1 at *
  generalize (r2 : Int) = z2 at *
  have e0 : kbs k c = [] := by unfold kbs; rw [if_neg h]
  have q2 : (((chk k c : Nat) : Int) == 0) = false := beq_eq_false_iff_ne.2 (by omega)
  have q3 : (((chk k c : Nat) : Int) != 0) = true := by simp [bne, q2]
  rw [e0] at KB
  clear h e0
  have hsz := st_size l
  have hz : ¬ (500 : Int) < (l.length : Int) := by omega
  unfold kv
  clear hT hr hl
  generalize st l = sl at *
  generalize l.length = L at *
  go_enter Tryd.func5, Tryd.ntmps5
  go_wp2_with fail
  refine (KD.out _ (Stp.alloc [] w _)).mono ?_
  rintro _ w1 ⟨rfl, h1⟩
  have HS1 : Aside (At2 w1 w.heap.size k c ∧ Stp [] w [] w1) := ⟨(At2.new w k c).stays h1, (Stp.alloc [] w _).trans h1⟩
  clear h1 KD
  go_wp2_with fail
  refine (KX.out _ (HS1.out.2.trans (Stp.alloc [] _ _))).mono ?_
  rintro _ w2 ⟨rfl, h2⟩
  have HS2 : Aside (At2 w2 w.heap.size k c ∧ Stp [] w [] w2) := ⟨(HS1.out.1.stays (Stp.alloc [] _ _)).stays h2, (HS1.out.2.trans (Stp.alloc [] _ _)).trans h2⟩
  clear h2 HS1 KX
  obtain ⟨c0, c1, _, _⟩ := HS2.out.1.cells
  have hl1 := HS2.out.1.lt
  go_wp2_with fail
  refine (KB.out _ HS2.out.2).mono ?_
  rintro _ w3 ⟨a3, p3, rfl, b3, hc3, hm3, h3⟩
  have HS3 : Aside (At2 w3 w.heap.size k c ∧ Bts w3 a3 [] ∧ Stp [] w [] w3) := ⟨HS2.out.1.stays h3, b3, HS2.out.2.trans h3⟩
  clear h3 HS2 b3 c0 c1 hl1 KB
  generalize ((chk k c : Nat) : Int) = q at *
  go_wp2_with (go_at_call 11; refine (KA.out _ HS3.out.2.2).mono ?_; rintro _ w4 ⟨rfl, h4⟩)
  go_ret
  exact ⟨rfl, (HS3.out.2.2.trans h4).under⟩
end Go.Proofs.YtngbpkbojjipgaaDoor
