/-
  Of any key the text is the document's, or why there is none, and of any text the key, or that it is none: the walk.
-/
import Derived.Test.YtngbpkbojjipgaaDoorAlive
import Derived.Test.YtngbpkbojjipgaaDoorRefR
import Derived.Deep.RegionWith
namespace Go.Proofs.YtngbpkbojjipgaaDoor
open Go.RowKit Go.Lib
set_option linter.unusedVariables false

/-- What is read, in parts. -/
theorem rkv_form (l : List UInt8) : ∃ a b q : Int, rkv l = .tuple #[.agg #[.int .i64 a, .int .i64 b], .int .i64 q] := by
  unfold rkv kv
  split
  · exact ⟨_, _, _, rfl⟩
  · exact ⟨_, _, _, rfl⟩
set_option maxHeartbeats 1000000 in
set_option maxRecDepth 100000 in
theorem texts_long (k c : Int) (s : ByteArray) (w : World) (h : 500 < s.size) (hT : Tabs w) : Calls Tryd.prog 4 #[kv k c, .string s] w (Truth w) := by
  have HT : Aside (Tabs w) := hT
  have KA : Hid (∀ W, Stp [] w [] W → Calls Tryd.prog 11 #[] W (Tells (.bool true) W)) := Lib.hid fun W hs => alive_run W (HT.out.stays hs)
  have hz : (500 : Int) < (s.size : Int) := by omega
  unfold kv
  clear hT h
  go_enter Tryd.func4, Tryd.ntmps4
  go_wp2_with (go_at_call 11; refine (KA.out _ (Stp.alloc [] w _)).mono ?_; rintro _ w3 ⟨rfl, h3⟩)
  go_ret
  exact ⟨rfl, ((Stp.alloc [] w _).trans h3).under⟩

set_option maxHeartbeats 4000000 in
set_option maxRecDepth 100000 in
theorem texts_bad (k c : Int) (l : List UInt8) (w : World) (hl : l.length ≤ 500) (h : chk k c ≠ 0) (hT : Tabs w) : Calls Tryd.prog 4 #[kv k c, .string (st l)] w (Truth w) := by
  have HT : Aside (Tabs w) := hT
  have KA : Hid (∀ W, Stp [] w [] W → Calls Tryd.prog 11 #[] W (Tells (.bool true) W)) := Lib.hid fun W hs => alive_run W (HT.out.stays hs)
  obtain ⟨r1, r2, rq, hr⟩ := rkv_form l
  have KT : Hid (∀ W, Stp [] w [] W → Calls Tryd.prog 16 #[.agg #[.int .i64 k, .int .i64 c]] W (Tells (.tuple #[.string (st (ktxt k c)), .int .i64 (chk k c : Int)]) W)) := Lib.hid fun W hs => text_run k c W (HT.out.stays hs)
  have KD : Hid (∀ W, Stp [] w [] W → Calls Tryd.prog 17 #[.string (st l)] W (Tells (.tuple #[.agg #[.int .i64 r1, .int .i64 r2], .int .i64 rq]) W)) := Lib.hid fun W hs => by
    have := read_run l (by omega) W (HT.out.stays hs)
    rw [hr] at this
    exact this
  have KE : Hid (∀ W, Calls Tryd.prog 18 #[.string (st l)] W (Tells (.tuple #[.agg #[.int .i64 r1, .int .i64 r2], .int .i64 rq]) W)) := Lib.hid fun W => by
    have := rread_run l (by omega) W
    rw [hr] at this
    exact this
  have KC : Hid (∀ W, Calls Tryd.prog 14 #[.agg #[.int .i64 k, .int .i64 c]] W (Tells (.int .i64 (chk k c : Int)) W)) := Lib.hid fun W => rcheck_run k c W
  have e0 : ktxt k c = [] := by unfold ktxt; rw [if_neg h]
  have z2 : (((chk k c : Nat) : Int) == 0) = false := beq_eq_false_iff_ne.2 (by omega)
  have z3 : (((chk k c : Nat) : Int) != 0) = true := by simp [bne, z2]
  rw [e0, st_nil] at KT
  clear h e0
  have hsz := st_size l
  have hz : ¬ (500 : Int) < (l.length : Int) := by omega
  unfold kv
  clear hT hr hl
  generalize st l = sl at *
  generalize l.length = L at *
  go_enter Tryd.func4, Tryd.ntmps4
  go_wp2_with fail
  refine (KT.out _ (Stp.alloc [] w _)).mono ?_
  rintro _ w1 ⟨rfl, h1⟩
  have HS1 : Aside (At2 w1 w.heap.size k c ∧ Stp [] w [] w1) := ⟨(At2.new w k c).stays h1, (Stp.alloc [] w _).trans h1⟩
  clear h1 KT
  go_wp2_with fail
  refine (KD.out _ HS1.out.2).mono ?_
  rintro _ w2 ⟨rfl, h2⟩
  have HS2 : Aside (At2 w2 w.heap.size k c ∧ Stp [] w [] w2) := ⟨HS1.out.1.stays h2, HS1.out.2.trans h2⟩
  clear h2 HS1 KD
  go_wp2_with fail
  refine (KE.out _).mono ?_
  rintro _ w3 ⟨rfl, h3⟩
  have HS3 : Aside (At2 w3 w.heap.size k c ∧ At2 w3 w2.heap.size r1 r2 ∧ Stp [] w [] w3) := ⟨(HS2.out.1.stays (Stp.alloc [] _ _)).stays h3, (At2.new w2 r1 r2).stays h3, (HS2.out.2.trans (Stp.alloc [] _ _)).trans h3⟩
  clear h3 HS2 KE
  go_wp2_with fail
  refine (KA.out _ (HS3.out.2.2.trans (Stp.alloc [] _ _))).mono ?_
  rintro _ w4 ⟨rfl, h4⟩
  have HS4 : Aside (At2 w4 w.heap.size k c ∧ At2 w4 w2.heap.size r1 r2 ∧ At2 w4 w3.heap.size r1 r2 ∧ Stp [] w [] w4) := ⟨(HS3.out.1.stays (Stp.alloc [] _ _)).stays h4, (HS3.out.2.1.stays (Stp.alloc [] _ _)).stays h4, (At2.new w3 r1 r2).stays h4, (HS3.out.2.2.trans (Stp.alloc [] _ _)).trans h4⟩
  clear h4 HS3 KA
  obtain ⟨c0, c1, _, _⟩ := HS4.out.1.cells
  obtain ⟨d0, d1, _, _⟩ := HS4.out.2.1.cells
  obtain ⟨e0, e1, _, _⟩ := HS4.out.2.2.1.cells
  have hl1 := HS4.out.1.lt
  have hl2 := HS4.out.2.1.lt
  have hl3 := HS4.out.2.2.1.lt
  generalize w.heap.size = ga at *
  generalize w2.heap.size = gb at *
  generalize w3.heap.size = gc at *
  go_wp2_with fail
  refine (KC.out _).mono ?_
  rintro _ w5 ⟨rfl, h5⟩
  have HS5 : Aside (At2 w5 ga k c ∧ Stp [] w [] w5) := ⟨HS4.out.1.stays h5, HS4.out.2.2.2.trans h5⟩
  clear h5 HS4 c0 c1 d0 d1 e0 e1 hl1 hl2 hl3
  generalize ((chk k c : Nat) : Int) = q at *
  go_wp2
  go_ret
  exact ⟨rfl, HS5.out.2.under⟩

set_option maxHeartbeats 4000000 in
set_option maxRecDepth 100000 in
theorem texts_good (n m : Nat) (l : List UInt8) (w : World) (hl : l.length ≤ 500) (h : chk (n : Int) (m : Int) = 0) (hT : Tabs w) : Calls Tryd.prog 4 #[kv n m, .string (st l)] w (Truth w) := by
  have HT : Aside (Tabs w) := hT
  have KA : Hid (∀ W, Stp [] w [] W → Calls Tryd.prog 11 #[] W (Tells (.bool true) W)) := Lib.hid fun W hs => alive_run W (HT.out.stays hs)
  obtain ⟨r1, r2, rq, hr⟩ := rkv_form l
  have KT : Hid (∀ W, Stp [] w [] W → Calls Tryd.prog 16 #[.agg #[.int .i64 (n : Int), .int .i64 (m : Int)]] W (Tells (.tuple #[.string (st (ktxt n m)), .int .i64 (chk n m : Int)]) W)) := Lib.hid fun W hs => text_run n m W (HT.out.stays hs)
  have KD : Hid (∀ W, Stp [] w [] W → Calls Tryd.prog 17 #[.string (st l)] W (Tells (.tuple #[.agg #[.int .i64 r1, .int .i64 r2], .int .i64 rq]) W)) := Lib.hid fun W hs => by
    have := read_run l (by omega) W (HT.out.stays hs)
    rw [hr] at this
    exact this
  have KE : Hid (∀ W, Calls Tryd.prog 18 #[.string (st l)] W (Tells (.tuple #[.agg #[.int .i64 r1, .int .i64 r2], .int .i64 rq]) W)) := Lib.hid fun W => by
    have := rread_run l (by omega) W
    rw [hr] at this
    exact this
  have KC : Hid (∀ W, Calls Tryd.prog 14 #[.agg #[.int .i64 (n : Int), .int .i64 (m : Int)]] W (Tells (.int .i64 (chk n m : Int)) W)) := Lib.hid fun W => rcheck_run n m W
  have e0 : ktxt n m = ktx n m := by unfold ktxt; rw [if_pos h]; simp
  have KX : Hid (∀ W, Calls Tryd.prog 19 #[.agg #[.int .i64 (n : Int), .int .i64 (m : Int)]] W (Tells (.string (st (ktx n m))) W)) := Lib.hid fun W => rtext_run n m h W
  rw [e0, h] at KT
  rw [h] at KC
  have hqq : ((st (ktx n m)).toList == (st (ktx n m)).toList) = true := st_yes rfl
  clear h e0
  generalize st (ktx n m) = x at *
  have hsz := st_size l
  have hz : ¬ (500 : Int) < (l.length : Int) := by omega
  unfold kv
  clear hT hr hl
  generalize st l = sl at *
  generalize l.length = L at *
  go_enter Tryd.func4, Tryd.ntmps4
  go_wp2_with fail
  refine (KT.out _ (Stp.alloc [] w _)).mono ?_
  rintro _ w1 ⟨rfl, h1⟩
  have HS1 : Aside (At2 w1 w.heap.size n m ∧ Stp [] w [] w1) := ⟨(At2.new w n m).stays h1, (Stp.alloc [] w _).trans h1⟩
  clear h1 KT
  go_wp2_with fail
  refine (KD.out _ HS1.out.2).mono ?_
  rintro _ w2 ⟨rfl, h2⟩
  have HS2 : Aside (At2 w2 w.heap.size n m ∧ Stp [] w [] w2) := ⟨HS1.out.1.stays h2, HS1.out.2.trans h2⟩
  clear h2 HS1 KD
  go_wp2_with fail
  refine (KE.out _).mono ?_
  rintro _ w3 ⟨rfl, h3⟩
  have HS3 : Aside (At2 w3 w.heap.size n m ∧ At2 w3 w2.heap.size r1 r2 ∧ Stp [] w [] w3) := ⟨(HS2.out.1.stays (Stp.alloc [] _ _)).stays h3, (At2.new w2 r1 r2).stays h3, (HS2.out.2.trans (Stp.alloc [] _ _)).trans h3⟩
  clear h3 HS2 KE
  go_wp2_with fail
  refine (KA.out _ (HS3.out.2.2.trans (Stp.alloc [] _ _))).mono ?_
  rintro _ w4 ⟨rfl, h4⟩
  have HS4 : Aside (At2 w4 w.heap.size n m ∧ At2 w4 w2.heap.size r1 r2 ∧ At2 w4 w3.heap.size r1 r2 ∧ Stp [] w [] w4) := ⟨(HS3.out.1.stays (Stp.alloc [] _ _)).stays h4, (HS3.out.2.1.stays (Stp.alloc [] _ _)).stays h4, (At2.new w3 r1 r2).stays h4, (HS3.out.2.2.trans (Stp.alloc [] _ _)).trans h4⟩
  clear h4 HS3 KA
  obtain ⟨c0, c1, _, _⟩ := HS4.out.1.cells
  obtain ⟨d0, d1, _, _⟩ := HS4.out.2.1.cells
  obtain ⟨e0, e1, _, _⟩ := HS4.out.2.2.1.cells
  have hl1 := HS4.out.1.lt
  have hl2 := HS4.out.2.1.lt
  have hl3 := HS4.out.2.2.1.lt
  generalize w.heap.size = ga at *
  generalize w2.heap.size = gb at *
  generalize w3.heap.size = gc at *
  go_wp2_with fail
  refine (KC.out _).mono ?_
  rintro _ w5 ⟨rfl, h5⟩
  have HS5 : Aside (At2 w5 ga n m ∧ Stp [] w [] w5) := ⟨HS4.out.1.stays h5, HS4.out.2.2.2.trans h5⟩
  clear h5 HS4 c0 c1 d0 d1 e0 e1 hl1 hl2 hl3
  obtain ⟨c0, c1, _, _⟩ := HS5.out.1.cells
  have hl1 := HS5.out.1.lt
  go_wp2_with (go_at_call 19; refine (KX.out _).mono ?_; rintro _ w6 ⟨rfl, h6⟩)
  go_ret
  exact ⟨rfl, (HS5.out.2.trans h6).under⟩

theorem texts_walk (k c : Int) (s : ByteArray) (w : World) (hT : Tabs w) : Calls Tryd.prog 4 #[kv k c, .string s] w (Truth w) := by
  by_cases hs : 500 < s.size
  · exact texts_long k c s w hs hT
  · have e : s = st s.data.toList := (st_of s).symm
    have hl : s.data.toList.length ≤ 500 := by
      have := st_size s.data.toList
      rw [← e] at this
      omega
    rw [e]
    by_cases h : chk k c = 0
    · obtain ⟨n, m, rfl, rfl, _⟩ := chk_zero h
      exact texts_good n m _ w hl h hT
    · exact texts_bad k c _ w hl h hT
end Go.Proofs.YtngbpkbojjipgaaDoor
