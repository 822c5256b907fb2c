/-
  What a key is told by, if that is one character, has that key; a text is read as its key, and what is read has that text: a walk where there is such a key.
-/
import Derived.Test.YtngbpkbojjipgaaDoorWKeysBackO
import Derived.Deep.RegionHeld
namespace Go.Proofs.YtngbpkbojjipgaaDoor
open Go.RowKit Go.Lib
set_option linter.unusedVariables false

set_option maxHeartbeats 4000000 in
set_option maxRecDepth 100000 in
theorem back_e_n (k c : Nat) (l : List UInt8) (w : World) (hl : l.length ≤ 500) (hr : rkv l = .tuple #[kv 0 0, .int .i64 8]) (h : chk (k : Int) (c : Int) = 0) (x n : Nat) (hnx : nx8 (kb k c) = (x, n, 0)) (hx : x ≤ 1114111) (hn : n = (kb k c).length) (hof : ofk (x : Int) = ((k : Int), (c : Int))) (hT : TabsB w) : Calls Tryd.prog 5 #[kv k c, .string (st l)] w (Truth w) := by
  have HT : Aside (TabsB w) := hT
  have KA : Hid (∀ W, Stp [] w [] W → Calls Tryd.prog 11 #[] W (Tells (.bool true) W)) := Lib.hid fun W hs => alive_run W (HT.out.1.stays hs)
  have KD : Hid (∀ W, Stp [] w [] W → Calls Tryd.prog 17 #[.string (st l)] W (Tells (.tuple #[.agg #[.int .i64 0, .int .i64 0], .int .i64 8]) W)) := Lib.hid fun W hs => by
    have := read_run l (by omega) W (HT.out.1.stays hs)
    rw [hr] at this
    exact this
  have KB : Hid (∀ W, Stp [] w [] W → Calls Tryd.prog 8 #[.agg #[.int .i64 (k : Int), .int .i64 (c : Int)]] W (Told (kbs k c) (chk k c : Int) W)) := Lib.hid fun W hs => bytes_run k c W (HT.out.1.stays hs)
  have e0 : kbs (k : Int) (c : Int) = kb k c := by unfold kbs; rw [if_pos h]; simp
  have e1 : ktxt (k : Int) (c : Int) = ktx k c := by unfold ktxt; rw [if_pos h]; simp
  have KY : Hid (∀ W, Stp [] w [] W → Calls Tryd.prog 16 #[.agg #[.int .i64 (k : Int), .int .i64 (c : Int)]] W (Tells (.tuple #[.string (st (ktx k c)), .int .i64 0]) W)) := Lib.hid fun W hs => by
    have := text_run (k : Int) (c : Int) W (HT.out.1.stays hs)
    rw [h, e1] at this
    exact this
  have KZ : Hid (∀ W, Stp [] w [] W → Calls Tryd.prog 17 #[.string (st (ktx k c))] W (Tells (.tuple #[.agg #[.int .i64 (k : Int), .int .i64 (c : Int)], .int .i64 0]) W)) := Lib.hid fun W hs => by
    have := read_run (ktx k c) (by
      obtain ⟨n, m, e2, e3, hn, h0, _⟩ := chk_zero h
      have := ktx_len (k := k) (c := c) (by omega) (fun e => by have := (h0 (by omega)).2; omega)
      omega) W (HT.out.1.stays hs)
    rw [rkv_text h] at this
    exact this
  have KN : Hid (∀ W a cap, Stp [] w [] W → Bts W a (kb k c) → (kb k c).length ≤ cap → cap ≤ maxLen → Calls Tryd.prog 20 #[.slice a (kb k c).length cap] W (Tells (.tuple #[.int .i64 (x : Int), .int .i64 (n : Int), .int .i64 0]) W)) := Lib.hid fun W a cap hs hb hc hm => by
    have := next_run (kb k c) a cap W hb hc hm (HT.out.stays hs).2
    rw [hnx] at this
    exact this
  rw [e0, h] at KB
  clear h e0 e1 hnx
  subst hn
  have KO : Hid (∀ W, Calls Tryd.prog 12 #[.int .i64 (x : Int)] W (Tells (.agg #[.int .i64 (k : Int), .int .i64 (c : Int)]) W)) := Lib.hid fun W => by
    have := of_run (x : Int) (by simp [Lit.wf, IntKind.min, IntKind.max, IntKind.signed, IntKind.bits]; omega) W
    rw [hof] at this
    exact this
  clear hof
  clear hx
  generalize st (ktx k c) = tx at *
  generalize kb k c = bl at *
  generalize (x : Int) = zx at *
  generalize ((k : Nat) : Int) = zk at *
  generalize ((c : Nat) : Int) = zc at *
  have hsz := st_size l
  have hz : ¬ (500 : Int) < (l.length : Int) := by omega
  unfold kv
  clear hT hr hl
  generalize st l = sl at *
  generalize l.length = L at *
  go_enter Tryd.func5, Tryd.ntmps5
  go_wp2_with fail
  refine (KD.out _ (Stp.alloc [] w _)).mono ?_
  rintro _ w1 ⟨rfl, h1⟩
  have HS1 : Aside (At2 w1 w.heap.size zk zc ∧ Stp [] w [] w1) := ⟨(At2.new w zk zc).stays h1, (Stp.alloc [] w _).trans h1⟩
  clear h1 KD
  obtain ⟨c0, c1, _, _⟩ := HS1.out.1.cells
  have hl1 := HS1.out.1.lt
  go_wp2_with fail
  refine (KB.out _ (HS1.out.2.trans (Stp.alloc [] _ _))).mono ?_
  rintro _ w3 ⟨a3, p3, rfl, b3, hc3, hm3, h3⟩
  have HS3 : Aside (At2 w3 w.heap.size zk zc ∧ Bts w3 a3 bl ∧ Stp [] w [] w3) := ⟨(HS1.out.1.stays (Stp.alloc [] _ _)).stays h3, b3, (HS1.out.2.trans (Stp.alloc [] _ _)).trans h3⟩
  clear h3 HS1 b3 c0 c1 hl1 KB
  obtain ⟨c0, c1, _, _⟩ := HS3.out.1.cells
  have hl1 := HS3.out.1.lt
  go_wp2_with fail
  refine (KY.out _ HS3.out.2.2).mono ?_
  rintro _ w4 ⟨rfl, h4⟩
  have HS4 : Aside (At2 w4 w.heap.size zk zc ∧ Bts w4 a3 bl ∧ Stp [] w [] w4) := ⟨HS3.out.1.stays h4, HS3.out.2.1.stays h4, HS3.out.2.2.trans h4⟩
  clear h4 HS3 KY c0 c1 hl1
  go_wp2_with fail
  refine (KZ.out _ HS4.out.2.2).mono ?_
  rintro _ w5 ⟨rfl, h5⟩
  have HS5 : Aside (At2 w5 w.heap.size zk zc ∧ Bts w5 a3 bl ∧ Stp [] w [] w5) := ⟨HS4.out.1.stays h5, HS4.out.2.1.stays h5, HS4.out.2.2.trans h5⟩
  clear h5 HS4 KZ
  go_wp2_with fail
  refine (KN.out _ _ _ (HS5.out.2.2.trans (Stp.alloc [] _ _)) (HS5.out.2.1.stays (Stp.alloc [] _ _)) hc3 hm3).mono ?_
  rintro _ w6 ⟨rfl, h6⟩
  have HS6 : Aside (At2 w6 w.heap.size zk zc ∧ At2 w6 w5.heap.size zk zc ∧ Stp [] w [] w6) := ⟨(HS5.out.1.stays (Stp.alloc [] _ _)).stays h6, (At2.new w5 zk zc).stays h6, (HS5.out.2.2.trans (Stp.alloc [] _ _)).trans h6⟩
  clear h6 HS5 KN hc3 hm3
  go_wp2_with fail
  have hKeep : Aside (∀ W, Stp [] w6 [] W → W.cell? ⟨w.heap.size, 0, none⟩ = some (.int .i64 zk) ∧ W.cell? ⟨w.heap.size, 1, none⟩ = some (.int .i64 zc) ∧ W.cell? ⟨w5.heap.size, 0, none⟩ = some (.int .i64 zk) ∧ W.cell? ⟨w5.heap.size, 1, none⟩ = some (.int .i64 zc)) :=
    fun W hs => ⟨(HS6.out.1.stays hs).cells.1, (HS6.out.1.stays hs).cells.2.1, (HS6.out.2.1.stays hs).cells.1, (HS6.out.2.1.stays hs).cells.2.1⟩
  have hcur : Stp [] w6 [] w6.drew := Stp.drew _ _
  have HL : Aside (Stp [] w [] w6) := HS6.out.2.2
  clear HS6
  generalize w.heap.size = ga at *
  generalize w5.heap.size = gb at *
  go_region_held (fun W => Stp [] w6 [] W ∧ W.cell? ⟨ga, 0, none⟩ = some (.int .i64 zk) ∧ W.cell? ⟨ga, 1, none⟩ = some (.int .i64 zc) ∧ W.cell? ⟨gb, 0, none⟩ = some (.int .i64 zk) ∧ W.cell? ⟨gb, 1, none⟩ = some (.int .i64 zc))
    (first | exact ⟨hcur, hKeep.out _ hcur⟩ | assumption)
    (first
      | (go_at_call 11; refine (KA.out _ (HL.out.trans hcur)).mono ?_; rintro _ w7 ⟨rfl, s7⟩; replace hcur := hcur.trans s7; clear s7)
      | (go_at_call 12; refine (KO.out _).mono ?_; rintro _ w8 ⟨rfl, s8⟩; replace hcur := hcur.trans s8; clear s8))
  all_goals
    go_wp2
    go_ret
    exact ⟨rfl, (HL.out.trans hcur).under⟩
end Go.Proofs.YtngbpkbojjipgaaDoor
