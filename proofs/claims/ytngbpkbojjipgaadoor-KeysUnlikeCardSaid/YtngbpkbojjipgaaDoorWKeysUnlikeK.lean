/-
  Two keys that may be have the same text just if they are the same; so have what they are told by: the walk.
-/
import Derived.Test.YtngbpkbojjipgaaDoorWKeysUnlikeO
import Derived.Deep.RegionHeld
namespace Go.Proofs.YtngbpkbojjipgaaDoor
open Go.RowKit Go.Lib
set_option linter.unusedVariables false


set_option maxHeartbeats 2000000 in
set_option maxRecDepth 100000 in
theorem unlike_k (k c k' c' : Nat) (w : World) (h : chk (k : Int) (c : Int) = 0) (h' : chk (k' : Int) (c' : Int) = 0) (hk : k ≠ k') (hu : Unl k c k' c' false) (hT : Tabs w) : Calls Tryd.prog 7 #[kv k c, kv k' c'] w (Truth w) := by
  have HT : Aside (Tabs w) := hT
  have KA : Hid (∀ W, Stp [] w [] W → Calls Tryd.prog 11 #[] W (Tells (.bool true) W)) := Lib.hid fun W hs => alive_run W (HT.out.stays hs)
  have KT : Hid (∀ W (k c : Int), Stp [] w [] W → Calls Tryd.prog 16 #[.agg #[.int .i64 k, .int .i64 c]] W (Tells (.tuple #[.string (st (ktxt k c)), .int .i64 (chk k c : Int)]) W)) := Lib.hid fun W k c hs => text_run k c W (HT.out.stays hs)
  have KB : Hid (∀ W (k c : Int), Stp [] w [] W → Calls Tryd.prog 8 #[.agg #[.int .i64 k, .int .i64 c]] W (Told (kbs k c) (chk k c : Int) W)) := Lib.hid fun W k c hs => bytes_run k c W (HT.out.stays hs)
  have ea : ktxt (k : Int) (c : Int) = ktx k c := by unfold ktxt; rw [if_pos h]; simp
  have eb : ktxt (k' : Int) (c' : Int) = ktx k' c' := by unfold ktxt; rw [if_pos h']; simp
  have fa : kbs (k : Int) (c : Int) = kb k c := by unfold kbs; rw [if_pos h]; simp
  have fb : kbs (k' : Int) (c' : Int) = kb k' c' := by unfold kbs; rw [if_pos h']; simp
  have Ka := Lib.hid (fun W => KT.out W k c)
  have Kb := Lib.hid (fun W => KT.out W k' c')
  have Kc := Lib.hid (fun W => KB.out W k c)
  have Kd := Lib.hid (fun W => KB.out W k' c')
  rw [ea, h] at Ka
  rw [eb, h'] at Kb
  rw [fa, h] at Kc
  rw [fb, h'] at Kd
  obtain ⟨ux, uy⟩ := hu
  clear KT KB ea eb fa fb h h' hT
  unfold kv
  have qk : (((k : Nat) : Int) == ((k' : Nat) : Int)) = false := beq_eq_false_iff_ne.2 (by omega)
  clear hk
  generalize ktx k c = s at *
  generalize ktx k' c' = t at *
  generalize kb k c = x at *
  generalize kb k' c' = y at *
  generalize ((k : Nat) : Int) = zk at *
  generalize ((c : Nat) : Int) = zc at *
  generalize ((k' : Nat) : Int) = zk' at *
  generalize ((c' : Nat) : Int) = zc' at *
  go_enter Tryd.func7, Tryd.ntmps7
  go_wp2_with fail
  refine (Ka.out _ ((Stp.alloc [] w _).trans (Stp.alloc [] _ _))).mono ?_
  rintro _ w1 ⟨rfl, h1⟩
  have HS1 : Aside (At2 w1 w.heap.size zk zc ∧ At2 w1 (w.heap.size + 1) zk' zc' ∧ Stp [] w [] w1) := ⟨((At2.new w zk zc).stays (Stp.alloc [] _ _)).stays h1, At2.stays (heap_alloc2_new w _ _) h1, ((Stp.alloc [] w _).trans (Stp.alloc [] _ _)).trans h1⟩
  clear h1
  obtain ⟨c0, c1, _, _⟩ := HS1.out.2.1.cells
  have hlt := HS1.out.2.1.lt
  go_wp2_with fail
  refine (Kb.out _ HS1.out.2.2).mono ?_
  rintro _ w2 ⟨rfl, h2⟩
  have HS2 : Aside (At2 w2 w.heap.size zk zc ∧ At2 w2 (w.heap.size + 1) zk' zc' ∧ Stp [] w [] w2) := ⟨HS1.out.1.stays h2, HS1.out.2.1.stays h2, HS1.out.2.2.trans h2⟩
  clear h2 HS1 c0 c1 hlt
  obtain ⟨c0, c1, _, _⟩ := HS2.out.1.cells
  have hlt := HS2.out.1.lt
  go_wp2_with fail
  refine (Kc.out _ HS2.out.2.2).mono ?_
  rintro _ w3 ⟨a3, p3, rfl, b3, _, _, h3⟩
  have HS3 : Aside (At2 w3 w.heap.size zk zc ∧ At2 w3 (w.heap.size + 1) zk' zc' ∧ Stp [] w [] w3 ∧ Bts w3 a3 x) := ⟨HS2.out.1.stays h3, HS2.out.2.1.stays h3, HS2.out.2.2.trans h3, b3⟩
  clear h3 HS2 c0 c1 hlt b3
  obtain ⟨c0, c1, _, _⟩ := HS3.out.2.1.cells
  have hlt := HS3.out.2.1.lt
  go_wp2_with fail
  refine (Kd.out _ HS3.out.2.2.1).mono ?_
  rintro _ w4 ⟨a4, p4, rfl, b4, _, _, h4⟩
  have HS4 : Aside (At2 w4 w.heap.size zk zc ∧ At2 w4 (w.heap.size + 1) zk' zc' ∧ Stp [] w [] w4 ∧ Bts w4 a3 x ∧ Bts w4 a4 y) := ⟨HS3.out.1.stays h4, HS3.out.2.1.stays h4, HS3.out.2.2.1.trans h4, HS3.out.2.2.2.stays h4, b4⟩
  clear h4 HS3 c0 c1 hlt b4
  have hKeep : Aside (∀ W, Stp [] w4 [] W → W.cell? ⟨w.heap.size, 0, none⟩ = some (.int .i64 zk) ∧ W.cell? ⟨w.heap.size, 1, none⟩ = some (.int .i64 zc) ∧ W.cell? ⟨w.heap.size + 1, 0, none⟩ = some (.int .i64 zk') ∧ W.cell? ⟨w.heap.size + 1, 1, none⟩ = some (.int .i64 zc') ∧
      (convert 24 9 (.slice a3 x.length p3)).run Tryd.prog W = .ok (.string (st x)) W ∧ (convert 24 9 (.slice a4 y.length p4)).run Tryd.prog W = .ok (.string (st y)) W) :=
    fun W hs => ⟨(HS4.out.1.stays hs).cells.1, (HS4.out.1.stays hs).cells.2.1, (HS4.out.2.1.stays hs).cells.1, (HS4.out.2.1.stays hs).cells.2.1, conv_bts p3 _ (HS4.out.2.2.2.1.stays hs) rfl, conv_bts p4 _ (HS4.out.2.2.2.2.stays hs) rfl⟩
  have hcur : Stp [] w4 [] w4.drew := Stp.drew _ _
  have HL : Aside (Stp [] w [] w4) := HS4.out.2.2.1
  clear HS4
  generalize w.heap.size = ga at *
  go_wp2_with fail
  go_region_held (fun W => Stp [] w4 [] W ∧ W.cell? ⟨ga, 0, none⟩ = some (.int .i64 zk) ∧ W.cell? ⟨ga, 1, none⟩ = some (.int .i64 zc) ∧ W.cell? ⟨ga + 1, 0, none⟩ = some (.int .i64 zk') ∧ W.cell? ⟨ga + 1, 1, none⟩ = some (.int .i64 zc') ∧
      (convert 24 9 (.slice a3 x.length p3)).run Tryd.prog W = .ok (.string (st x)) W ∧ (convert 24 9 (.slice a4 y.length p4)).run Tryd.prog W = .ok (.string (st y)) W)
    (first | exact ⟨hcur, hKeep.out _ hcur⟩ | assumption)
    (first
      | (go_at_call 11; refine (KA.out _ (HL.out.trans hcur)).mono ?_; rintro _ w5 ⟨rfl, s5⟩; replace hcur := hcur.trans s5; clear s5))
  all_goals
    go_wp2
    go_ret
    exact ⟨rfl, (HL.out.trans hcur).under⟩
end Go.Proofs.YtngbpkbojjipgaaDoor
