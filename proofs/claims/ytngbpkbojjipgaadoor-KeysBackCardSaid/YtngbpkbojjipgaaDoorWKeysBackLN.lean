/-
  What a key is told by, if that is one character, has that key; a text is read as its key, and what is read has that text: a walk where there is such a key.
-/
import Derived.Test.YtngbpkbojjipgaaDoorWKeysBackO
import Derived.Deep.RegionHeld
namespace Go.Proofs.YtngbpkbojjipgaaDoor
open Go.RowKit Go.Lib
set_option linter.unusedVariables false

set_option maxHeartbeats 2000000 in
set_option maxRecDepth 100000 in
theorem back_l_n (k c : Nat) (l : List UInt8) (w : World) (hl : l.length ≤ 500) (hr : rkv l = .tuple #[kv 0 0, .int .i64 8]) (h : chk (k : Int) (c : Int) = 0) (x n : Nat) (hnx : nx8 (kb k c) = (x, n, 0)) (hx : x ≤ 1114111) (hn : n < (kb k c).length) (hT : TabsB w) : Calls Tryd.prog 5 #[kv k c, .string (st l)] w (Truth w) := by
  have HT : Aside (TabsB w) := hT
  have KA : Hid (∀ W, Stp [] w [] W → Calls Tryd.prog 11 #[] W (Tells (.bool true) W)) := Lib.hid fun W hs => alive_run W (HT.out.1.stays hs)
  have KD : Hid (∀ W, Stp [] w [] W → Calls Tryd.prog 17 #[.string (st l)] W (Tells (.tuple #[.agg #[.int .i64 0, .int .i64 0], .int .i64 8]) W)) := Lib.hid fun W hs => by
    have := read_run l (by omega) W (HT.out.1.stays hs)
    rw [hr] at this
    exact this
  have KB : Hid (∀ W, Stp [] w [] W → Calls Tryd.prog 8 #[.agg #[.int .i64 (k : Int), .int .i64 (c : Int)]] W (Told (kbs k c) (chk k c : Int) W)) := Lib.hid fun W hs => bytes_run k c W (HT.out.1.stays hs)
  have e0 : kbs (k : Int) (c : Int) = kb k c := by unfold kbs; rw [if_pos h]; simp
  have e1 : ktxt (k : Int) (c : Int) = ktx k c := by unfold ktxt; rw [if_pos h]; simp
  have KY : Hid (∀ W, Stp [] w [] W → Calls Tryd.prog 16 #[.agg #[.int .i64 (k : Int), .int .i64 (c : Int)]] W (Tells (.tuple #[.string (st (ktx k c)), .int .i64 0]) W)) := Lib.hid fun W hs => by
    have := text_run (k : Int) (c : Int) W (HT.out.1.stays hs)
    rw [h, e1] at this
    exact this
  have KZ : Hid (∀ W, Stp [] w [] W → Calls Tryd.prog 17 #[.string (st (ktx k c))] W (Tells (.tuple #[.agg #[.int .i64 (k : Int), .int .i64 (c : Int)], .int .i64 0]) W)) := Lib.hid fun W hs => by
    have := read_run (ktx k c) (by
      obtain ⟨n, m, e2, e3, hn, h0, _⟩ := chk_zero h
      have := ktx_len (k := k) (c := c) (by omega) (fun e => by have := (h0 (by omega)).2; omega)
      omega) W (HT.out.1.stays hs)
    rw [rkv_text h] at this
    exact this
  have KN : Hid (∀ W a cap, Stp [] w [] W → Bts W a (kb k c) → (kb k c).length ≤ cap → cap ≤ maxLen → Calls Tryd.prog 20 #[.slice a (kb k c).length cap] W (Tells (.tuple #[.int .i64 (x : Int), .int .i64 (n : Int), .int .i64 0]) W)) := Lib.hid fun W a cap hs hb hc hm => by
    have := next_run (kb k c) a cap W hb hc hm (HT.out.stays hs).2
    rw [hnx] at this
    exact this
  rw [e0, h] at KB
  clear h e0 e1 hnx
  have hnl : (n : Int) < ((kb k c).length : Int) := by omega
  clear hn hx
  generalize st (ktx k c) = tx at *
  generalize kb k c = bl at *
  generalize (x : Int) = zx at *
  generalize (n : Int) = zn at *
  generalize ((k : Nat) : Int) = zk at *
  generalize ((c : Nat) : Int) = zc at *
  have hsz := st_size l
  have hz : ¬ (500 : Int) < (l.length : Int) := by omega
  unfold kv
  clear hT hr hl
  generalize st l = sl at *
  generalize l.length = L at *
  go_enter Tryd.func5, Tryd.ntmps5
  go_wp2_with fail
  refine (KD.out _ (Stp.alloc [] w _)).mono ?_
  rintro _ w1 ⟨rfl, h1⟩
  have HS1 : Aside (At2 w1 w.heap.size zk zc ∧ Stp [] w [] w1) := ⟨(At2.new w zk zc).stays h1, (Stp.alloc [] w _).trans h1⟩
  clear h1 KD
  obtain ⟨c0, c1, _, _⟩ := HS1.out.1.cells
  have hl1 := HS1.out.1.lt
  go_wp2_with fail
  refine (KB.out _ (HS1.out.2.trans (Stp.alloc [] _ _))).mono ?_
  rintro _ w3 ⟨a3, p3, rfl, b3, hc3, hm3, h3⟩
  have HS3 : Aside (At2 w3 w.heap.size zk zc ∧ Bts w3 a3 bl ∧ Stp [] w [] w3) := ⟨(HS1.out.1.stays (Stp.alloc [] _ _)).stays h3, b3, (HS1.out.2.trans (Stp.alloc [] _ _)).trans h3⟩
  clear h3 HS1 b3 c0 c1 hl1 KB
  obtain ⟨c0, c1, _, _⟩ := HS3.out.1.cells
  have hl1 := HS3.out.1.lt
  go_wp2_with fail
  refine (KY.out _ HS3.out.2.2).mono ?_
  rintro _ w4 ⟨rfl, h4⟩
  have HS4 : Aside (At2 w4 w.heap.size zk zc ∧ Bts w4 a3 bl ∧ Stp [] w [] w4) := ⟨HS3.out.1.stays h4, HS3.out.2.1.stays h4, HS3.out.2.2.trans h4⟩
  clear h4 HS3 KY c0 c1 hl1
  go_wp2_with fail
  refine (KZ.out _ HS4.out.2.2).mono ?_
  rintro _ w5 ⟨rfl, h5⟩
  have HS5 : Aside (At2 w5 w.heap.size zk zc ∧ Bts w5 a3 bl ∧ Stp [] w [] w5) := ⟨HS4.out.1.stays h5, HS4.out.2.1.stays h5, HS4.out.2.2.trans h5⟩
  clear h5 HS4 KZ
  go_wp2_with fail
  refine (KN.out _ _ _ (HS5.out.2.2.trans (Stp.alloc [] _ _)) (HS5.out.2.1.stays (Stp.alloc [] _ _)) hc3 hm3).mono ?_
  rintro _ w6 ⟨rfl, h6⟩
  have HS6 : Aside (At2 w6 w.heap.size zk zc ∧ At2 w6 w5.heap.size zk zc ∧ Stp [] w [] w6) := ⟨(HS5.out.1.stays (Stp.alloc [] _ _)).stays h6, (At2.new w5 zk zc).stays h6, (HS5.out.2.2.trans (Stp.alloc [] _ _)).trans h6⟩
  clear h6 HS5 KN hc3 hm3
  go_wp2_with fail
  have hKeep : Aside (∀ W, Stp [] w6 [] W → W.cell? ⟨w.heap.size, 0, none⟩ = some (.int .i64 zk) ∧ W.cell? ⟨w.heap.size, 1, none⟩ = some (.int .i64 zc) ∧ W.cell? ⟨w5.heap.size, 0, none⟩ = some (.int .i64 zk) ∧ W.cell? ⟨w5.heap.size, 1, none⟩ = some (.int .i64 zc)) :=
    fun W hs => ⟨(HS6.out.1.stays hs).cells.1, (HS6.out.1.stays hs).cells.2.1, (HS6.out.2.1.stays hs).cells.1, (HS6.out.2.1.stays hs).cells.2.1⟩
  have hcur : Stp [] w6 [] w6.drew := Stp.drew _ _
  have HL : Aside (Stp [] w [] w6) := HS6.out.2.2
  clear HS6
  generalize w.heap.size = ga at *
  generalize w5.heap.size = gb at *
  refine wp_region_held_drew (S := (fun W => Stp [] w6 [] W ∧ W.cell? ⟨ga, 0, none⟩ = some (.int .i64 zk) ∧ W.cell? ⟨ga, 1, none⟩ = some (.int .i64 zc) ∧ W.cell? ⟨gb, 0, none⟩ = some (.int .i64 zk) ∧ W.cell? ⟨gb, 1, none⟩ = some (.int .i64 zc))) (by kernel_rfl) ⟨hcur, hKeep.out _ hcur⟩ (fun hHeld => ?_)
  refine wpAnyH_ready (rs := [0]) (by kernel_rfl) (by simp) ?_
  refine AllReadyH.cons rfl (fun K hK => ?_) AllReadyH.nil
  go_simp
  go_wp2_with (go_at_call 11; refine (KA.out _ (HL.out.trans hcur)).mono ?_; rintro _ w7 ⟨rfl, s7⟩; replace hcur := hcur.trans s7; clear s7)
  refine hK.out _ _ ⟨hcur, hKeep.out _ hcur⟩ (fun hHeld => ?_)
  clear hK K
  refine wpAnyH_take (i := 1) (oi := { dst := some 71, op := Op.move (Operand.tmp 70), type := 4, pos := "law.go:70", after := #[{ on := 0, ground := Ground.data }, { on := 0, ground := Ground.chain }], guard := none }) (v := .bool true) rfl (by kernel_rfl) (by kernel_rfl) (by kernel_rfl) (fun _ _ _ h => h) (Or.inl ⟨by rfl, fun w' hSw => ?_⟩) hHeld ?_
  · dsimp only at hSw
    go_simp
  simp only [Act.put, List.setIfInBounds_toArray, List.set_cons_zero, List.set_cons_succ]
  refine wpAnyH_take (i := 2) (oi := { dst := some 72, op := Op.move (Operand.tmp 12), type := 25, pos := "law.go:70", after := #[{ on := 1, ground := Ground.guard }], guard := some (1, true) }) (v := .int .i64 0) rfl (by kernel_rfl) (by kernel_rfl) (by kernel_rfl) (fun _ _ _ h => h) (Or.inl ⟨by rfl, fun w' hSw => ?_⟩) hHeld ?_
  · dsimp only at hSw
    go_simp
  simp only [Act.put, List.setIfInBounds_toArray, List.set_cons_zero, List.set_cons_succ]
  refine wpAnyH_take (i := 3) (oi := { dst := some 73, op := Op.binOp BinOp.eql 25 (Operand.tmp 72) (Operand.const (Value.int IntKind.i64 0)) 25, type := 4, pos := "law.go:70", after := #[{ on := 2, ground := Ground.data }, { on := 1, ground := Ground.guard }], guard := some (1, true) }) (v := .bool true) rfl (by kernel_rfl) (by kernel_rfl) (by kernel_rfl) (fun _ _ _ h => h) (Or.inl ⟨by rfl, fun w' hSw => ?_⟩) hHeld ?_
  · dsimp only at hSw
    go_simp
  simp only [Act.put, List.setIfInBounds_toArray, List.set_cons_zero, List.set_cons_succ]
  refine wpAnyH_take (i := 4) (oi := { dst := some 74, op := Op.pick (Operand.tmp 71) (Operand.tmp 73) (Operand.const (Value.bool false)), type := 4, pos := "law.go:70", after := #[{ on := 1, ground := Ground.data }, { on := 3, ground := Ground.data }], guard := none }) (v := .bool true) rfl (by kernel_rfl) (by kernel_rfl) (by kernel_rfl) (fun _ _ _ h => h) (Or.inl ⟨by rfl, fun w' hSw => ?_⟩) hHeld ?_
  · dsimp only at hSw
    go_simp
  simp only [Act.put, List.setIfInBounds_toArray, List.set_cons_zero, List.set_cons_succ]
  refine wpAnyH_take (i := 5) (oi := { dst := some 75, op := Op.move (Operand.tmp 74), type := 4, pos := "law.go:70", after := #[{ on := 4, ground := Ground.data }, { on := 1, ground := Ground.chain }], guard := none }) (v := .bool true) rfl (by kernel_rfl) (by kernel_rfl) (by kernel_rfl) (fun _ _ _ h => h) (Or.inl ⟨by rfl, fun w' hSw => ?_⟩) hHeld ?_
  · dsimp only at hSw
    go_simp
  simp only [Act.put, List.setIfInBounds_toArray, List.set_cons_zero, List.set_cons_succ]
  refine wpAnyH_take (i := 6) (oi := { dst := some 76, op := Op.move (Operand.tmp 14), type := 25, pos := "law.go:70", after := #[{ on := 5, ground := Ground.guard }], guard := some (5, true) }) (v := .int .i64 0) rfl (by kernel_rfl) (by kernel_rfl) (by kernel_rfl) (fun _ _ _ h => h) (Or.inl ⟨by rfl, fun w' hSw => ?_⟩) hHeld ?_
  · dsimp only at hSw
    go_simp
  simp only [Act.put, List.setIfInBounds_toArray, List.set_cons_zero, List.set_cons_succ]
  refine wpAnyH_take (i := 7) (oi := { dst := some 77, op := Op.binOp BinOp.eql 25 (Operand.tmp 76) (Operand.const (Value.int IntKind.i64 0)) 25, type := 4, pos := "law.go:70", after := #[{ on := 6, ground := Ground.data }, { on := 5, ground := Ground.guard }], guard := some (5, true) }) (v := .bool true) rfl (by kernel_rfl) (by kernel_rfl) (by kernel_rfl) (fun _ _ _ h => h) (Or.inl ⟨by rfl, fun w' hSw => ?_⟩) hHeld ?_
  · dsimp only at hSw
    go_simp
  simp only [Act.put, List.setIfInBounds_toArray, List.set_cons_zero, List.set_cons_succ]
  refine wpAnyH_take (i := 8) (oi := { dst := some 78, op := Op.pick (Operand.tmp 75) (Operand.tmp 77) (Operand.const (Value.bool false)), type := 4, pos := "law.go:70", after := #[{ on := 5, ground := Ground.data }, { on := 7, ground := Ground.data }], guard := none }) (v := .bool true) rfl (by kernel_rfl) (by kernel_rfl) (by kernel_rfl) (fun _ _ _ h => h) (Or.inl ⟨by rfl, fun w' hSw => ?_⟩) hHeld ?_
  · dsimp only at hSw
    go_simp
  simp only [Act.put, List.setIfInBounds_toArray, List.set_cons_zero, List.set_cons_succ]
  refine wpAnyH_take (i := 9) (oi := { dst := some 79, op := Op.move (Operand.tmp 78), type := 4, pos := "law.go:70", after := #[{ on := 8, ground := Ground.data }, { on := 5, ground := Ground.chain }], guard := none }) (v := .bool true) rfl (by kernel_rfl) (by kernel_rfl) (by kernel_rfl) (fun _ _ _ h => h) (Or.inl ⟨by rfl, fun w' hSw => ?_⟩) hHeld ?_
  · dsimp only at hSw
    go_simp
  simp only [Act.put, List.setIfInBounds_toArray, List.set_cons_zero, List.set_cons_succ]
  refine wpAnyH_take (i := 10) (oi := { dst := some 80, op := Op.load 23 (Operand.tmp 13), type := 23, pos := "law.go:70", after := #[{ on := 9, ground := Ground.guard }], guard := some (9, true) }) (v := .agg #[.int .i64 zk, .int .i64 zc]) rfl (by kernel_rfl) (by kernel_rfl) (by kernel_rfl) (fun _ _ _ h => h) (Or.inl ⟨by rfl, fun w' hSw => ?_⟩) hHeld ?_
  · dsimp only at hSw
    go_simp
  simp only [Act.put, List.setIfInBounds_toArray, List.set_cons_zero, List.set_cons_succ]
  refine wpAnyH_take (i := 11) (oi := { dst := some 81, op := Op.load 23 (Operand.tmp 2), type := 23, pos := "law.go:70", after := #[{ on := 9, ground := Ground.guard }], guard := some (9, true) }) (v := .agg #[.int .i64 zk, .int .i64 zc]) rfl (by kernel_rfl) (by kernel_rfl) (by kernel_rfl) (fun _ _ _ h => h) (Or.inl ⟨by rfl, fun w' hSw => ?_⟩) hHeld ?_
  · dsimp only at hSw
    go_simp
  simp only [Act.put, List.setIfInBounds_toArray, List.set_cons_zero, List.set_cons_succ]
  refine wpAnyH_take (i := 12) (oi := { dst := some 82, op := Op.binOp BinOp.eql 23 (Operand.tmp 80) (Operand.tmp 81) 23, type := 4, pos := "law.go:70", after := #[{ on := 10, ground := Ground.data }, { on := 11, ground := Ground.data }, { on := 9, ground := Ground.guard }], guard := some (9, true) }) (v := .bool true) rfl (by kernel_rfl) (by kernel_rfl) (by kernel_rfl) (fun _ _ _ h => h) (Or.inl ⟨by rfl, fun w' hSw => ?_⟩) hHeld ?_
  · dsimp only at hSw
    go_simp
  simp only [Act.put, List.setIfInBounds_toArray, List.set_cons_zero, List.set_cons_succ]
  refine wpAnyH_take (i := 13) (oi := { dst := some 83, op := Op.pick (Operand.tmp 79) (Operand.tmp 82) (Operand.const (Value.bool false)), type := 4, pos := "law.go:70", after := #[{ on := 9, ground := Ground.data }, { on := 12, ground := Ground.data }], guard := none }) (v := .bool true) rfl (by kernel_rfl) (by kernel_rfl) (by kernel_rfl) (fun _ _ _ h => h) (Or.inl ⟨by rfl, fun w' hSw => ?_⟩) hHeld ?_
  · dsimp only at hSw
    go_simp
  simp only [Act.put, List.setIfInBounds_toArray, List.set_cons_zero, List.set_cons_succ]
  refine wpAnyH_take (i := 14) (oi := { dst := some 84, op := Op.move (Operand.tmp 83), type := 4, pos := "law.go:70", after := #[{ on := 13, ground := Ground.data }, { on := 9, ground := Ground.chain }], guard := none }) (v := .bool true) rfl (by kernel_rfl) (by kernel_rfl) (by kernel_rfl) (fun _ _ _ h => h) (Or.inl ⟨by rfl, fun w' hSw => ?_⟩) hHeld ?_
  · dsimp only at hSw
    go_simp
  simp only [Act.put, List.setIfInBounds_toArray, List.set_cons_zero, List.set_cons_succ]
  refine wpAnyH_take (i := 15) (oi := { dst := some 85, op := Op.move (Operand.tmp 17), type := 25, pos := "law.go:70", after := #[{ on := 14, ground := Ground.guard }], guard := some (14, true) }) (v := .int .i64 0) rfl (by kernel_rfl) (by kernel_rfl) (by kernel_rfl) (fun _ _ _ h => h) (Or.inl ⟨by rfl, fun w' hSw => ?_⟩) hHeld ?_
  · dsimp only at hSw
    go_simp
  simp only [Act.put, List.setIfInBounds_toArray, List.set_cons_zero, List.set_cons_succ]
  refine wpAnyH_take (i := 16) (oi := { dst := some 86, op := Op.binOp BinOp.eql 25 (Operand.tmp 85) (Operand.const (Value.int IntKind.i64 0)) 25, type := 4, pos := "law.go:70", after := #[{ on := 15, ground := Ground.data }, { on := 14, ground := Ground.guard }], guard := some (14, true) }) (v := .bool true) rfl (by kernel_rfl) (by kernel_rfl) (by kernel_rfl) (fun _ _ _ h => h) (Or.inl ⟨by rfl, fun w' hSw => ?_⟩) hHeld ?_
  · dsimp only at hSw
    go_simp
  simp only [Act.put, List.setIfInBounds_toArray, List.set_cons_zero, List.set_cons_succ]
  refine wpAnyH_take (i := 17) (oi := { dst := some 87, op := Op.pick (Operand.tmp 84) (Operand.tmp 86) (Operand.const (Value.bool false)), type := 4, pos := "law.go:70", after := #[{ on := 14, ground := Ground.data }, { on := 16, ground := Ground.data }], guard := none }) (v := .bool true) rfl (by kernel_rfl) (by kernel_rfl) (by kernel_rfl) (fun _ _ _ h => h) (Or.inl ⟨by rfl, fun w' hSw => ?_⟩) hHeld ?_
  · dsimp only at hSw
    go_simp
  simp only [Act.put, List.setIfInBounds_toArray, List.set_cons_zero, List.set_cons_succ]
  refine wpAnyH_take (i := 18) (oi := { dst := some 88, op := Op.move (Operand.tmp 87), type := 4, pos := "law.go:70", after := #[{ on := 17, ground := Ground.data }, { on := 14, ground := Ground.chain }], guard := none }) (v := .bool true) rfl (by kernel_rfl) (by kernel_rfl) (by kernel_rfl) (fun _ _ _ h => h) (Or.inl ⟨by rfl, fun w' hSw => ?_⟩) hHeld ?_
  · dsimp only at hSw
    go_simp
  simp only [Act.put, List.setIfInBounds_toArray, List.set_cons_zero, List.set_cons_succ]
  refine wpAnyH_take (i := 19) (oi := { dst := some 89, op := Op.move (Operand.tmp 16), type := 3, pos := "law.go:70", after := #[{ on := 18, ground := Ground.guard }], guard := some (18, true) }) (v := .int .i64 zn) rfl (by kernel_rfl) (by kernel_rfl) (by kernel_rfl) (fun _ _ _ h => h) (Or.inl ⟨by rfl, fun w' hSw => ?_⟩) hHeld ?_
  · dsimp only at hSw
    go_simp
  simp only [Act.put, List.setIfInBounds_toArray, List.set_cons_zero, List.set_cons_succ]
  refine wpAnyH_take (i := 20) (oi := { dst := some 90, op := Op.move (Operand.tmp 9), type := 24, pos := "law.go:70", after := #[{ on := 18, ground := Ground.guard }], guard := some (18, true) }) (v := .slice a3 bl.length p3) rfl (by kernel_rfl) (by kernel_rfl) (by kernel_rfl) (fun _ _ _ h => h) (Or.inl ⟨by rfl, fun w' hSw => ?_⟩) hHeld ?_
  · dsimp only at hSw
    go_simp
  simp only [Act.put, List.setIfInBounds_toArray, List.set_cons_zero, List.set_cons_succ]
  refine wpAnyH_take (i := 21) (oi := { dst := some 91, op := Op.call { callee := Callee.builtin Builtin.len, args := #[Operand.tmp 90], argTypes := #[24] }, type := 3, pos := "law.go:70", after := #[{ on := 20, ground := Ground.data }, { on := 18, ground := Ground.guard }], guard := some (18, true) }) (v := .int .i64 (bl.length : Int)) rfl (by kernel_rfl) (by kernel_rfl) (by kernel_rfl) (fun _ _ _ h => h) (Or.inl ⟨by rfl, fun w' hSw => ?_⟩) hHeld ?_
  · dsimp only at hSw
    go_simp
  simp only [Act.put, List.setIfInBounds_toArray, List.set_cons_zero, List.set_cons_succ]
  refine wpAnyH_take (i := 22) (oi := { dst := some 92, op := Op.binOp BinOp.lss 3 (Operand.tmp 89) (Operand.tmp 91) 3, type := 4, pos := "law.go:70", after := #[{ on := 19, ground := Ground.data }, { on := 21, ground := Ground.data }, { on := 18, ground := Ground.guard }], guard := some (18, true) }) (v := .bool true) rfl (by kernel_rfl) (by kernel_rfl) (by kernel_rfl) (fun _ _ _ h => h) (Or.inl ⟨by rfl, fun w' hSw => ?_⟩) hHeld ?_
  · dsimp only at hSw
    go_simp
  simp only [Act.put, List.setIfInBounds_toArray, List.set_cons_zero, List.set_cons_succ]
  refine wpAnyH_take (i := 23) (oi := { dst := some 93, op := Op.move (Operand.tmp 92), type := 4, pos := "law.go:70", after := #[{ on := 22, ground := Ground.data }, { on := 18, ground := Ground.chain }, { on := 18, ground := Ground.guard }], guard := some (18, true) }) (v := .bool true) rfl (by kernel_rfl) (by kernel_rfl) (by kernel_rfl) (fun _ _ _ h => h) (Or.inl ⟨by rfl, fun w' hSw => ?_⟩) hHeld ?_
  · dsimp only at hSw
    go_simp
  simp only [Act.put, List.setIfInBounds_toArray, List.set_cons_zero, List.set_cons_succ]
  refine wpAnyH_take (i := 24) (oi := { dst := some 94, op := Op.move (Operand.tmp 15), type := 3, pos := "law.go:70", after := #[{ on := 23, ground := Ground.guard }], guard := some (23, false) }) (v := undef) rfl (by kernel_rfl) (by kernel_rfl) (by kernel_rfl) (fun _ _ _ h => h) (Or.inr ⟨by rfl, rfl⟩) hHeld ?_
  simp only [Act.put, List.setIfInBounds_toArray, List.set_cons_zero, List.set_cons_succ]
  refine wpAnyH_take (i := 26) (oi := { dst := some 96, op := Op.load 23 (Operand.tmp 2), type := 23, pos := "law.go:70", after := #[{ on := 23, ground := Ground.guard }], guard := some (23, false) }) (v := undef) rfl (by kernel_rfl) (by kernel_rfl) (by kernel_rfl) (fun _ _ _ h => h) (Or.inr ⟨by rfl, rfl⟩) hHeld ?_
  simp only [Act.put, List.setIfInBounds_toArray, List.set_cons_zero, List.set_cons_succ]
  refine wpAnyH_ready (rs := [25]) (by kernel_rfl) (by simp) ?_
  refine AllReadyH.cons rfl (fun K hK => ?_) AllReadyH.nil
  go_simp
  refine hK.out _ _ ⟨hcur, hKeep.out _ hcur⟩ (fun hHeld => ?_)
  clear hK K
  refine wpAnyH_take (i := 27) (oi := { dst := some 97, op := Op.binOp BinOp.eql 23 (Operand.tmp 95) (Operand.tmp 96) 23, type := 4, pos := "law.go:70", after := #[{ on := 25, ground := Ground.data }, { on := 26, ground := Ground.data }, { on := 23, ground := Ground.guard }], guard := some (23, false) }) (v := undef) rfl (by kernel_rfl) (by kernel_rfl) (by kernel_rfl) (fun _ _ _ h => h) (Or.inr ⟨by rfl, rfl⟩) hHeld ?_
  simp only [Act.put, List.setIfInBounds_toArray, List.set_cons_zero, List.set_cons_succ]
  refine wpAnyH_take (i := 28) (oi := { dst := some 98, op := Op.pick (Operand.tmp 93) (Operand.const (Value.bool true)) (Operand.tmp 97), type := 4, pos := "law.go:70", after := #[{ on := 23, ground := Ground.data }, { on := 27, ground := Ground.data }, { on := 18, ground := Ground.guard }], guard := some (18, true) }) (v := .bool true) rfl (by kernel_rfl) (by kernel_rfl) (by kernel_rfl) (fun _ _ _ h => h) (Or.inl ⟨by rfl, fun w' hSw => ?_⟩) hHeld ?_
  · dsimp only at hSw
    go_simp
  simp only [Act.put, List.setIfInBounds_toArray, List.set_cons_zero, List.set_cons_succ]
  refine wpAnyH_take (i := 29) (oi := { dst := some 99, op := Op.pick (Operand.tmp 88) (Operand.tmp 98) (Operand.const (Value.bool false)), type := 4, pos := "law.go:70", after := #[{ on := 18, ground := Ground.data }, { on := 28, ground := Ground.data }], guard := none }) (v := .bool true) rfl (by kernel_rfl) (by kernel_rfl) (by kernel_rfl) (fun _ _ _ h => h) (Or.inl ⟨by rfl, fun w' hSw => ?_⟩) hHeld ?_
  · dsimp only at hSw
    go_simp
  simp only [Act.put, List.setIfInBounds_toArray, List.set_cons_zero, List.set_cons_succ]
  refine wpAnyH_take (i := 30) (oi := { dst := some 4, op := Op.assign (Operand.tmp 99), type := 4, pos := "law.go:70", after := #[{ on := 29, ground := Ground.data }, { on := 25, ground := Ground.chain }, { on := 0, ground := Ground.phase }, { on := 1, ground := Ground.phase }, { on := 2, ground := Ground.phase }, { on := 3, ground := Ground.phase }, { on := 4, ground := Ground.phase }, { on := 5, ground := Ground.phase }, { on := 6, ground := Ground.phase }, { on := 7, ground := Ground.phase }, { on := 8, ground := Ground.phase }, { on := 9, ground := Ground.phase }, { on := 10, ground := Ground.phase }, { on := 11, ground := Ground.phase }, { on := 12, ground := Ground.phase }, { on := 13, ground := Ground.phase }, { on := 14, ground := Ground.phase }, { on := 15, ground := Ground.phase }, { on := 16, ground := Ground.phase }, { on := 17, ground := Ground.phase }, { on := 18, ground := Ground.phase }, { on := 19, ground := Ground.phase }, { on := 20, ground := Ground.phase }, { on := 21, ground := Ground.phase }, { on := 22, ground := Ground.phase }, { on := 23, ground := Ground.phase }, { on := 24, ground := Ground.phase }, { on := 25, ground := Ground.phase }, { on := 26, ground := Ground.phase }, { on := 27, ground := Ground.phase }, { on := 28, ground := Ground.phase }, { on := 29, ground := Ground.phase }], guard := none }) (v := .bool true) rfl (by kernel_rfl) (by kernel_rfl) (by kernel_rfl) (fun _ _ _ h => h) (Or.inl ⟨by rfl, fun w' hSw => ?_⟩) hHeld ?_
  · dsimp only at hSw
    go_simp
  simp only [Act.put, List.setIfInBounds_toArray, List.set_cons_zero, List.set_cons_succ]
  refine wpAnyH_done (by kernel_rfl) ?_ _
  go_wp2
  go_ret
  exact ⟨rfl, (HL.out.trans hcur).under⟩
end Go.Proofs.YtngbpkbojjipgaaDoor
