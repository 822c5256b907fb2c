/-
  What a screen tells: New, Row, Rows, Place, Bells, Pastes, Odd.
-/
import Derived.Test.YtdaenaoagejgeaaGreatDoorFeed
import Derived.Deep.RegionHeld
namespace Go.Proofs.YtdaenaoagejgeaaGreatDoor
open Go.RowKit Go.Lib
set_option linter.unusedVariables false

/-- The rows that are seen. -/
def rowsL (l : List UInt8) : List (List Nat) := (seen l).up ++ [(seen l).cur]
theorem seen_ok (l : List UInt8) : Oks (seen l) l.length := by
  obtain ⟨T, h1, h2⟩ := Oks.fd sn0 l 0 Oks.zero
  exact h1.mono (by omega)
theorem mkW (w : World) : (Instr.makeSlice 49 (.int .i64 1) (.int .i64 1)).run Tryz.prog w = .ok (.slice (some ⟨w.heap.size, 0, none⟩) 1 1) (w.alloc (.cells #[.int .i64 0, .slice none 0 0] 86)) := by
  obtain ⟨i0, hi0, hz0, hz1, hz2⟩ := info_parts row_info
  have hr := run_make (P := Tryz.prog) w 49 86 i0 _ Tryz.underlying49 hi0 hz0 .i64 .i64 1 1 (by omega) (by omega) (by rw [hz2]; omega) (by omega)
  rw [hr]
  simp only [hz1]
  refine congrArg (fun a => Result.ok (Value.slice (some ⟨w.heap.size, 0, none⟩) 1 1) (w.alloc (.cells a 86))) ?_
  apply Array.ext
  · simp [madeCells]
  · intro i h1 h2
    have h3 : i = 0 ∨ i = 1 := by
      simp at h2
      omega
    rcases h3 with rfl | rfl <;> simp [madeCells, Value.cells]
set_option maxHeartbeats 1000000 in
set_option maxRecDepth 100000 in
theorem new_run (W : World) : Calls Tryz.prog 5 #[] W (fun e w' => ∃ s F, e = .returned (.pointer (some ⟨s, 0, none⟩)) ∧ Scn w' W.heap.size s F [] ∧ Stp [] W F w') := by
  have hm := mkW W
  go_enter Tryz.func5, Tryz.ntmps5
  go_wp2_with fail
  go_ret
  have hs : Stp [] W [] ((W.alloc (Obj.cells #[.int .i64 0, .slice none 0 0] 86)).alloc (Obj.cells #[.slice (some ⟨W.heap.size, 0, none⟩) 1 1, .int .i64 0, .int .i64 0, .bool false, .int .i64 0, .slice none 0 0] 51)) := (Stp.alloc [] _ _).trans (Stp.alloc [] _ _)
  have hR : ((W.alloc (Obj.cells #[.int .i64 0, .slice none 0 0] 86)).alloc (Obj.cells #[.slice (some ⟨W.heap.size, 0, none⟩) 1 1, .int .i64 0, .int .i64 0, .bool false, .int .i64 0, .slice none 0 0] 51)).heap[W.heap.size]? = some (.cells #[.int .i64 0, .slice none 0 0] 86 (0, 0)) := by
    rw [(Stp.alloc [] (W.alloc (Obj.cells #[.int .i64 0, .slice none 0 0] 86)) _).block W.heap.size (by simp) (by simp), heap_alloc_new]
  have hS : ((W.alloc (Obj.cells #[.int .i64 0, .slice none 0 0] 86)).alloc (Obj.cells #[.slice (some ⟨W.heap.size, 0, none⟩) 1 1, .int .i64 0, .int .i64 0, .bool false, .int .i64 0, .slice none 0 0] 51)).heap[W.heap.size + 1]? = some (.cells #[.slice (some ⟨W.heap.size, 0, none⟩) 1 1, .int .i64 0, .int .i64 0, .bool false, .int .i64 0, .slice none 0 0] 51 (0, 0)) := by
    have h := heap_alloc_new (W.alloc (Obj.cells #[.int .i64 0, .slice none 0 0] 86)) (Obj.cells #[.slice (some ⟨W.heap.size, 0, none⟩) 1 1, .int .i64 0, .int .i64 0, .bool false, .int .i64 0, .slice none 0 0] 51)
    rw [show (W.alloc (Obj.cells #[.int .i64 0, .slice none 0 0] 86)).heap.size = W.heap.size + 1 by simp] at h
    exact h
  generalize ((W.alloc (Obj.cells #[.int .i64 0, .slice none 0 0] 86)).alloc (Obj.cells #[.slice (some ⟨W.heap.size, 0, none⟩) 1 1, .int .i64 0, .int .i64 0, .bool false, .int .i64 0, .slice none 0 0] 51)) = W2 at *
  have hF : ∀ j ∈ (Value.slice none 0 0).ownBlock.toList ++ Sc.foot ⟨W.heap.size, .slice (some ⟨W.heap.size, 0, none⟩) 1 1, [], Ro.zero⟩ (W.heap.size + 1), W.heap.size ≤ j := by
    intro j hj
    simp [Sc.foot, blks, Ro.zero, Value.ownBlock] at hj
    omega
  refine ⟨W.heap.size + 1, _, rfl, ⟨⟨W.heap.size, .slice (some ⟨W.heap.size, 0, none⟩) 1 1, [], Ro.zero⟩, .slice none 0 0, ⟨hS, ⟨⟨rfl, .inr ⟨W.heap.size, 1, _, rfl, Nat.zero_le _, hR, Nat.le_refl _, by unfold maxLen; omega, rfl, rfl⟩⟩, rfl, fun _ h => (by cases h), Rn.nil _, fun _ h => (by cases h)⟩, rfl, rfl, fun h => absurd rfl h⟩, Own.nil _ _, rfl, hF⟩, ⟨hs.os, hs.tape, hs.output, hs.size, hs.block, fun j hj => .inr (hF j hj)⟩⟩
section
variable {W : World} {B s : Nat} {F : List Nat} {l : List UInt8}
theorem Scn.tell (h : Scn W B s F l) : ∃ (c0 : Nat) (cap : Nat) (R : Nat), W.cell? ⟨s, 0, none⟩ = some (.slice (some ⟨R, 0, none⟩) (rowsL l).length cap) ∧ W.cell? ⟨s, 1, none⟩ = some (.int .i64 ((seen l).col : Int)) ∧ W.cell? ⟨s, 2, none⟩ = some (.int .i64 ((seen l).bells : Int)) ∧
    W.cell? ⟨s, 3, none⟩ = some (.bool (seen l).pa) ∧ W.cell? ⟨s, 4, none⟩ = some (.int .i64 ((seen l).odd : Int)) := by
  obtain ⟨X, bv, h1, _⟩ := h
  obtain ⟨D, cap, hv, _⟩ := h1.rw.at
  have c0 := h1.c0
  rw [hv] at c0
  refine ⟨0, cap, X.R, ?_, h1.c1, h1.c2, h1.c3, h1.c4⟩
  rw [c0]
  unfold rowsL
  rw [List.length_append, h1.up, List.length_map]
  rfl
theorem rows_run (h : Scn W B s F l) : Calls Tryz.prog 16 #[.pointer (some ⟨s, 0, none⟩)] W (Tells (.int .i64 ((rowsL l).length : Int)) W) := by
  obtain ⟨_, cap, R, c0, _⟩ := h.tell
  have hlt := h.lt.1
  clear h
  generalize (rowsL l).length = N at *
  go_enter Tryz.func16, Tryz.ntmps16
  go_wp2
  go_ret
  exact ⟨rfl, Stp.refl _ _⟩
theorem odd_run (h : Scn W B s F l) : Calls Tryz.prog 13 #[.pointer (some ⟨s, 0, none⟩)] W (Tells (.int .i64 ((seen l).odd : Int)) W) := by
  obtain ⟨_, cap, R, _, _, _, _, c4⟩ := h.tell
  have hlt := h.lt.1
  clear h
  go_enter Tryz.func13, Tryz.ntmps13
  go_wp2
  go_ret
  exact ⟨rfl, Stp.refl _ _⟩
theorem place_run (h : Scn W B s F l) (hl : l.length ≤ 90000) : Calls Tryz.prog 11 #[.pointer (some ⟨s, 0, none⟩)] W (Tells (.tuple #[.int .i64 ((seen l).up.length : Int), .int .i64 ((seen l).col : Int)]) W) := by
  obtain ⟨_, cap, R, c0, c1, _⟩ := h.tell
  have hlt := h.lt.1
  have e : (rowsL l).length = (seen l).up.length + 1 := by simp [rowsL]
  rw [e] at c0
  clear h e
  obtain ⟨N, hN⟩ : ∃ N, N = (seen l).up.length + 1 := ⟨_, rfl⟩
  have e1 : (N : Int) - 1 = ((seen l).up.length : Int) := by omega
  have hw : wrap64 ((seen l).up.length : Int) = ((seen l).up.length : Int) := by
    have := (seen_ok l).rows
    unfold wrap64
    omega
  rw [← hN] at c0
  clear hN
  go_enter Tryz.func11, Tryz.ntmps11
  go_wp2_with fail
  go_region
  go_wp2_with fail
  go_ret2
  refine ⟨?_, Stp.drew [] _⟩
  show Ending.returned (.tuple #[.int .i64 (wrap64 ((seen l).up.length : Int)), .int .i64 ((seen l).col : Int)]) = _
  rw [hw]
/-- A row that there isn't. -/
theorem row_no (h : Scn W B s F l) (i : Int) (hi : i < 0 ∨ ((rowsL l).length : Int) ≤ i) : Calls Tryz.prog 26 #[.pointer (some ⟨s, 0, none⟩), .int .i64 i] W (Tells (.tuple #[.string ⟨#[]⟩, .int .i64 3]) W) := by
  obtain ⟨_, cap, R, c0, _⟩ := h.tell
  have hlt := h.lt.1
  clear h
  generalize (rowsL l).length = N at *
  by_cases h0 : i < 0
  · clear hi
    go_enter Tryz.func26, Tryz.ntmps26
    go_wp2_with fail
    go_ret2
    exact ⟨rfl, Stp.refl _ _⟩
  · have h1 : (N : Int) ≤ i := by omega
    clear hi
    go_enter Tryz.func26, Tryz.ntmps26
    go_wp2_with fail
    go_ret2
    exact ⟨rfl, Stp.refl _ _⟩
theorem row_nil (i : Int) (W : World) : Calls Tryz.prog 26 #[.pointer none, .int .i64 i] W (Gives (.tuple #[.string ⟨#[]⟩, .int .i64 1]) W) := by
  go_enter Tryz.func26, Tryz.ntmps26
  go_wp2
  go_ret2
  exact ⟨rfl, rfl⟩
theorem two_get (L : List Ro) {i : Nat} (hi : i < L.length) : (two L)[i * 2]? = some (.int .i64 ((L[i]).k : Int)) ∧ (two L)[i * 2 + 1]? = some (L[i]).v := by
  have e : two L = two (L.take i) ++ (.int .i64 ((L[i]).k : Int) :: (L[i]).v :: two (L.drop (i + 1))) := by
    conv => lhs; rw [← List.take_append_drop i L, List.drop_eq_getElem_cons hi, two_app]
    rfl
  have e2 : (two (L.take i)).length = i * 2 := by rw [two_length, List.length_take]; omega
  rw [e]
  constructor
  · rw [List.getElem?_append_right (by omega), e2, Nat.sub_self]
    rfl
  · rw [List.getElem?_append_right (by omega), e2, Nat.add_sub_cancel_left]
    rfl
theorem fl_le4 : ∀ A : List Nat, (fl A).length ≤ 4 * A.length
  | [] => by simp [fl]
  | c :: A => by
    have h1 := fl_le4 A
    have h2 := (enc8_len c).2
    rw [fl_cons, List.length_append, List.length_cons]
    omega
theorem fl_blank : ∀ k, fl (List.replicate k 32) = List.replicate k 32
  | 0 => rfl
  | k + 1 => by
    rw [List.replicate_succ, fl_cons, fl_blank k]
    rfl
/-- What Row reads. -/
theorem Scn.row (h : Scn W B s F l) (hl : l.length ≤ 90000) (i : Nat) (hi : i < (rowsL l).length) : ∃ (R cap k : Nat) (v : Value) (cs : List Nat), W.cell? ⟨s, 0, none⟩ = some (.slice (some ⟨R, 0, none⟩) (rowsL l).length cap) ∧ W.cell? ⟨R, i * 2, none⟩ = some (.int .i64 (k : Int)) ∧ W.cell? ⟨R, i * 2 + 1, none⟩ = some v ∧ Rn W v cs ∧ Pr cs ∧
    k ≤ 90000 ∧ cs.length ≤ 90000 ∧ (rowsL l).getD i [] = txt k cs := by
  obtain ⟨X, bv, h1, _⟩ := h
  obtain ⟨D, cap, hv, _⟩ := h1.rw.at
  have c0 := h1.c0
  rw [hv] at c0
  have eR : rowsL l = (X.U ++ [X.l]).map Ro.t := by
    unfold rowsL
    rw [h1.up, h1.cur, List.map_append]
    rfl
  have eL : (X.U ++ [X.l]).length = (rowsL l).length := by rw [eR, List.length_map]
  have hi2 : i < (X.U ++ [X.l]).length := by omega
  have hc := World.ownsRow.cells h1.rw.own h1.rw.blk
  obtain ⟨g1, g2⟩ := two_get (X.U ++ [X.l]) hi2
  have h2 := hc _ _ g1
  have h3 := hc _ _ g2
  simp only [addr_add, Nat.zero_add] at h2 h3
  have hm : (X.U ++ [X.l])[i] ∈ X.U ++ [X.l] := List.getElem_mem _
  have ht : (rowsL l).getD i [] = ((X.U ++ [X.l])[i]).t := by
    rw [eR, List.getD_eq_getElem?_getD, List.getElem?_map, List.getElem?_eq_getElem hi2]
    rfl
  have hmem : ((X.U ++ [X.l])[i]).t ∈ rowsL l := by
    rw [eR]
    exact List.mem_map_of_mem hm
  have hO := seen_ok l
  have hp : Pr ((X.U ++ [X.l])[i]).t ∧ (((X.U ++ [X.l])[i]).t).length ≤ l.length := by
    unfold rowsL at hmem
    rcases List.mem_append.1 hmem with g | g
    · exact ⟨hO.prs _ g, hO.lens _ g⟩
    · rw [List.mem_singleton.1 g]
      exact ⟨hO.pr, hO.cur⟩
  have hlen := hp.2
  unfold Ro.t at hlen
  rw [txt_len] at hlen
  refine ⟨X.R, cap, _, _, ((X.U ++ [X.l])[i]).cs, by rw [c0, ← eL]; simp, h2, h3, ?_, ?_, by omega, by omega, ht⟩
  · rcases List.mem_append.1 hm with g | g
    · exact h1.rw.rs _ g
    · rw [List.mem_singleton.1 g]
      exact h1.rw.ls
  · have := hp.1
    unfold Ro.t txt at this
    exact this.right
set_option maxHeartbeats 2000000 in
set_option maxRecDepth 100000 in
theorem row_run (h : Scn W B s F l) (hl : l.length ≤ 90000) (i : Nat) (hi : i < (rowsL l).length) : Calls Tryz.prog 26 #[.pointer (some ⟨s, 0, none⟩), .int .i64 (i : Int)] W (Tells (.tuple #[.string (st (fl ((rowsL l).getD i []))), .int .i64 0]) W) := by
  obtain ⟨R, cap, k, v, cs, c0, d0, d1, hR, hp, hk, hcs, ht⟩ := h.row hl i hi
  have hlt := h.lt.1
  have hN : (rowsL l).length ≤ 90001 := by
    have := (seen_ok l).rows
    simp [rowsL]
    omega
  rw [ht]
  clear h
  generalize (rowsL l).length = N at *
  have e1 : (i : Int) < (N : Int) := by omega
  have e2 : ¬ (N : Int) ≤ (i : Int) := by omega
  have e3 : ¬ (i : Int) < 0 := by omega
  have hiz : (i : Int) ≤ 1000000 := by omega
  have z1 : (st (List.replicate k 32)).size = k := by rw [st_size, List.length_replicate]
  have z2 : ∃ m, (st (fl cs)).size = m ∧ m ≤ 360000 := ⟨_, rfl, by rw [st_size]; have := fl_le4 cs; omega⟩
  obtain ⟨m, z2, z3⟩ := z2
  have e4 : st (List.replicate k 32) ++ st (fl cs) = st (fl (txt k cs)) := by
    rw [st_append]
    unfold txt
    rw [fl_app, fl_blank]
  obtain ⟨a, c, rfl, _⟩ := hR.slice
  obtain ⟨O, hO⟩ : ∃ O, O = Obj.cells #[.int .i64 (k : Int), .slice a cs.length c] 86 := ⟨_, rfl⟩
  have HR := Lib.hid hR
  obtain ⟨M, hM⟩ : ∃ M, M = cs.length := ⟨_, rfl⟩
  have hA : (W.alloc O).heap[W.heap.size]? = some (.cells #[.int .i64 (k : Int), .slice a cs.length c] 86 (0, 0)) := by rw [hO, heap_alloc_new]
  have HC : Aside (∀ W', Stp [] (W.alloc O) [] W' → Stp [] (W.alloc O) [] W' ∧ W'.cell? ⟨W.heap.size, 0, none⟩ = some (.int .i64 (k : Int)) ∧ W'.cell? ⟨W.heap.size, 1, none⟩ = some (.slice a cs.length c)) := fun W' hs => ⟨hs, hs.keeps rfl (by rw [cell_of_row _ _ _ _ _ _ hA]; rfl), hs.keeps rfl (by rw [cell_of_row _ _ _ _ _ _ hA]; rfl)⟩
  have KR := Lib.hid (fun W' (hs : Stp [] (W.alloc O) [] W') => rep_run 32 k (by omega) W')
  have cv : ∀ W', Stp [] (W.alloc O) [] W' → (convert 84 9 (.slice a cs.length c)).run Tryz.prog W' = .ok (.string (st (fl cs))) W' := fun W' hs => convR ((HR.out.stays (Stp.alloc [] W O)).stays hs) hp
  have hcur := HC.out (W.alloc O).drew (Stp.drew [] _)
  rw [hO] at HC KR cv hcur
  rw [← hM] at d1 HC cv hcur KR
  clear ht hN hA hO hM HR hR hp
  generalize st (fl (txt k cs)) = x3 at *
  generalize st (fl cs) = x2 at *
  generalize st (List.replicate k 32) = x1 at *
  go_enter Tryz.func26, Tryz.ntmps26
  go_wp2_with fail
  go_region_held (fun W' => Stp [] (W.alloc (Obj.cells #[.int .i64 (k : Int), .slice a M c] 86)) [] W' ∧ W'.cell? ⟨W.heap.size, 0, none⟩ = some (.int .i64 (k : Int)) ∧ W'.cell? ⟨W.heap.size, 1, none⟩ = some (.slice a M c)) (first | exact hcur | assumption)
    (first | (go_at_call 19; go_loud (refine (KR.out _ hcur.1).mono ?_); rintro _ wa ⟨rfl, sa⟩; replace hcur := HC.out _ (hcur.1.trans sa); clear sa))
  all_goals
    go_wp2_with fail
    go_ret2
    exact ⟨rfl, (Stp.alloc [] W _).trans hcur.1⟩
end
/-! ### No screen -/
theorem rows_nil (W : World) : Calls Tryz.prog 16 #[.pointer none] W (Gives (.int .i64 0) W) := by
  go_enter Tryz.func16, Tryz.ntmps16
  go_wp2
  go_ret
  exact ⟨rfl, rfl⟩
theorem odd_nil (W : World) : Calls Tryz.prog 13 #[.pointer none] W (Gives (.int .i64 0) W) := by
  go_enter Tryz.func13, Tryz.ntmps13
  go_wp2
  go_ret
  exact ⟨rfl, rfl⟩
theorem place_nil (W : World) : Calls Tryz.prog 11 #[.pointer none] W (Gives (.tuple #[.int .i64 0, .int .i64 0]) W) := by
  go_enter Tryz.func11, Tryz.ntmps11
  go_wp2
  go_ret2
  exact ⟨rfl, rfl⟩
end Go.Proofs.YtdaenaoagejgeaaGreatDoor
