/-
  A row of a screen in memory: the blanks ahead, counted, and the characters behind them; cut.
-/
import Derived.Test.YtdaenaoagejgeaaGreatDoorRun
import Derived.Test.YtdaenaoagejgeaaGreatDoorScr
namespace Go.Proofs.YtdaenaoagejgeaaGreatDoor
open Go.RowKit Go.Lib
set_option linter.unusedVariables false

/-- The row that stands in a block behind A and ahead of D. -/
structure RowAt (W : World) (R : Nat) (A D : List Value) (k : Nat) (v : Value) (cs : List Nat) : Prop where
  rb : W.heap[R]? = some (.cells (A ++ (.int .i64 (k : Int) :: v :: D)).toArray 86 (0, 0))
  cs : Rn W v cs
/-- A row's characters. -/
def txt (k : Nat) (cs : List Nat) : List Nat := List.replicate k 32 ++ cs
theorem txt_len (k : Nat) (cs : List Nat) : (txt k cs).length = k + cs.length := by simp [txt]
theorem txt_nil : txt 0 [] = [] := rfl
section
variable {W W' : World} {R : Nat} {A D : List Value} {k : Nat} {v : Value} {cs : List Nat}
theorem RowAt.lt (h : RowAt W R A D k v cs) : R < W.heap.size := (Array.getElem?_eq_some_iff.1 h.rb).1
theorem RowAt.c0 (h : RowAt W R A D k v cs) : W.cell? ⟨R, A.length, none⟩ = some (.int .i64 (k : Int)) := by rw [cell_of_row W R _ _ _ _ h.rb]; simp
theorem RowAt.c1 (h : RowAt W R A D k v cs) : W.cell? ⟨R, A.length + 1, none⟩ = some v := by rw [cell_of_row W R _ _ _ _ h.rb]; simp
theorem RowAt.fz (h : RowAt W R A D k v cs) (i : Nat) : W.frozen? ⟨R, i, none⟩ = false := frozen_of_row W R i _ _ h.rb
theorem RowAt.ne (h : RowAt W R A D k v cs) : v.ownBlock ≠ some R := fun e => by
  obtain ⟨C, hC⟩ := h.cs.obj e
  rw [h.rb] at hC
  injection hC with hC
  injection hC with _ h2
  exact absurd h2 (by decide)
theorem RowAt.setB (h : RowAt W R A D k v cs) (n : Nat) : RowAt (W.setCell ⟨R, A.length, none⟩ (.int .i64 (n : Int))) R A D n v cs ∧ Stp [R] W [R] (W.setCell ⟨R, A.length, none⟩ (.int .i64 (n : Int))) := by
  have hs : Stp [R] W [R] (W.setCell ⟨R, A.length, none⟩ (.int .i64 (n : Int))) := Stp.setCell (F := [R]) (a := ⟨R, A.length, none⟩) W _ (List.mem_singleton.2 rfl)
  refine ⟨⟨?_, h.cs.other hs (fun j hj => by rw [List.mem_singleton]; intro e; exact h.ne (e ▸ hj))⟩, hs⟩
  have := heap_setCell_same W R A.length _ _ (.int .i64 (n : Int)) h.rb
  rw [this]
  simp
/-- Other characters. -/
theorem RowAt.setC {v' : Value} {cs' : List Nat} (h : RowAt W R A D k v cs) (hv : Rn W v' cs') : RowAt (W.setCell ⟨R, A.length + 1, none⟩ v') R A D k v' cs' ∧ Stp [R] W [R] (W.setCell ⟨R, A.length + 1, none⟩ v') := by
  have hs : Stp [R] W [R] (W.setCell ⟨R, A.length + 1, none⟩ v') := Stp.setCell (F := [R]) (a := ⟨R, A.length + 1, none⟩) W _ (List.mem_singleton.2 rfl)
  have hne : ∀ j, v'.ownBlock = some j → j ∉ [R] := fun j hj => by
    rw [List.mem_singleton]
    rintro rfl
    obtain ⟨C, hC⟩ := hv.obj hj
    rw [h.rb] at hC
    injection hC with hC
    injection hC with _ h2
    exact absurd h2 (by decide)
  refine ⟨⟨?_, hv.other hs hne⟩, hs⟩
  have := heap_setCell_same W R (A.length + 1) _ _ v' h.rb
  rw [this]
  simp
theorem RowAt.other {F F' : List Nat} (h : RowAt W R A D k v cs) (hs : Stp F W F' W') (hR : R ∉ F) (hv : ∀ j, v.ownBlock = some j → j ∉ F) : RowAt W' R A D k v cs :=
  ⟨(hs.block R h.lt hR).trans h.rb, h.cs.other hs hv⟩
theorem RowAt.stays {F : List Nat} (h : RowAt W R A D k v cs) (hs : Stp [] W F W') : RowAt W' R A D k v cs := h.other hs (by simp) (fun _ _ h => by cases h)
/-- What a call on a row leaves: nothing else has turned. -/
def RTo (R : Nat) (A D : List Value) (v : Value) (Q : Nat → Value → List Nat → Prop) (W : World) (e : Ending) (w' : World) : Prop :=
  e = .returned (.tuple #[]) ∧ ∃ k' v' cs', RowAt w' R A D k' v' cs' ∧ Q k' v' cs' ∧ Stp (R :: v.ownBlock.toList) W (R :: v'.ownBlock.toList) w' ∧ (v'.ownBlock = v.ownBlock ∨ ∀ j, v'.ownBlock = some j → W.heap.size ≤ j)
theorem txt_take {k n : Nat} (h : n ≤ k) (cs : List Nat) : (txt k cs).take n = txt n [] := by
  unfold txt
  rw [List.take_append_of_le_length (by simp; omega), List.take_replicate, Nat.min_eq_left h, List.append_nil]
theorem txt_take2 {k n : Nat} (h : k ≤ n) (cs : List Nat) : (txt k cs).take n = txt k (cs.take (n - k)) := by
  unfold txt
  rw [List.take_append, List.length_replicate, List.take_of_length_le (by simp; omega)]
theorem blk_cases (v : Value) {v' : Value} {n : Nat} (h : v'.ownBlock = v.ownBlock ∨ v'.ownBlock = some n) (m : Nat) (hm : m ≤ n) : v'.ownBlock = v.ownBlock ∨ ∀ j, v'.ownBlock = some j → m ≤ j := by
  rcases h with h | h
  · exact .inl h
  · exact .inr fun j hj => by rw [h] at hj; cases hj; exact hm
set_option maxHeartbeats 1000000 in
set_option maxRecDepth 100000 in
/-- cut: a row without characters. -/
theorem cut_none (h : RowAt W R A D k v []) (n : Nat) (hk : k ≤ 1000000) (hn : n ≤ 1000000) :
    Calls Tryz.prog 71 #[.pointer (some ⟨R, A.length, none⟩), .int .i64 (n : Int)] W (RTo R A D v (fun k' v' cs' => txt k' cs' = (txt k []).take n ∧ cs' = []) W) := by
  have c0 := h.c0
  have c1 := h.c1
  have f0 := h.fz A.length
  have f1 := h.fz (A.length + 1)
  have hlt := h.lt
  obtain ⟨a, cap, rfl, hnil, hcap, hmx⟩ := h.cs.slice
  have H := Lib.hid h
  clear h hnil
  generalize ho : A.length = o at *
  have HO := Lib.hid ho
  clear ho
  have e2 : ¬ ((0 : Int) < (([] : List Nat).length : Int)) := by simp
  by_cases h1 : n < k
  · have e0 : ¬ ((0 : Int) < (n : Int) - (k : Int)) := by omega
    have e1 : (n : Int) < (k : Int) := by omega
    have HT := Lib.hid (txt_take (show n ≤ k by omega) [])
    go_enter Tryz.func71, Tryz.ntmps71
    go_wp2_with fail
    go_end0
    have HB := H.out.setB n
    rw [HO.out] at HB
    exact ⟨rfl, n, _, [], HB.1, ⟨HT.out.symm, rfl⟩, HB.2.more (by simp), .inl rfl⟩
  · have e1 : ¬ (n : Int) < (k : Int) := by omega
    have e3 : ¬ ((n : Int) - (k : Int) < (([] : List Nat).length : Int)) := by simp; omega
    have HT := Lib.hid (txt_take2 (show k ≤ n by omega) [])
    go_enter Tryz.func71, Tryz.ntmps71
    go_wp2_with fail
    go_end0
    have HB := H.out.setB k
    rw [HO.out] at HB
    exact ⟨rfl, k, _, [], HB.1, ⟨by rw [HT.out, List.take_nil], rfl⟩, HB.2.more (by simp), .inl rfl⟩
set_option maxHeartbeats 1000000 in
set_option maxRecDepth 100000 in
/-- cut: a row with characters. -/
theorem cut_some (h : RowAt W R A D k v cs) (hc : cs ≠ []) (n : Nat) (hk : k ≤ 1000000) (hcs : cs.length ≤ 1000000) (hn : n ≤ 1000000) :
    Calls Tryz.prog 71 #[.pointer (some ⟨R, A.length, none⟩), .int .i64 (n : Int)] W (RTo R A D v (fun k' v' cs' => txt k' cs' = (txt k cs).take n) W) := by
  have c0 := h.c0
  have c1 := h.c1
  have f0 := h.fz A.length
  have f1 := h.fz (A.length + 1)
  have hlt := h.lt
  obtain ⟨g, cap, rfl, hg, hob, hcell, hfz⟩ := h.cs.at hc
  obtain ⟨_, _, e, _, hcap, hmx⟩ := h.cs.slice
  cases e
  have H := Lib.hid h
  clear h hcell hfz hob
  have hl : 0 < cs.length := List.length_pos_iff.2 hc
  generalize ho : A.length = o at *
  have HO := Lib.hid ho
  obtain ⟨L, hL⟩ : ∃ L, L = cs.length := ⟨_, rfl⟩
  rw [← hL] at c1 hcap hl hcs
  have HL := Lib.hid hL
  clear ho hL hc
  by_cases h1 : n < k
  · have e0 : ¬ ((0 : Int) < (n : Int) - (k : Int)) := by omega
    have e1 : (n : Int) < (k : Int) := by omega
    have e2 : ((0 : Int) < (L : Int)) := by omega
    have HT := Lib.hid (txt_take (show n ≤ k by omega) cs)
    have hcut := cutR (some ⟨g, 0, none⟩) L cap 0 (by omega)
    go_enter Tryz.func71, Tryz.ntmps71
    go_wp2_with fail
    go_end0
    have HB := H.out.setB n
    have hR := HB.1.cs.cut (Nat.zero_le _)
    have HC := HB.1.setC hR
    rw [HO.out] at HB HC
    exact ⟨rfl, n, _, [], HC.1, HT.out.symm, (HB.2.trans HC.2).more (by simp), .inl rfl⟩
  · obtain ⟨m, hm⟩ : ∃ m, n = k + m := ⟨n - k, by omega⟩
    have e1 : ¬ (n : Int) < (k : Int) := by omega
    have e5 : (n : Int) - (k : Int) = (m : Int) := by omega
    have HT := Lib.hid (txt_take2 (show k ≤ n by omega) cs)
    have HM := Lib.hid hm
    clear hm
    by_cases h2 : m < L
    · have e3 : (m : Int) < (L : Int) := by omega
      have hcut := cutR (some ⟨g, 0, none⟩) L cap m (by omega)
      have hmc : m ≤ cap := by omega
      go_enter Tryz.func71, Tryz.ntmps71
      go_wp2_with fail
      go_end0
      have HB := H.out.setB k
      have hR := HB.1.cs.cut (show m ≤ cs.length by rw [← HL.out]; omega)
      have HC := HB.1.setC hR
      rw [HO.out] at HB HC
      exact ⟨rfl, k, _, cs.take m, HC.1, by rw [HT.out, HM.out, Nat.add_sub_cancel_left], (HB.2.trans HC.2).more (by simp), .inl rfl⟩
    · have e3 : ¬ (m : Int) < (L : Int) := by omega
      go_enter Tryz.func71, Tryz.ntmps71
      go_wp2_with fail
      go_end0
      have HB := H.out.setB k
      rw [HO.out] at HB
      exact ⟨rfl, k, _, cs, HB.1, by rw [HT.out, HM.out, Nat.add_sub_cancel_left, List.take_of_length_le (by rw [← HL.out]; omega)], HB.2.more (by simp), .inl rfl⟩
theorem cut_run (h : RowAt W R A D k v cs) (n : Nat) (hk : k ≤ 1000000) (hcs : cs.length ≤ 1000000) (hn : n ≤ 1000000) :
    Calls Tryz.prog 71 #[.pointer (some ⟨R, A.length, none⟩), .int .i64 (n : Int)] W (RTo R A D v (fun k' v' cs' => txt k' cs' = (txt k cs).take n ∧ (cs = [] → cs' = [])) W) := by
  by_cases hc : cs = []
  · subst hc
    refine (cut_none h n hk hn).mono ?_
    rintro e w' ⟨rfl, k', v', cs', h1, h2, h3⟩
    exact ⟨rfl, k', v', cs', h1, ⟨h2.1, fun _ => h2.2⟩, h3⟩
  · refine (cut_some h hc n hk hcs hn).mono ?_
    rintro e w' ⟨rfl, k', v', cs', h1, h2, h3⟩
    exact ⟨rfl, k', v', cs', h1, ⟨h2, fun g => absurd g hc⟩, h3⟩
end
end Go.Proofs.YtdaenaoagejgeaaGreatDoor
