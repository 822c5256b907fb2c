/-
  append to the bytes of a text that have just been laid (their row bears a mark behind its last cell).
-/
import Derived.Test.YtndofkjmbipagaaApp2
namespace Go.Proofs.Ytndofkjmbipagaa
open Go.RowKit Go.Lib
set_option linter.unusedVariables false

theorem run_storeCells_mk (P : Program) (g o : Nat) (t : TypeId) (fz : Nat × Nat) : ∀ (vs : List Value) (i : Nat) (cur : Array Value) (w : World), w.heap[g]? = some (.cells cur t fz) → cur.size ≤ fz.1 → o + i + vs.length ≤ cur.size → (∀ v ∈ vs, v.oneCell' = true) →
    (storeCells ⟨g, o, none⟩ vs i).run P w = .ok () (w.setRow g (cur.toList.take (o + i) ++ vs ++ cur.toList.drop (o + i + vs.length)).toArray)
  | [], i, cur, w, hg, _, _, _ => by
    simp only [storeCells, List.append_nil, List.length_nil, Nat.add_zero, List.take_append_drop, Array.toArray_toList]
    rw [setRow_self w g cur t fz hg]
    rfl
  | v :: rest, i, cur, w, hg, hfz, hl, h1 => by
    have hi : o + i < cur.size := by simp at hl; omega
    have hadd : (⟨g, o, none⟩ : Addr).add i = ⟨g, o + i, none⟩ := by unfold Addr.add; split <;> simp_all
    have hcell : w.cell? ⟨g, o + i, none⟩ = some cur[o + i] := by simp [World.cell?, hg, hi]
    have hfro : w.frozen? ⟨g, o + i, none⟩ = false := by
      obtain ⟨lo, hi'⟩ := fz
      simp only [World.frozen?, hg, Bool.and_eq_false_iff, decide_eq_false_iff_not]
      left
      simp only at hfz
      omega
    have hst : (store ((⟨g, o, none⟩ : Addr).add i) v).run P w = .ok () (w.setRow g (cur.setIfInBounds (o + i) v)) := by
      rw [hadd, run_store P w _ v _ (h1 v (by simp)), hcell]
      simp [hfro, setCell_eq_setRow w g (o + i) cur t fz v hg]
    have ih := run_storeCells_mk P g o t fz rest (i + 1) (cur.setIfInBounds (o + i) v) (w.setRow g (cur.setIfInBounds (o + i) v)) (setRow_heap w g cur _ t _ hg) (by simpa using hfz) (by simp at hl ⊢; omega) (fun x hx => h1 x (by simp [hx]))
    simp only [storeCells, Sem.run_bind, hst, Result.andThen_ok, ih, setRow_setRow]
    congr 3
    have e := list_seg_step cur.toList (o + i) v rest (by simp at hl ⊢; omega)
    simpa [Array.toList_setIfInBounds, Nat.add_assoc] using e
/-- Bytes in a marked row of the call's own. -/
def Mk (w : World) (g cap : Nat) (xs : List UInt8) : Prop := ∃ cur fz, w.heap[g]? = some (.cells cur 5 fz) ∧ cur.size ≤ fz.1 ∧ cur.size = cap ∧ xs.length ≤ cap ∧ cap ≤ maxLen ∧ cur.toList.take xs.length = xs.map bval
theorem Mk.bts {w : World} {g cap : Nat} {xs : List UInt8} (h : Mk w g cap xs) : Bts w (some ⟨g, 0, none⟩) xs := by
  obtain ⟨cur, fz, hg, _, hs, hl, _, ht⟩ := h
  refine fun _ => ⟨g, 0, rfl, fun i hi => ?_⟩
  rw [Nat.zero_add, cell_of_row w g i cur _ _ hg]
  have h2 := congrArg (·[i]?) ht
  simp only [List.getElem?_take, hi, if_true, List.getElem?_map] at h2
  rw [← Array.getElem?_toList, h2, getElem!_pos xs i hi]
  simp [hi]
/-- What an append to it tells. -/
def App (xs l : List UInt8) (g : Nat) (w : World) (v : Value) (w' : World) : Prop := ∃ a c, v = .slice a (xs ++ l).length c ∧ Bts w' a (xs ++ l) ∧ (xs ++ l).length ≤ c ∧ Stp [g] w [g] w'
theorem run_app_mk {w : World} {g cap : Nat} {xs : List UInt8} (ty : TypeId) (h : Mk w g cap xs) {A : Option Addr} {c : Nat} {l : List UInt8} (hl : Bts w A l) (hA : A = none → c = 0) (h63 : xs.length + l.length ≤ 1000000) :
    ∃ v' w', (Builtin.append_ #[22, 22] ty #[.slice (some ⟨g, 0, none⟩) xs.length cap, .slice A l.length c]).run Try.prog w = .ok v' w' ∧ App xs l g w v' w' := by
  obtain ⟨i0, hi0, hz0, hz1, hz2⟩ := info_parts byte_info
  have hb := h.bts
  obtain ⟨cur, fz, hg, hfz, hs, hlc, hm, ht⟩ := h
  rcases A with _ | ad
  · obtain rfl := hA rfl
    have : l = [] := by
      rcases Classical.em (l = []) with e | e
      · exact e
      · obtain ⟨b, off, h, _⟩ := hl e
        cases h
    subst this
    refine ⟨.slice (some ⟨g, 0, none⟩) xs.length cap, w, ?_, some ⟨g, 0, none⟩, cap, by simp, by simpa using hb, by simpa using hlc, Stp.refl _ _⟩
    simp [Builtin.append_, run_underlying Try.underlying22, sizeOf, typeInfo, hi0, Builtin.lenOf, Builtin.firstCells, loadCells, hlc, storeCells]
  · by_cases hroom : xs.length + l.length ≤ cap
    · have hf := run_firstCells_some (P := Try.prog) w i0.size l.length ad l.length c (l.map bval) (by rw [hz1]; simp) hl.cells
      have hst := run_storeCells_mk Try.prog g (xs.length * i0.size) 5 fz (l.map bval) 0 cur w hg hfz (by rw [hz1]; simp; omega) (map_bval_one l)
      simp only [Nat.add_zero] at hst
      refine ⟨.slice (some ⟨g, 0, none⟩) (xs.length + l.length) cap, w.setRow g (cur.toList.take (xs.length * i0.size) ++ l.map bval ++ cur.toList.drop (xs.length * i0.size + (l.map bval).length)).toArray, ?_, some ⟨g, 0, none⟩, cap, by simp, ?_, by simpa using hroom, ?_⟩
      · simp [Builtin.append_, run_underlying Try.underlying22, sizeOf, typeInfo, hi0, Builtin.lenOf, hroom, hf, Addr.add_lit, hst]
      · rw [hz1, Nat.mul_one, ht]
        refine fun _ => ⟨g, 0, rfl, fun i hi => ?_⟩
        rw [Nat.zero_add, cell_of_row _ g i _ _ _ (setRow_heap w g cur _ _ _ hg)]
        simp only [List.getElem?_toArray]
        rw [List.append_assoc, ← List.append_assoc, ← List.map_append, List.getElem?_append_left (by simpa using hi), List.getElem?_map, getElem!_pos _ i hi, List.getElem?_eq_getElem hi]
        rfl
      · exact ⟨rfl, rfl, rfl, by simp, fun k hk hn => setRow_other w g k _ (by simpa using hn), fun _ h => .inl h⟩
    · have r2 := run_append_grow (P := Try.prog) w _ ty _ i0 _ Try.underlying22 hi0 hz0 ⟨g, 0, none⟩ xs.length cap (xs.map bval) (by rw [hz1]; simp) hb.cells ad l.length c (l.map bval) (by rw [hz1]; simp) hl.cells (by omega) (by omega) (growslice_fits (by omega) (by rw [hz2]; omega))
      refine ⟨_, _, r2, some ⟨w.heap.size, 0, none⟩, grownCap w (xs.length + l.length) cap 5, by simp, ?_, by have := grownCap_ge w (xs.length + l.length) cap 5; simpa using this, ?_⟩
      · refine fun _ => ⟨w.heap.size, 0, rfl, fun i hi => ?_⟩
        have hh := heap_alloc_new w.drew (.cells ((xs.map bval).toArray ++ (l.map bval).toArray ++ Builtin.zeroCells (Value.int .u8 0).cells (grownCap w (xs.length + l.length) cap 5 - (xs.length + l.length))) 5)
        rw [Nat.zero_add, cell_of_row _ w.heap.size i _ _ _ hh]
        rw [← Array.getElem?_toList]
        simp only [Array.toList_append]
        rw [← List.map_append, List.getElem?_append_left (by simpa using hi), List.getElem?_map, getElem!_pos _ i hi, List.getElem?_eq_getElem hi]
        rfl
      · exact (Stp.drew [g] w).trans (Stp.alloc [g] _ _)
theorem conv_mk (W : World) (l : List UInt8) (hl : l.length ≤ 1000000) : ∃ g cap w', (convert 9 22 (.string (st l))).run Try.prog W = .ok (.slice (some ⟨g, 0, none⟩) l.length cap) w' ∧ Mk w' g cap l ∧ W.heap.size ≤ g ∧ Stp [] W [] w' := by
  have h := Go.Lib.run_convert_string_bytes (P := Try.prog) W 9 22 5 (st l) Try.underlying9 Try.underlying22 Try.underlying5
  rw [st_size] at h
  have hge := grownCap_ge W l.length 0 5
  have hcs : (bytesCells W 5 (st l)).size = grownCap W l.length 0 5 := by
    unfold bytesCells
    rw [st_size]
    simp [st]
    omega
  refine ⟨_, _, _, h, ⟨_, _, bytesWorld_at_new W 5 (st l), Nat.le_refl _, hcs, hge, grownCap_le_maxLen _ _ _ _ (by unfold maxLen; omega), ?_⟩, Nat.le_refl _, ?_⟩
  · unfold bytesCells
    simp only [Array.toList_append, Array.toList_map, st_data]
    rw [List.take_append_of_le_length (by simp), List.take_of_length_le (by simp)]
    rfl
  · exact ⟨rfl, rfl, rfl, by rw [bytesWorld_size]; omega, fun k hk _ => bytesWorld_at_old W _ _ k hk, fun _ h => .inl h⟩
theorem wpList_app_mk {w : World} {ops : Array Oper} {rest : List Oper} {o : Oper} {a : Act} {Q : Exit → Act → World → Prop} (hgd : o.guard = none) (s x : Operand)
    (ho : o.op = .call { callee := .builtin .append, args := #[s, x], argTypes := #[22, 22] }) (g cap n1 : Nat) (xs : List UInt8) (hn1 : n1 = xs.length) (hs : a.eval s = .slice (some ⟨g, 0, none⟩) n1 cap) (hown : Mk w g cap xs)
    (A : Option Addr) (c n : Nat) (l : List UInt8) (hn : n = l.length) (hx : a.eval x = .slice A n c) (hl : Bts w A l) (hA : A = none → c = 0) (h63 : xs.length + l.length ≤ 1000000)
    (h : ∀ v' w', App xs l g w v' w' → wpList Try.prog ops Q rest (a.put o.dst v') w') : wpList Try.prog ops Q (o :: rest) a w := by
  subst hn
  subst hn1
  refine wpList_plain hgd fun K hK => ?_
  obtain ⟨v', w', hrun, h2⟩ := run_app_mk o.type hown hl hA h63
  unfold Oper.wp execOp
  simp only [ho, resolve, invoke, builtin, Sem.run_bind, Sem.run_pure, Result.andThen_ok, List.map_toArray, List.map_cons, List.map_nil, hs, hx]
  rw [hrun]
  exact hK _ _ (h v' w' h2)
end Go.Proofs.Ytndofkjmbipagaa
