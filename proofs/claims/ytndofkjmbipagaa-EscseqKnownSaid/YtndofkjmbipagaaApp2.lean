/-
  append to a row of the call's own, and what the row itself still holds.
-/
import Derived.Test.YtndofkjmbipagaaLongP
namespace Go.Proofs.Ytndofkjmbipagaa
open Go.RowKit Go.Lib
set_option linter.unusedVariables false

theorem Bts.head {w : World} {a : Option Addr} {M M' : List UInt8} (h : Bts w a (M ++ M')) : Bts w a M := fun hne => by
  obtain ⟨b, off, rfl, h2⟩ := h (by simp [hne])
  refine ⟨b, off, rfl, fun i hi => ?_⟩
  rw [h2 i (by simp; omega), getElem!_pos _ _ (by simp; omega), getElem!_pos M i hi, List.getElem_append_left hi]
theorem Own.lit (W : World) (l : List UInt8) (h : l.length ≤ 1000000) : Own (W.alloc (.cells (l.map bval).toArray 5)) W.heap.size (.slice (some ⟨W.heap.size, 0, none⟩) l.length l.length) l :=
  ⟨by simp, .inr ⟨W.heap.size, l.length, (l.map bval).toArray, rfl, Nat.le_refl _, heap_alloc_new W _, Nat.le_refl _, by unfold maxLen; omega, by simp, by simp; exact List.take_of_length_le (by simp)⟩⟩
theorem run_app2 {w : World} {base g cap : Nat} {xs : List UInt8} (ty : TypeId) (hown : Own w base (.slice (some ⟨g, 0, none⟩) xs.length cap) xs) {ad : Addr} {c : Nat} {l : List UInt8} (hl : Bts w (some ad) l)
    (h63 : xs.length + l.length ≤ 1000000) (hbase : base ≤ w.heap.size) :
    ∃ v' w', (Builtin.append_ #[22, 22] ty #[.slice (some ⟨g, 0, none⟩) xs.length cap, .slice (some ad) l.length c]).run Try.prog w = .ok v' w' ∧ Own w' base v' (xs ++ l) ∧ Bts w' (some ⟨g, 0, none⟩) xs ∧ w.grownBy w' (some g) := by
  obtain ⟨i0, hi0, hz0, hz1, hz2⟩ := info_parts byte_info
  obtain ⟨v', w', hrun, h2, h3, _, h5⟩ := run_append_own_at (P := Try.prog) w base _ ty _ i0 _ 1 1 Try.underlying22 hi0 hz0 hz1 hz2 rfl (by omega) _ _ _ hown ad l.length c (l.map bval) (by simp) hl.cells
      (map_bval_one l) (by unfold maxLen; omega) (by omega) hbase
  have ho' : Own w' base v' (xs ++ l) := by
    unfold Own
    rw [List.map_append, List.length_append]
    exact h2
  refine ⟨v', w', hrun, ho', ?_, h3⟩
  by_cases hroom : xs.length + l.length ≤ cap
  · obtain ⟨w2, r2, o2, _⟩ := run_append_fits (P := Try.prog) w base _ ty _ i0 1 Try.underlying22 hi0 hz1 g xs.length cap (xs.map bval) hown ad l.length c (l.map bval) (by simp) hl.cells (map_bval_one l) hroom
    have e := hrun.symm.trans r2
    injection e with e1 e2
    subst e1 e2
    obtain ⟨a, cap', ev, hb, _⟩ := ho'.bts
    injection ev with ea
    rw [← ea] at hb
    exact Bts.head (M' := l) hb
  · have r2 := run_append_grow (P := Try.prog) w _ ty _ i0 _ Try.underlying22 hi0 hz0 ⟨g, 0, none⟩ xs.length cap (xs.map bval) (by rw [hz1]; simp) (World.ownsRow.cells hown (g := g) rfl) ad l.length c (l.map bval) (by rw [hz1]; simp) hl.cells (by omega) (by omega) (growslice_fits (by omega) (by rw [hz2]; omega))
    have e := hrun.symm.trans r2
    injection e with e1 e2
    obtain ⟨a, cap', ev, hb, _⟩ := hown.bts
    injection ev with ea
    rw [← ea] at hb
    rw [e2]
    exact (hb.stays (Stp.drew [] w)).stays (Stp.alloc [] _ _)
theorem wpList_app2 {w : World} {ops : Array Oper} {rest : List Oper} {o : Oper} {a : Act} {Q : Exit → Act → World → Prop} (hgd : o.guard = none) (s x : Operand)
    (ho : o.op = .call { callee := .builtin .append, args := #[s, x], argTypes := #[22, 22] }) (base g cap : Nat) (xs : List UInt8) (hs : a.eval s = .slice (some ⟨g, 0, none⟩) xs.length cap) (hown : Own w base (.slice (some ⟨g, 0, none⟩) xs.length cap) xs)
    (ad : Addr) (c n : Nat) (l : List UInt8) (hn : n = l.length) (hx : a.eval x = .slice (some ad) n c) (hl : Bts w (some ad) l) (h63 : xs.length + l.length ≤ 1000000) (hbase : base ≤ w.heap.size)
    (h : ∀ v' w', Own w' base v' (xs ++ l) → Bts w' (some ⟨g, 0, none⟩) xs → w.grownBy w' (some g) → wpList Try.prog ops Q rest (a.put o.dst v') w') : wpList Try.prog ops Q (o :: rest) a w := by
  subst hn
  refine wpList_plain hgd fun K hK => ?_
  obtain ⟨v', w', hrun, h2, h3, h4⟩ := run_app2 o.type hown hl h63 hbase
  unfold Oper.wp execOp
  simp only [ho, resolve, invoke, builtin, Sem.run_bind, Sem.run_pure, Result.andThen_ok, List.map_toArray, List.map_cons, List.map_nil, hs, hx]
  rw [hrun]
  exact hK _ _ (h v' w' h2 h3 h4)
end Go.Proofs.Ytndofkjmbipagaa
