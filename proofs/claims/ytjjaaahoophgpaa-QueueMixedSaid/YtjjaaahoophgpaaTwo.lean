/-
  Two objects of the call's own side by side; what comes ahead of a moment, by places; numbers of one slice appended to another.
-/
import Derived.Test.YtjjaaahoophgpaaPushed
namespace Go.Proofs.Ytjjaaahoophgpaa
open Go.RowKit Go.Lib
set_option linter.unusedVariables false

theorem Stp.left {F F' : List Nat} {W W' : World} (h : Stp F W F' W') (G : List Nat) : Stp (F ++ G) W (F' ++ G) W' :=
  ⟨h.os, h.tape, h.output, h.size, fun k hk hF => h.block k hk (fun e => hF (List.mem_append_left _ e)), fun k hk => by
    rcases List.mem_append.1 hk with e | e
    · rcases h.foot k e with e | e
      · exact .inl (List.mem_append_left _ e)
      · exact .inr e
    · exact .inl (List.mem_append_right _ e)⟩
theorem Stp.right {F F' : List Nat} {W W' : World} (h : Stp F W F' W') (G : List Nat) : Stp (G ++ F) W (G ++ F') W' :=
  ⟨h.os, h.tape, h.output, h.size, fun k hk hF => h.block k hk (fun e => hF (List.mem_append_right _ e)), fun k hk => by
    rcases List.mem_append.1 hk with e | e
    · exact .inl (List.mem_append_left _ e)
    · rcases h.foot k e with e | e
      · exact .inl (List.mem_append_right _ e)
      · exact .inr e⟩
/-- The blocks of two objects are apart. -/
def Apart (F G : List Nat) : Prop := ∀ k ∈ G, k ∉ F
theorem Apart.step {F F' G : List Nat} {W W' : World} (h : Apart F G) (hs : Stp F W F' W') (hG : ∀ k ∈ G, k < W.heap.size) : Apart F' G := fun k hk e => by
  rcases hs.foot k e with g | g
  · exact h k hk g
  · have := hG k hk
    omega
theorem Apart.symm {F G : List Nat} (h : Apart F G) : Apart G F := fun k hk e => h k e hk

/-! ### What comes ahead of a moment -/
theorem upTo_append (m : Mo) (s : List Ent) : upTo m s ++ beyond m s = s := List.takeWhile_append_dropWhile
theorem upTo_cons (m : Mo) (x : Ent) (s : List Ent) : upTo m (x :: s) = if x.m.key ≤ m.key then x :: upTo m s else [] := by
  unfold upTo
  by_cases h : x.m.key ≤ m.key
  · simp [h]
  · simp [h]
theorem upTo_iff (m : Mo) : ∀ (s : List Ent), Ordd s → ∀ j, j < s.length → ((s[j]!).m.key ≤ m.key ↔ j < (upTo m s).length)
  | [], _, j, hj => by simp at hj
  | x :: s, ho, j, hj => by
    have ho' := List.pairwise_cons.1 ho
    rw [upTo_cons]
    by_cases h : x.m.key ≤ m.key
    · rw [if_pos h]
      cases j with
      | zero => simp [h]
      | succ j =>
        have := upTo_iff m s ho'.2 j (by simpa using hj)
        simp only [List.length_cons, Nat.add_lt_add_iff_right]
        rw [← this]
        simp
    · rw [if_neg h]
      simp only [List.length_nil, Nat.not_lt_zero, iff_false]
      cases j with
      | zero => simpa using h
      | succ j =>
        have hj' : j < s.length := by simpa using hj
        have hk := key_le_of_rk (ho'.1 (s[j]!) (by rw [getElem!_pos s j hj']; exact List.getElem_mem _))
        have e : (x :: s)[j + 1]! = s[j]! := by simp
        rw [e]
        omega
theorem key_max (m : Mo) : m.key ≤ 18446744073709551615 := by
  unfold Mo.key keyN nanN
  have := m.lt
  (repeat' split) <;> simp_all <;> omega
def nanM : Mo := ⟨9221120237041090561, by omega⟩
theorem nan_key : nanM.key = 18446744073709551615 := by decide
theorem upTo_nan : ∀ s : List Ent, upTo nanM s = s ∧ beyond nanM s = [] := by
  intro s
  exact upTo_of (r := []) (by simp) (fun x _ => by rw [nan_key]; exact key_max _) (.inl rfl)

/-! ### Numbers appended -/
theorem wpList_appS {w : World} {ops : Array Oper} {rest : List Oper} {o : Oper} {a : Act} {Q : Exit → Act → World → Prop} (hgd : o.guard = none) (s x : Operand)
    (ho : o.op = .call { callee := .builtin .append, args := #[s, x], argTypes := #[45, 45] }) (base : Nat) (v : Value) (xs : List Int) (hs : a.eval s = v) (hown : OwnI w base v xs)
    (u : Value) (hx : a.eval x = u) (base' : Nat) (l : List Int) (hu : OwnI w base' u l) (h63 : xs.length + l.length ≤ 1000000) (hbase : base ≤ w.heap.size)
    (h : ∀ v' w', OwnI w' base v' (xs ++ l) → w.grownBy w' v.ownBlock → wpList Try.prog ops Q rest (a.put o.dst v') w') : wpList Try.prog ops Q (o :: rest) a w := by
  rcases hu.form with ⟨rfl, rfl⟩ | ⟨g, cap, rfl, _, _⟩
  · obtain ⟨i0, hi0, hz0, hz1, hz2⟩ := info_parts int_info
    refine wpList_plain hgd fun K hK => ?_
    have hrun := run_append_owned_none (P := Try.prog) (w := w) base _ o.type _ i0 1 Try.underlying45 hi0 v _ _ hown
    unfold Oper.wp execOp
    simp only [ho, resolve, invoke, builtin, Sem.run_bind, Sem.run_pure, Result.andThen_ok, List.map_toArray, List.map_cons, List.map_nil, hs, hx, hrun]
    exact hK _ _ (h v w (by simpa using hown) (World.grownBy.refl w _))
  · refine wpList_appI hgd s x ho base v xs hs hown ⟨g, 0, none⟩ cap l l.length rfl hx (fun j u' hu' => ?_) h63 hbase h
    rw [addr_add, Nat.zero_add]
    have hj : j < l.length := by
      rcases Nat.lt_or_ge j l.length with e | e
      · exact e
      · rw [List.getElem?_eq_none (by simpa using e)] at hu'
        cases hu'
    have := World.ownsRow.cellAt hu j (by omega)
    rw [this]
    exact hu'
theorem OwnI.new (w : World) : OwnI (w.alloc (.cells #[] 3)) w.heap.size (.slice (some ⟨w.heap.size, 0, none⟩) 0 0) [] :=
  ⟨by simp, .inr ⟨w.heap.size, 0, #[], rfl, Nat.le_refl _, heap_alloc_new w _, by simp, by simp, by simp, by simp⟩⟩
theorem OwnI.sliceN {w : World} {base n : Nat} {v : Value} {l : List Int} (h : OwnI w base v l) (hn : l.length = n) : ∃ a cap, v = .slice a n cap := by
  obtain ⟨a, cap, e⟩ := h.slice
  exact ⟨a, cap, by rw [e, hn]⟩
/-- An append to a row that is new since w2 turns nothing that was there at w2. -/
theorem Stp.app {w2 w3 w4 : World} {v : Value} (h : Stp [] w2 [] w3) (hg : w3.grownBy w4 v.ownBlock) (hv : ∀ k, v.ownBlock = some k → w2.heap.size ≤ k) : Stp [] w2 [] w4 :=
  ⟨hg.os.trans h.os, hg.tape.trans h.tape, hg.output.trans h.output, Nat.le_trans h.size hg.size, fun k hk hF => (hg.block k (Nat.lt_of_lt_of_le hk h.size) (fun e => by have := hv k e.symm; omega)).trans (h.block k hk hF), fun _ h => by cases h⟩
theorem OwnI.lt {w : World} {base : Nat} {v : Value} {l : List Int} (h : OwnI w base v l) : ∀ k, v.ownBlock = some k → base ≤ k ∧ k < w.heap.size := World.ownsRow.lt h
end Go.Proofs.Ytjjaaahoophgpaa
