/-
  Rows of numbers of the call's own; two buffers.
-/
import Derived.Test.YtblmpaplggnajaaDoorLaw
namespace Go.Proofs.YtblmpaplggnajaaDoor
open Go.RowKit Go.Lib Go.Maps
set_option linter.unusedVariables false

theorem int_info : (Tryd.prog.info? 3).map (fun i => (i.zero, i.size, i.bytes)) = some (some (.int .i64 0), 1, 8) := by kernel_rfl
def OwnI (w : World) (base : Nat) (v : Value) (l : List Int) : Prop := w.ownsRow base 3 1 v l.length (l.map (Value.int .i64))
theorem OwnI.form {w : World} {base : Nat} {v : Value} {l : List Int} (h : OwnI w base v l) : (v = .slice none 0 0 ∧ l = []) ∨ ∃ g cap, v = .slice (some ⟨g, 0, none⟩) l.length cap ∧ base ≤ g ∧ g < w.heap.size := by
  rcases h.2 with ⟨h1, h0⟩ | ⟨g, cap, cur, hv, hb, hh, _⟩
  · exact .inl ⟨h1, List.length_eq_zero_iff.1 h0⟩
  · exact .inr ⟨g, cap, hv, hb, (Array.getElem?_eq_some_iff.1 hh).1⟩
theorem OwnI.slice {w : World} {base : Nat} {v : Value} {l : List Int} (h : OwnI w base v l) : ∃ a cap, v = .slice a l.length cap := by
  rcases h.form with ⟨rfl, rfl⟩ | ⟨g, cap, rfl, _⟩
  · exact ⟨none, 0, rfl⟩
  · exact ⟨_, cap, rfl⟩
theorem OwnI.cell {w : World} {base : Nat} {a : Option Addr} {n cap : Nat} {l : List Int} (h : OwnI w base (.slice a n cap) l) {i : Nat} (hi : i < l.length) : n = l.length ∧ ∃ g, a = some ⟨g, 0, none⟩ ∧ w.cell? ⟨g, i, none⟩ = some (.int .i64 (l[i]!)) := by
  rcases h.form with ⟨_, rfl⟩ | ⟨g, cap', e, _⟩
  · simp at hi
  · cases e
    refine ⟨rfl, g, rfl, ?_⟩
    have := World.ownsRow.cellAt h i (by omega)
    rw [this, List.getElem?_map, List.getElem?_eq_getElem hi, getElem!_pos l i hi]
    rfl
theorem OwnI.kept {w w' : World} {base : Nat} {v : Value} {l : List Int} {G G' : List Nat} (h : OwnI w base v l) (hs : Stp G w G' w') (hG : ∀ k ∈ G, k < base) : OwnI w' base v l := by
  refine ⟨h.1, ?_⟩
  rcases h.2 with hn | ⟨g, cap, cur, rfl, hb, hgg, rest⟩
  · exact .inl hn
  · exact .inr ⟨g, cap, cur, rfl, hb, (hs.block g (Array.getElem?_eq_some_iff.1 hgg).1 (fun e => by have := hG g e; omega)).trans hgg, rest⟩
theorem OwnI.other {w w' : World} {base : Nat} {v : Value} {l : List Int} {G G' : List Nat} (h : OwnI w base v l) (hs : Stp G w G' w') (hG : ∀ k, v.ownBlock = some k → k ∉ G) : OwnI w' base v l := by
  refine ⟨h.1, ?_⟩
  rcases h.2 with hn | ⟨g, cap, cur, rfl, hb, hgg, rest⟩
  · exact .inl hn
  · exact .inr ⟨g, cap, cur, rfl, hb, (hs.block g (Array.getElem?_eq_some_iff.1 hgg).1 (hG g rfl)).trans hgg, rest⟩
theorem OwnI.mono {w : World} {base base' : Nat} {v : Value} {l : List Int} (h : OwnI w base v l) (hb : base' ≤ base) : OwnI w base' v l := by
  refine ⟨h.1, ?_⟩
  rcases h.2 with hn | ⟨g, cap, cur, rfl, hg, rest⟩
  · exact .inl hn
  · exact .inr ⟨g, cap, cur, rfl, by omega, rest⟩

theorem run_appI {w : World} {base : Nat} {v : Value} {xs : List Int} (ty : TypeId) (hown : OwnI w base v xs) {ad : Addr} {c : Nat} {l : List Int} (hc : ∀ j u, (l.map (Value.int .i64))[j]? = some u → w.cell? (ad.add j) = some u)
    (h63 : xs.length + l.length ≤ 1000000) (hbase : base ≤ w.heap.size) :
    ∃ v' w', (Builtin.append_ #[31, 31] ty #[v, .slice (some ad) l.length c]).run Tryd.prog w = .ok v' w' ∧ OwnI w' base v' (xs ++ l) ∧ w.grownBy w' v.ownBlock := by
  obtain ⟨i0, hi0, hz0, hz1, hz2⟩ := info_parts int_info
  obtain ⟨v', w', hrun, h2, h3, _, h5⟩ := run_append_own_at (P := Tryd.prog) w base _ ty _ i0 _ 1 8 Tryd.underlying31 hi0 hz0 hz1 hz2 rfl (by omega) v _ _ hown ad l.length c (l.map (Value.int .i64)) (by simp) hc
    (by intro u hu; simp only [List.mem_map] at hu; obtain ⟨x, _, rfl⟩ := hu; rfl) (by unfold maxLen; omega) (by omega) hbase
  refine ⟨v', w', hrun, ?_, h3⟩
  unfold OwnI
  rw [List.map_append, List.length_append]
  exact h2
theorem wpList_appI {w : World} {ops : Array Oper} {rest : List Oper} {o : Oper} {a : Act} {Q : Exit → Act → World → Prop} (hgd : o.guard = none) (s x : Operand)
    (ho : o.op = .call { callee := .builtin .append, args := #[s, x], argTypes := #[31, 31] }) (base : Nat) (v : Value) (xs : List Int) (hs : a.eval s = v) (hown : OwnI w base v xs)
    (ad : Addr) (c : Nat) (l : List Int) (n : Nat) (hn : n = l.length) (hx : a.eval x = .slice (some ad) n c) (hc : ∀ j u, (l.map (Value.int .i64))[j]? = some u → w.cell? (ad.add j) = some u) (h63 : xs.length + l.length ≤ 1000000) (hbase : base ≤ w.heap.size)
    (h : ∀ v' w', OwnI w' base v' (xs ++ l) → w.grownBy w' v.ownBlock → wpList Tryd.prog ops Q rest (a.put o.dst v') w') : wpList Tryd.prog ops Q (o :: rest) a w := by
  subst hn
  refine wpList_plain hgd fun K hK => ?_
  obtain ⟨v', w', hrun, h2, h3⟩ := run_appI (c := c) o.type hown hc h63 hbase
  unfold Oper.wp execOp
  simp only [ho, resolve, invoke, builtin, Sem.run_bind, Sem.run_pure, Result.andThen_ok, List.map_toArray, List.map_cons, List.map_nil, hs, hx, hrun]
  exact hK _ _ (h v' w' h2 h3)

theorem OwnI.new (w : World) : OwnI (w.alloc (.cells #[] 3)) w.heap.size (.slice (some ⟨w.heap.size, 0, none⟩) 0 0) [] :=
  ⟨by simp, .inr ⟨w.heap.size, 0, #[], rfl, Nat.le_refl _, heap_alloc_new w _, by simp, by simp [maxLen], by simp, by simp⟩⟩
theorem one_int (w : World) (z : Int) : ∀ (j : Nat) (u : Value), ([z].map (Value.int .i64))[j]? = some u → (w.alloc (.cells #[.int .i64 z] 3)).cell? ((⟨w.heap.size, 0, none⟩ : Addr).add j) = some u := fun j u hj => by
  rcases j with _ | j
  · simp only [List.map_cons, List.map_nil, List.getElem?_cons_zero, Option.some.injEq] at hj
    rw [← hj, addr_add, cell_of_row _ w.heap.size _ _ _ _ (heap_alloc_new w _)]
    rfl
  · simp at hj
theorem own_obj {w : World} {base : Nat} {e : TypeId} {sz : Nat} {v : Value} {n : Nat} {xs : List Value} (h : w.ownsRow base e sz v n xs) {k : Nat} (hk : v.ownBlock = some k) : ∃ cur, w.heap[k]? = some (.cells cur e (0, 0)) := by
  rcases h.2 with ⟨rfl, _⟩ | ⟨g, cap, cur, rfl, _, hh, _⟩
  · cases hk
  · cases hk
    exact ⟨cur, hh⟩

/-! ### Two buffers -/
/-- Two buffers that are new since w, each by itself. -/
structure Pair (w W : World) (N : Nat) (e b g : Nat) (A B : List Nat) (e' b' g' : Nat) (A' B' : List Nat) : Prop where
  one : Eb w W e b g N A B
  two : Eb w W e' b' g' N A' B'
  ap : ∀ k ∈ [e', b', g'], k ≠ e ∧ k ≠ b ∧ k ≠ g
section
variable {w W W' : World} {N e b g e' b' g' : Nat} {A B A' B' C D : List Nat}
theorem Pair.stays {F : List Nat} (h : Pair w W N e b g A B e' b' g' A' B') (hs : Stp [] W F W') : Pair w W' N e b g A B e' b' g' A' B' := ⟨h.one.stays hs, h.two.stays hs, h.ap⟩
theorem Pair.act1 (h : Pair w W N e b g A B e' b' g' A' B') (h1 : Eb w W' e b g N C D) (hs : Stp [e, b, g] W [e, b, g] W') : Pair w W' N e b g C D e' b' g' A' B' :=
  ⟨h1, h.two.other hs (fun k hk => by
    have h1 := h.ap e' (by simp)
    have h2 := h.ap b' (by simp)
    have h3 := h.ap g' (by simp)
    have h4 := h.one.new
    simp at hk
    omega), h.ap⟩
theorem Pair.act2 (h : Pair w W N e b g A B e' b' g' A' B') (h1 : Eb w W' e' b' g' N C D) (hs : Stp [e', b', g'] W [e', b', g'] W') : Pair w W' N e b g A B e' b' g' C D :=
  ⟨h.one.other hs (fun k hk => ⟨by have := h.two.new; simp at hk; omega, h.ap k hk⟩), h1, h.ap⟩
/-- One, and then another. -/
theorem Pair.mk' (h : Eb w W e b g N A B) (k : Eb W W' e' b' g' N [] []) : Pair w W' N e b g A B e' b' g' [] [] :=
  ⟨h.stays k.stp, ⟨k.bu, h.stp.trans k.stp, by have := h.stp.size; have := k.new; omega⟩, fun i hi => by
    have h1 := h.bu.lt
    have h2 := k.new
    simp at hi
    omega⟩
end
end Go.Proofs.YtblmpaplggnajaaDoor
