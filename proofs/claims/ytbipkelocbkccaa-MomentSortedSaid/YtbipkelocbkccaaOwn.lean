/-
  Slices of moments: what one reads as, rows of the call's own, what is appended to one; slices.Clone and moment.Sort.
-/
import Derived.Test.YtbipkelocbkccaaStable
import Derived.Maps.AppendAt
import Derived.Laws.OwnMore
import Derived.Laws.AppendOwnNone
import Derived.Below
namespace Go.Proofs.Ytbipkelocbkccaa
open Go.RowKit Go.Lib
set_option linter.unusedVariables false

/-- A slice's moments, as a list. -/
def Ms (w : World) (a : Option Addr) (l : List Mo) : Prop := l ≠ [] → ∃ b off, a = some ⟨b, off, none⟩ ∧ ∀ i, i < l.length → w.cell? ⟨b, off + i, none⟩ = some (.float .f64 (l[i]!).v)
/-- The same, in blocks below a bound. -/
def MsIn (w : World) (lo : Nat) (a : Option Addr) (l : List Mo) : Prop := l ≠ [] → ∃ b off, a = some ⟨b, off, none⟩ ∧ lo ≤ b ∧ b < w.heap.size ∧ ∀ i, i < l.length → w.cell? ⟨b, off + i, none⟩ = some (.float .f64 (l[i]!).v)

theorem MsIn.ms {w : World} {lo : Nat} {a : Option Addr} {l : List Mo} (h : MsIn w lo a l) : Ms w a l := fun g => by
  obtain ⟨b, off, h1, _, _, h2⟩ := h g
  exact ⟨b, off, h1, h2⟩
theorem MsIn.below {w w' : World} {lo : Nat} {a : Option Addr} {l : List Mo} (h : MsIn w lo a l) (hb : Below w.heap.size w w') : MsIn w' lo a l := fun g => by
  obtain ⟨b, off, h1, h3, h4, h2⟩ := h g
  exact ⟨b, off, h1, h3, Nat.lt_of_lt_of_le h4 hb.size, fun i hi => (hb.cell (p := ⟨b, off + i, none⟩) h4).trans (h2 i hi)⟩
theorem Ms.lt {w : World} {a : Option Addr} {l : List Mo} (h : Ms w a l) (g : l ≠ []) : ∃ b off, a = some ⟨b, off, none⟩ ∧ b < w.heap.size := by
  obtain ⟨b, off, h1, h2⟩ := h g
  have := h2 0 (List.length_pos_iff.2 g)
  exact ⟨b, off, h1, block_lt_of_cell this⟩
theorem Ms.below {w w' : World} {a : Option Addr} {l : List Mo} (h : Ms w a l) (hb : Below w.heap.size w w') : Ms w' a l := fun g => by
  obtain ⟨b, off, h1, h2⟩ := h g
  have h3 := h2 0 (List.length_pos_iff.2 g)
  have h4 : b < w.heap.size := block_lt_of_cell h3
  exact ⟨b, off, h1, fun i hi => (hb.cell (p := ⟨b, off + i, none⟩) h4).trans (h2 i hi)⟩

/-- A row of moments that the call itself has made from block number 'base' on. -/
def Own (w : World) (base : Nat) (v : Value) (l : List Mo) : Prop := w.ownsRow base 23 1 v l.length (l.map encM)
theorem float_info : (Try.prog.info? 23).map (fun i => (i.zero, i.size, i.bytes)) = some (some (.float .f64 0), 1, 8) := by kernel_rfl

theorem Own.cell {w : World} {base g cap : Nat} {l : List Mo} {n : Nat} (h : Own w base (.slice (some ⟨g, 0, none⟩) n cap) l) : base ≤ g ∧ g < w.heap.size ∧ n = l.length ∧ l.length ≤ cap ∧ ∀ i, i < l.length → w.cell? ⟨g, i, none⟩ = some (encM (l[i]!)) ∧ w.frozen? ⟨g, i, none⟩ = false := by
  rcases h.2 with ⟨h1, h0⟩ | ⟨g', cap', cur, hv, hg, hh, hnc, hm, hcur, htake⟩
  · cases h1
  · cases hv
    have hlt : g < w.heap.size := by
      rcases Nat.lt_or_ge g w.heap.size with h | h
      · exact h
      · rw [Array.getElem?_eq_none h] at hh
        cases hh
    refine ⟨hg, hlt, rfl, hnc, fun i hi => ⟨?_, ?_⟩⟩
    · have h1 := cell_of_row w g i cur _ _ hh
      rw [h1]
      have h2 := congrArg (·[i]?) htake
      simp only [Nat.mul_one, List.getElem?_take, hi, if_true, List.getElem?_map] at h2
      rw [← Array.getElem?_toList, h2, List.getElem?_eq_getElem hi, getElem!_pos l i hi]
      rfl
    · simp [World.frozen?, hh]
theorem Own.form {w : World} {base : Nat} {v : Value} {l : List Mo} (h : Own w base v l) : (v = .slice none 0 0 ∧ l = []) ∨ ∃ g cap, v = .slice (some ⟨g, 0, none⟩) l.length cap := by
  rcases h.2 with ⟨h1, h0⟩ | ⟨g, cap, cur, hv, _⟩
  · exact .inl ⟨h1, List.length_eq_zero_iff.1 h0⟩
  · exact .inr ⟨g, cap, hv⟩
theorem Own.ms {w : World} {base : Nat} {v : Value} {l : List Mo} (h : Own w base v l) : ∃ a cap, v = .slice a l.length cap ∧ MsIn w base a l ∧ (a = none → cap = 0) := by
  rcases h.form with ⟨rfl, rfl⟩ | ⟨g, cap, rfl⟩
  · exact ⟨none, 0, rfl, fun g => absurd rfl g, fun _ => rfl⟩
  · obtain ⟨h1, h2, h3, h4, h5⟩ := h.cell
    exact ⟨some ⟨g, 0, none⟩, cap, rfl, fun _ => ⟨g, 0, rfl, h1, h2, fun i hi => by rw [Nat.zero_add]; exact (h5 i hi).1⟩, fun h => by cases h⟩

theorem run_app {w : World} {base : Nat} {v : Value} {xs : List Mo} (ty : TypeId) (hown : Own w base v xs) {A : Option Addr} {c : Nat} {l : List Mo} (hl : Ms w A l) (hA : A = none → c = 0)
    (h63 : xs.length + l.length ≤ 1000000) (hbase : base ≤ w.heap.size) :
    ∃ v' w', (Builtin.append_ #[34, 34] ty #[v, .slice A l.length c]).run Try.prog w = .ok v' w' ∧ Own w' base v' (xs ++ l) ∧ w.grownBy w' v.ownBlock ∧ (v'.ownBlock = v.ownBlock ∨ v'.ownBlock = some w.heap.size) := by
  obtain ⟨i0, hi0, hz0, hz1, hz2⟩ := info_parts float_info
  rcases A with _ | ad
  · obtain rfl := hA rfl
    have : l = [] := by
      rcases Classical.em (l = []) with e | e
      · exact e
      · obtain ⟨b, off, h, _⟩ := hl e
        cases h
    subst this
    refine ⟨v, w, run_append_owned_none (P := Try.prog) (w := w) base _ ty _ i0 1 Try.underlying34 hi0 v _ _ hown, ?_, World.grownBy.refl w _, .inl rfl⟩
    simpa [Own] using hown
  · have hc : ∀ j u, (l.map encM)[j]? = some u → w.cell? (ad.add j) = some u := by
      intro j u hu
      have hj : j < l.length := by
        rcases Nat.lt_or_ge j l.length with e | e
        · exact e
        · rw [List.getElem?_eq_none (by simpa using e)] at hu
          cases hu
      obtain ⟨b, off, h, hcell⟩ := hl (by intro e; subst e; simp at hj)
      cases h
      have e1 : (⟨b, off, none⟩ : Addr).add j = ⟨b, off + j, none⟩ := by
        unfold Addr.add
        split <;> simp_all
      rw [e1, hcell j hj, ← hu]
      rw [List.getElem?_map, List.getElem?_eq_getElem hj, getElem!_pos l j hj]
      rfl
    obtain ⟨v', w', hrun, h2, h3, _, h5⟩ := run_append_own_at (P := Try.prog) w base _ ty _ i0 _ 1 8 Try.underlying34 hi0 hz0 hz1 hz2 rfl (by omega) v _ _ hown ad l.length c (l.map encM) (by simp) hc
      (by intro u hu; simp only [List.mem_map] at hu; obtain ⟨x, _, rfl⟩ := hu; rfl) (by unfold maxLen; omega) (by omega) hbase
    refine ⟨v', w', hrun, ?_, h3, h5⟩
    unfold Own
    rw [List.map_append, List.length_append]
    exact h2

theorem wpList_app {w : World} {ops : Array Oper} {rest : List Oper} {o : Oper} {a : Act} {Q : Exit → Act → World → Prop} (hgd : o.guard = none) (s x : Operand)
    (ho : o.op = .call { callee := .builtin .append, args := #[s, x], argTypes := #[34, 34] }) (base : Nat) (v : Value) (xs : List Mo) (hs : a.eval s = v) (hown : Own w base v xs)
    (A : Option Addr) (c : Nat) (l : List Mo) (hx : a.eval x = .slice A l.length c) (hl : Ms w A l) (hA : A = none → c = 0) (h63 : xs.length + l.length ≤ 1000000) (hbase : base ≤ w.heap.size)
    (h : ∀ v' w', Own w' base v' (xs ++ l) → w.grownBy w' v.ownBlock → (v'.ownBlock = v.ownBlock ∨ v'.ownBlock = some w.heap.size) → wpList Try.prog ops Q rest (a.put o.dst v') w') : wpList Try.prog ops Q (o :: rest) a w := by
  refine wpList_plain hgd fun K hK => ?_
  obtain ⟨v', w', hrun, h2, h3, h4⟩ := run_app o.type hown hl hA h63 hbase
  unfold Oper.wp execOp
  simp only [ho, resolve, invoke, builtin, Sem.run_bind, Sem.run_pure, Result.andThen_ok, List.map_toArray, List.map_cons, List.map_nil, hs, hx, hrun]
  exact hK _ _ (h v' w' h2 h3 h4)

/-- What a call that makes a row of its own answers. -/
def Made (P : List Mo → Prop) (w : World) (e : Ending) (w' : World) : Prop := ∃ a cap z, e = .returned (.slice a z.length cap) ∧ P z ∧ MsIn w' w.heap.size a z ∧ (a = none → cap = 0) ∧ Below w.heap.size w w'

theorem sw_below {w0 W : World} {blk off B : Nat} {l : List Mo} (h : SW encM w0 blk off l.toArray W) (hB : B ≤ blk) (hb : blk < w0.heap.size) : Below B w0 W := by
  obtain ⟨n, os, rfl⟩ := h
  unfold sortWorld Sort.grow Sort.putRow Sort.mapBlock Sort.ahead
  refine ⟨rfl, rfl, rfl, ?_, fun k hk => ?_⟩
  · simp
  · dsimp only
    rw [Array.getElem?_append_left (by rw [Array.size_modify]; omega), Array.getElem?_modify, if_neg (by omega)]
end Go.Proofs.Ytbipkelocbkccaa
