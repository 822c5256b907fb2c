/-
  Rows of bytes of the call's own; rows of effects.
-/
import Derived.Test.YthfiilhbgogoaaaGreatDoorTalive
namespace Go.Proofs.YthfiilhbgogoaaaGreatDoor
open Go.RowKit Go.Lib
set_option linter.unusedVariables false

/-- A row of bytes that the call itself has made from block number 'base' on. -/
def Own (w : World) (base : Nat) (v : Value) (l : List UInt8) : Prop := w.ownsRow base 5 1 v l.length (l.map bval)
theorem Own.bts {w : World} {base : Nat} {v : Value} {l : List UInt8} (h : Own w base v l) : ∃ a cap, v = .slice a l.length cap ∧ Bts w a l ∧ (a = none → cap = 0) ∧ l.length ≤ cap ∧ ∀ ad, a = some ad → base ≤ ad.block ∧ ad.block < w.heap.size := by
  rcases h.2 with ⟨rfl, h0⟩ | ⟨g, cap, cur, rfl, hg, hh, hnc, hm, hcur, htake⟩
  · have : l = [] := List.length_eq_zero_iff.1 h0
    subst this
    exact ⟨none, 0, rfl, Bts.nil _ _, fun _ => rfl, Nat.le_refl _, fun ad h => by cases h⟩
  · refine ⟨some ⟨g, 0, none⟩, cap, rfl, fun _ => ⟨g, 0, rfl, fun i hi => ?_⟩, (fun h => by cases h), hnc, fun ad h => by cases h; exact ⟨hg, (Array.getElem?_eq_some_iff.1 hh).1⟩⟩
    have h1 := cell_of_row w g (0 + i) cur _ _ hh
    rw [h1]
    have h2 := congrArg (·[i]?) htake
    simp only [Nat.mul_one, List.getElem?_take, hi, if_true, List.getElem?_map] at h2
    rw [Nat.zero_add, ← Array.getElem?_toList, h2, getElem!_pos l i hi]
    simp [hi]
theorem Own.nil (w : World) (base : Nat) : Own w base (.slice none 0 0) [] := World.ownsRow_nil _ _ _ _
theorem Own.new (w : World) : Own (w.alloc (.cells #[] 5)) w.heap.size (.slice (some ⟨w.heap.size, 0, none⟩) 0 0) [] :=
  ⟨by simp, .inr ⟨w.heap.size, 0, #[], rfl, Nat.le_refl _, heap_alloc_new w _, by simp, by simp, by simp, by simp⟩⟩
theorem Own.lt {w : World} {base : Nat} {v : Value} {l : List UInt8} (h : Own w base v l) : ∀ k, v.ownBlock = some k → base ≤ k ∧ k < w.heap.size := World.ownsRow.lt h
theorem Own.other {w w' : World} {base : Nat} {v : Value} {l : List UInt8} {G G' : List Nat} (h : Own w base v l) (hs : Stp G w G' w') (hG : ∀ k, v.ownBlock = some k → k ∉ G) : Own w' base v l := by
  refine ⟨h.1, ?_⟩
  rcases h.2 with hn | ⟨g, cap, cur, rfl, hb, hgg, rest⟩
  · exact .inl hn
  · exact .inr ⟨g, cap, cur, rfl, hb, (hs.block g (Array.getElem?_eq_some_iff.1 hgg).1 (hG g rfl)).trans hgg, rest⟩
theorem run_app {w : World} {base : Nat} {v : Value} {xs : List UInt8} (ty : TypeId) (hown : Own w base v xs) {A : Option Addr} {c : Nat} {l : List UInt8} (hl : Bts w A l) (hA : A = none → c = 0)
    (h63 : xs.length + l.length ≤ 1000000) (hbase : base ≤ w.heap.size) :
    ∃ v' w', (Builtin.append_ #[35, 35] ty #[v, .slice A l.length c]).run Tryz.prog w = .ok v' w' ∧ Own w' base v' (xs ++ l) ∧ w.grownBy w' v.ownBlock ∧ (v'.ownBlock = v.ownBlock ∨ v'.ownBlock = some w.heap.size) := by
  obtain ⟨i0, hi0, hz0, hz1, hz2⟩ := info_parts byte_info
  rcases A with _ | ad
  · obtain rfl := hA rfl
    have : l = [] := by
      rcases Classical.em (l = []) with e | e
      · exact e
      · obtain ⟨b, off, h, _⟩ := hl e
        cases h
    subst this
    refine ⟨v, w, run_append_owned_none (P := Tryz.prog) (w := w) base _ ty _ i0 1 Tryz.underlying35 hi0 v _ _ hown, ?_, World.grownBy.refl w _, .inl rfl⟩
    simpa [Own] using hown
  · obtain ⟨v', w', hrun, h2, h3, _, h5⟩ := run_append_own_at (P := Tryz.prog) w base _ ty _ i0 _ 1 1 Tryz.underlying35 hi0 hz0 hz1 hz2 rfl (by omega) v _ _ hown ad l.length c (l.map bval) (by simp) hl.cells
      (map_bval_one l) (by unfold maxLen; omega) (by omega) hbase
    refine ⟨v', w', hrun, ?_, h3, h5⟩
    unfold Own
    rw [List.map_append, List.length_append]
    exact h2
theorem wpList_app {w : World} {ops : Array Oper} {rest : List Oper} {o : Oper} {a : Act} {Q : Exit → Act → World → Prop} (hgd : o.guard = none) (s x : Operand)
    (ho : o.op = .call { callee := .builtin .append, args := #[s, x], argTypes := #[35, 35] }) (base : Nat) (v : Value) (xs : List UInt8) (hs : a.eval s = v) (hown : Own w base v xs)
    (A : Option Addr) (c n : Nat) (l : List UInt8) (hn : n = l.length) (hx : a.eval x = .slice A n c) (hl : Bts w A l) (hA : A = none → c = 0) (h63 : xs.length + l.length ≤ 1000000) (hbase : base ≤ w.heap.size)
    (h : ∀ v' w', Own w' base v' (xs ++ l) → w.grownBy w' v.ownBlock → wpList Tryz.prog ops Q rest (a.put o.dst v') w') : wpList Tryz.prog ops Q (o :: rest) a w := by
  subst hn
  refine wpList_plain hgd fun K hK => ?_
  obtain ⟨v', w', hrun, h2, h3, h4⟩ := run_app o.type hown hl hA h63 hbase
  unfold Oper.wp execOp
  simp only [ho, resolve, invoke, builtin, Sem.run_bind, Sem.run_pure, Result.andThen_ok, List.map_toArray, List.map_cons, List.map_nil, hs, hx, hrun]
  exact hK _ _ (h v' w' h2 h3)
/-- What an append to a row that is new since w leaves. -/
theorem Stp.app {w W W' : World} {F : List Nat} {v : Value} (h : Stp [] w F W) (hg : W.grownBy W' v.ownBlock) (hv : ∀ k, v.ownBlock = some k → w.heap.size ≤ k) : Stp [] w F W' :=
  ⟨hg.os.trans h.os, hg.tape.trans h.tape, hg.output.trans h.output, Nat.le_trans h.size hg.size, fun k hk hF => (hg.block k (Nat.lt_of_lt_of_le hk h.size) (fun e => by have := hv k e.symm; omega)).trans (h.block k hk hF), h.foot⟩

/-! ### Effects -/
/-- An effect as a value: its data a slice, with the bytes that it holds. -/
structure Ev where
  k : Int
  f : Nat
  m : Nat
  t : Nat
  a : Option Addr
  c : Nat
  l : List UInt8
  n : Int
  ok : Bool
def ev7 (x : Ev) : List Value := [.int .i64 x.k, .int .u32 (x.f : Int), .int .u8 (x.m : Int), .int .u8 (x.t : Int), .slice x.a x.l.length x.c, .int .i64 x.n, .bool x.ok]
def evs (L : List Ev) : List Value := L.flatMap ev7
theorem evs_cons (x : Ev) (L : List Ev) : evs (x :: L) = ev7 x ++ evs L := rfl
theorem evs_app (L M : List Ev) : evs (L ++ M) = evs L ++ evs M := by simp [evs]
theorem evs_length (L : List Ev) : (evs L).length = L.length * 7 := by
  induction L with
  | nil => rfl
  | cons x L ih =>
    rw [evs_cons, List.length_append, ih, List.length_cons]
    simp [ev7]
    omega
theorem evs_get : ∀ (L : List Ev) (i : Nat) x, L[i]? = some x → ∀ j, j < 7 → (evs L)[i * 7 + j]? = (ev7 x)[j]?
  | [], i, x, h, j, hj => by simp at h
  | y :: L, 0, x, h, j, hj => by
    simp at h
    subst h
    rw [evs_cons, Nat.zero_mul, Nat.zero_add, List.getElem?_append_left (by simp [ev7]; omega)]
  | y :: L, i + 1, x, h, j, hj => by
    have := evs_get L i x (by simpa using h) j hj
    rw [evs_cons, show (i + 1) * 7 + j = (i * 7 + j) + 7 by omega, List.getElem?_append_right (by simp [ev7])]
    rw [show i * 7 + j + 7 - (ev7 y).length = i * 7 + j by simp [ev7]]
    exact this
theorem evs_one (L : List Ev) : ∀ v ∈ evs L, v.oneCell' = true := by
  intro u hu
  simp only [evs, ev7, List.mem_flatMap, List.mem_cons, List.not_mem_nil, or_false] at hu
  obtain ⟨x, _, rfl | rfl | rfl | rfl | rfl | rfl | rfl⟩ := hu <;> rfl
/-- One effect's cells. -/
def Ec (w : World) (b o : Nat) (x : Ev) : Prop := w.cell? ⟨b, o, none⟩ = some (.int .i64 x.k) ∧ w.cell? ⟨b, o + 1, none⟩ = some (.int .u32 (x.f : Int)) ∧ w.cell? ⟨b, o + 2, none⟩ = some (.int .u8 (x.m : Int)) ∧ w.cell? ⟨b, o + 3, none⟩ = some (.int .u8 (x.t : Int)) ∧ w.cell? ⟨b, o + 4, none⟩ = some (.slice x.a x.l.length x.c) ∧ w.cell? ⟨b, o + 5, none⟩ = some (.int .i64 x.n) ∧ w.cell? ⟨b, o + 6, none⟩ = some (.bool x.ok)
theorem Ec.stays {w w' : World} {F : List Nat} {b o : Nat} {x : Ev} (h : Ec w b o x) (hs : Stp [] w F w') : Ec w' b o x :=
  ⟨hs.keepsAny h.1, hs.keepsAny h.2.1, hs.keepsAny h.2.2.1, hs.keepsAny h.2.2.2.1, hs.keepsAny h.2.2.2.2.1, hs.keepsAny h.2.2.2.2.2.1, hs.keepsAny h.2.2.2.2.2.2⟩
/-- The data of one. -/
def Ed (w : World) (x : Ev) : Prop := Bts w x.a x.l ∧ x.l.length ≤ x.c ∧ (x.a = none → x.c = 0)
theorem Ed.stays {w w' : World} {F : List Nat} {x : Ev} (h : Ed w x) (hs : Stp [] w F w') : Ed w' x := ⟨h.1.stays hs, h.2⟩
/-- A slice of effects. -/
def Er (w : World) (a : Option Addr) (L : List Ev) : Prop := (∀ x ∈ L, Ed w x) ∧ (L ≠ [] → ∃ b off, a = some ⟨b, off, none⟩ ∧ ∀ (i : Nat) x, L[i]? = some x → Ec w b (off + i * 7) x)
theorem Er.stays {w w' : World} {F : List Nat} {a : Option Addr} {L : List Ev} (h : Er w a L) (hs : Stp [] w F w') : Er w' a L :=
  ⟨fun x hx => (h.1 x hx).stays hs, fun hl => by
    obtain ⟨b, off, e, hc⟩ := h.2 hl
    exact ⟨b, off, e, fun i x hx => (hc i x hx).stays hs⟩⟩
/-- A row of effects of the call's own. -/
def EOwn (w : World) (base : Nat) (v : Value) (L : List Ev) : Prop := w.ownsRow base 43 7 v L.length (evs L)
theorem EOwn.nil (w : World) (base : Nat) : EOwn w base (.slice none 0 0) [] := World.ownsRow_nil _ _ _ _
theorem EOwn.lt {w : World} {base : Nat} {v : Value} {L : List Ev} (h : EOwn w base v L) : ∀ k, v.ownBlock = some k → base ≤ k ∧ k < w.heap.size := World.ownsRow.lt h
theorem EOwn.other {w w' : World} {base : Nat} {v : Value} {L : List Ev} {G G' : List Nat} (h : EOwn w base v L) (hs : Stp G w G' w') (hG : ∀ k, v.ownBlock = some k → k ∉ G) : EOwn w' base v L := by
  refine ⟨h.1, ?_⟩
  rcases h.2 with hn | ⟨g, cap, cur, rfl, hb, hgg, rest⟩
  · exact .inl hn
  · exact .inr ⟨g, cap, cur, rfl, hb, (hs.block g (Array.getElem?_eq_some_iff.1 hgg).1 (hG g rfl)).trans hgg, rest⟩
theorem EOwn.er {w : World} {base : Nat} {v : Value} {L : List Ev} (h : EOwn w base v L) (hd : ∀ x ∈ L, Ed w x) : ∃ a cap, v = .slice a L.length cap ∧ Er w a L ∧ (a = none → cap = 0 ∧ L = []) ∧ L.length ≤ cap := by
  rcases h.2 with ⟨rfl, h0⟩ | ⟨g, cap, cur, rfl, hg, hh, hnc, hm, hcur, htake⟩
  · have : L = [] := List.length_eq_zero_iff.1 h0
    subst this
    exact ⟨none, 0, rfl, ⟨hd, fun h => absurd rfl h⟩, fun _ => ⟨rfl, rfl⟩, Nat.le_refl _⟩
  · refine ⟨some ⟨g, 0, none⟩, cap, rfl, ⟨hd, fun _ => ⟨g, 0, rfl, fun i x hx => ?_⟩⟩, (fun h => by cases h), hnc⟩
    have hc := World.ownsRow.cells h (g := g) rfl
    have key : ∀ j, j < 7 → ∀ u, (ev7 x)[j]? = some u → w.cell? ⟨g, 0 + i * 7 + j, none⟩ = some u := fun j hj u hu => by
      have := hc (i * 7 + j) u (by rw [evs_get L i x hx j hj]; exact hu)
      simp only [addr_add, Nat.zero_add] at this
      rw [Nat.zero_add]
      exact this
    exact ⟨key 0 (by omega) _ rfl, key 1 (by omega) _ rfl, key 2 (by omega) _ rfl, key 3 (by omega) _ rfl, key 4 (by omega) _ rfl, key 5 (by omega) _ rfl, key 6 (by omega) _ rfl⟩
theorem eff_parts : (Tryz.prog.info? 43).map (fun i => (i.zero, i.size, i.bytes)) = some (some (.agg #[.int .i64 0, .int .u32 0, .int .u8 0, .int .u8 0, .slice none 0 0, .int .i64 0, .bool false]), 7, 56) := by kernel_rfl
theorem run_appE {w : World} {base : Nat} {v : Value} {xs : List Ev} (ty : TypeId) (hown : EOwn w base v xs) {ad : Addr} {c : Nat} {l : List Ev} (hl : ∀ j u, (evs l)[j]? = some u → w.cell? (ad.add j) = some u)
    (h63 : xs.length + l.length ≤ 1000000) (hbase : base ≤ w.heap.size) :
    ∃ v' w', (Builtin.append_ #[22, 22] ty #[v, .slice (some ad) l.length c]).run Tryz.prog w = .ok v' w' ∧ EOwn w' base v' (xs ++ l) ∧ w.grownBy w' v.ownBlock := by
  obtain ⟨i0, hi0, hz0, hz1, hz2⟩ := info_parts eff_parts
  obtain ⟨v', w', hrun, h2, h3, _, h5⟩ := run_append_own_at (P := Tryz.prog) w base _ ty _ i0 _ 7 56 Tryz.underlying22 hi0 hz0 hz1 hz2 rfl (by omega) v _ _ hown ad l.length c (evs l) (evs_length l) hl
    (evs_one l) (by unfold maxLen; omega) (by omega) hbase
  refine ⟨v', w', hrun, ?_, h3⟩
  unfold EOwn
  rw [evs_app, List.length_append]
  exact h2
theorem wpList_appE {w : World} {ops : Array Oper} {rest : List Oper} {o : Oper} {a : Act} {Q : Exit → Act → World → Prop} (hgd : o.guard = none) (s x : Operand)
    (ho : o.op = .call { callee := .builtin .append, args := #[s, x], argTypes := #[22, 22] }) (base : Nat) (v : Value) (xs : List Ev) (hs : a.eval s = v) (hown : EOwn w base v xs)
    (ad : Addr) (c n : Nat) (l : List Ev) (hn : n = l.length) (hx : a.eval x = .slice (some ad) n c) (hl : ∀ j u, (evs l)[j]? = some u → w.cell? (ad.add j) = some u) (h63 : xs.length + l.length ≤ 1000000) (hbase : base ≤ w.heap.size)
    (h : ∀ v' w', EOwn w' base v' (xs ++ l) → w.grownBy w' v.ownBlock → wpList Tryz.prog ops Q rest (a.put o.dst v') w') : wpList Tryz.prog ops Q (o :: rest) a w := by
  subst hn
  refine wpList_plain hgd fun K hK => ?_
  obtain ⟨v', w', hrun, h2, h3⟩ := run_appE (c := c) o.type hown hl h63 hbase
  unfold Oper.wp execOp
  simp only [ho, resolve, invoke, builtin, Sem.run_bind, Sem.run_pure, Result.andThen_ok, List.map_toArray, List.map_cons, List.map_nil, hs, hx, hrun]
  exact hK _ _ (h v' w' h2 h3)
end Go.Proofs.YthfiilhbgogoaaaGreatDoor
