/-
  Rows of keys of the call's own.
-/
import Derived.Test.YthffjcacdcipeaaDoorDec
namespace Go.Proofs.YthffjcacdcipeaaDoor
open Go.RowKit Go.Lib
set_option linter.unusedVariables false

/-- The two cells of each. -/
def kcs (L : List Ky) : List Value := L.flatMap (fun x => [.int .i64 x.1, .int .i64 x.2])
theorem kcs_length (L : List Ky) : (kcs L).length = L.length * 2 := by
  induction L with
  | nil => rfl
  | cons a L ih =>
    have e : kcs (a :: L) = .int .i64 a.1 :: .int .i64 a.2 :: kcs L := rfl
    rw [e, List.length_cons, List.length_cons, ih, List.length_cons]
    omega
theorem kcs_app (L M : List Ky) : kcs (L ++ M) = kcs L ++ kcs M := by simp [kcs]
theorem kcs_get (L : List Ky) {i : Nat} (h : i < L.length) : (kcs L)[i * 2]? = some (.int .i64 (L[i]).1) ∧ (kcs L)[i * 2 + 1]? = some (.int .i64 (L[i]).2) := by
  induction L generalizing i with
  | nil => simp at h
  | cons a L ih =>
    have e : kcs (a :: L) = .int .i64 a.1 :: .int .i64 a.2 :: kcs L := rfl
    rcases i with _ | i
    · exact ⟨rfl, rfl⟩
    · have := ih (i := i) (by simpa using h)
      rw [e, show (i + 1) * 2 = i * 2 + 2 by omega]
      exact this
/-- The cells at an address, as far as they go, are these keys'. -/
def Kts (w : World) (a : Option Addr) (L : List Ky) : Prop := L ≠ [] → ∃ gg off, a = some ⟨gg, off, none⟩ ∧ ∀ i (hi : i < L.length), w.cell? ⟨gg, off + i * 2, none⟩ = some (.int .i64 (L[i]).1) ∧ w.cell? ⟨gg, off + i * 2 + 1, none⟩ = some (.int .i64 (L[i]).2)
theorem Kts.nil (w : World) (a : Option Addr) : Kts w a [] := fun h => absurd rfl h
theorem Kts.blk {w : World} {a : Option Addr} {L : List Ky} (h : Kts w a L) (hl : L ≠ []) : ∃ b off, a = some ⟨b, off, none⟩ ∧ b < w.heap.size := by
  obtain ⟨b, off, h1, h2⟩ := h hl
  exact ⟨b, off, h1, block_lt_of_cell (h2 0 (List.length_pos_iff.2 hl)).1⟩
theorem Kts.other {w w' : World} {a : Option Addr} {L : List Ky} {F F' : List Nat} (h : Kts w a L) (hs : Stp F w F' w') (hF : L ≠ [] → ∀ ad, a = some ad → ad.block ∉ F) : Kts w' a L := fun hl => by
  obtain ⟨b, off, h1, h2⟩ := h hl
  have hb : b < w.heap.size := block_lt_of_cell (h2 0 (List.length_pos_iff.2 hl)).1
  have hn := hF hl ⟨b, off, none⟩ h1
  exact ⟨b, off, h1, fun i hi => ⟨(hs.cell (a := ⟨b, off + i * 2, none⟩) hb hn).trans (h2 i hi).1, (hs.cell (a := ⟨b, off + i * 2 + 1, none⟩) hb hn).trans (h2 i hi).2⟩⟩
theorem Kts.stays {w w' : World} {a : Option Addr} {L : List Ky} {F : List Nat} (h : Kts w a L) (hs : Stp [] w F w') : Kts w' a L := h.other hs (fun _ _ _ g => by cases g)
theorem Kts.cells {w : World} {ad : Addr} {L : List Ky} (h : Kts w (some ad) L) : ∀ j u, (kcs L)[j]? = some u → w.cell? (ad.add j) = some u := by
  intro j u hu
  have hj : j < L.length * 2 := by rw [← kcs_length]; exact (List.getElem?_eq_some_iff.1 hu).1
  have hne : L ≠ [] := by intro e; subst e; simp at hj
  obtain ⟨gg, off, e, hc⟩ := h hne
  cases e
  rw [addr_add]
  rcases Nat.mod_two_eq_zero_or_one j with e | e
  · obtain ⟨i, rfl⟩ : ∃ i, j = i * 2 := ⟨j / 2, by omega⟩
    rw [(kcs_get L (by omega)).1] at hu
    rw [(hc i (by omega)).1]
    exact hu
  · obtain ⟨i, rfl⟩ : ∃ i, j = i * 2 + 1 := ⟨j / 2, by omega⟩
    rw [(kcs_get L (by omega)).2] at hu
    rw [← Nat.add_assoc, (hc i (by omega)).2]
    exact hu
/-- A row of keys that the call itself has made from block number 'base' on. -/
def KOwn (w : World) (base : Nat) (v : Value) (L : List Ky) : Prop := w.ownsRow base 41 2 v L.length (kcs L)
theorem KOwn.nil (w : World) (base : Nat) : KOwn w base (.slice none 0 0) [] := World.ownsRow_nil _ _ _ _
theorem KOwn.mono {w : World} {base base' : Nat} {v : Value} {L : List Ky} (h : KOwn w base v L) (hb : base' ≤ base) : KOwn w base' v L := by
  refine ⟨h.1, ?_⟩
  rcases h.2 with hn | ⟨g, cap, cur, rfl, hg, rest⟩
  · exact .inl hn
  · exact .inr ⟨g, cap, cur, rfl, by omega, rest⟩
theorem KOwn.lt {w : World} {base : Nat} {v : Value} {L : List Ky} (h : KOwn w base v L) : ∀ k, v.ownBlock = some k → base ≤ k ∧ k < w.heap.size := World.ownsRow.lt h
theorem KOwn.other {w w' : World} {base : Nat} {v : Value} {L : List Ky} {G G' : List Nat} (h : KOwn w base v L) (hs : Stp G w G' w') (hG : ∀ k, v.ownBlock = some k → k ∉ G) : KOwn w' base v L := by
  refine ⟨h.1, ?_⟩
  rcases h.2 with hn | ⟨g, cap, cur, rfl, hb, hgg, rest⟩
  · exact .inl hn
  · exact .inr ⟨g, cap, cur, rfl, hb, (hs.block g (Array.getElem?_eq_some_iff.1 hgg).1 (hG g rfl)).trans hgg, rest⟩
theorem KOwn.stays {w w' : World} {base : Nat} {v : Value} {L : List Ky} {G' : List Nat} (h : KOwn w base v L) (hs : Stp [] w G' w') : KOwn w' base v L := h.other hs (fun _ _ g => by cases g)
theorem KOwn.form {w : World} {base : Nat} {v : Value} {L : List Ky} (h : KOwn w base v L) : ∃ a cap, v = .slice a L.length cap ∧ Kts w a L ∧ (a = none → cap = 0) ∧ L.length ≤ cap ∧ ∀ ad, a = some ad → base ≤ ad.block ∧ ad.block < w.heap.size := by
  rcases h.2 with ⟨rfl, h0⟩ | ⟨g, cap, cur, rfl, hg, hh, hnc, hm, hcur, htake⟩
  · have : L = [] := List.length_eq_zero_iff.1 h0
    subst this
    exact ⟨none, 0, rfl, Kts.nil _ _, fun _ => rfl, Nat.le_refl _, fun ad h => by cases h⟩
  · refine ⟨some ⟨g, 0, none⟩, cap, rfl, fun _ => ⟨g, 0, rfl, fun i hi => ?_⟩, (fun h => by cases h), hnc, fun ad h => by cases h; exact ⟨hg, (Array.getElem?_eq_some_iff.1 hh).1⟩⟩
    have hc := World.ownsRow.cells h (g := g) rfl
    have h1 := hc (i * 2) _ (kcs_get L hi).1
    have h2 := hc (i * 2 + 1) _ (kcs_get L hi).2
    simp only [addr_add, Nat.zero_add] at h1 h2
    rw [Nat.zero_add]
    exact ⟨h1, h2⟩
theorem key_row : (Tryd.prog.info? 41).map (fun i => (i.zero, i.size, i.bytes)) = some (some (.agg #[.int .i64 0, .int .i64 0]), 2, 16) := by kernel_rfl
theorem kcs_one (L : List Ky) : ∀ v ∈ kcs L, v.oneCell' = true := by
  intro u hu
  simp only [kcs, List.mem_flatMap, List.mem_cons, List.not_mem_nil, or_false] at hu
  obtain ⟨x, _, rfl | rfl⟩ := hu <;> rfl
theorem run_appK {w : World} {base : Nat} {v : Value} {xs : List Ky} (ty : TypeId) (hown : KOwn w base v xs) {A : Option Addr} {c : Nat} {l : List Ky} (hl : Kts w A l) (hA : A = none → c = 0)
    (h63 : xs.length + l.length ≤ 1000000) (hbase : base ≤ w.heap.size) :
    ∃ v' w', (Builtin.append_ #[30, 30] ty #[v, .slice A l.length c]).run Tryd.prog w = .ok v' w' ∧ KOwn w' base v' (xs ++ l) ∧ w.grownBy w' v.ownBlock := by
  obtain ⟨i0, hi0, hz0, hz1, hz2⟩ := info_parts key_row
  rcases A with _ | ad
  · obtain rfl := hA rfl
    have : l = [] := by
      rcases Classical.em (l = []) with e | e
      · exact e
      · obtain ⟨b, off, h, _⟩ := hl e
        cases h
    subst this
    refine ⟨v, w, run_append_owned_none (P := Tryd.prog) (w := w) base _ ty _ i0 2 Tryd.underlying30 hi0 v _ _ hown, ?_, World.grownBy.refl w _⟩
    simpa using hown
  · obtain ⟨v', w', hrun, h2, h3, _, h5⟩ := run_append_own_at (P := Tryd.prog) w base _ ty _ i0 _ 2 16 Tryd.underlying30 hi0 hz0 hz1 hz2 rfl (by omega) v _ _ hown ad l.length c (kcs l) (kcs_length l) hl.cells
      (kcs_one l) (by unfold maxLen; omega) (by omega) hbase
    refine ⟨v', w', hrun, ?_, h3⟩
    unfold KOwn
    rw [kcs_app, List.length_append]
    exact h2
theorem wpList_appK {w : World} {ops : Array Oper} {rest : List Oper} {o : Oper} {a : Act} {Q : Exit → Act → World → Prop} (hgd : o.guard = none) (s x : Operand)
    (ho : o.op = .call { callee := .builtin .append, args := #[s, x], argTypes := #[30, 30] }) (base : Nat) (v : Value) (xs : List Ky) (hs : a.eval s = v) (hown : KOwn w base v xs)
    (A : Option Addr) (c n : Nat) (l : List Ky) (hn : n = l.length) (hx : a.eval x = .slice A n c) (hl : Kts w A l) (hA : A = none → c = 0) (h63 : xs.length + l.length ≤ 1000000) (hbase : base ≤ w.heap.size)
    (h : ∀ v' w', KOwn w' base v' (xs ++ l) → w.grownBy w' v.ownBlock → wpList Tryd.prog ops Q rest (a.put o.dst v') w') : wpList Tryd.prog ops Q (o :: rest) a w := by
  subst hn
  refine wpList_plain hgd fun K hK => ?_
  obtain ⟨v', w', hrun, h2, h3⟩ := run_appK (c := c) o.type hown hl hA h63 hbase
  unfold Oper.wp execOp
  simp only [ho, resolve, invoke, builtin, Sem.run_bind, Sem.run_pure, Result.andThen_ok, List.map_toArray, List.map_cons, List.map_nil, hs, hx, hrun]
  exact hK _ _ (h v' w' h2 h3)
/-- One key in a block of its own. -/
theorem key_new (w : World) (x : Ky) : Kts (w.alloc (.cells #[.int .i64 x.1, .int .i64 x.2] 41)) (some ⟨w.heap.size, 0, none⟩) [x] := fun _ => by
  refine ⟨w.heap.size, 0, rfl, fun i hi => ?_⟩
  obtain rfl : i = 0 := by simpa using hi
  obtain ⟨c0, c1, _, _⟩ := (At2.new w x.1 x.2).cells
  exact ⟨c0, c1⟩
theorem grown_stp {W W' : World} {row : Option Nat} {F F' : List Nat} (hg : W.grownBy W' row) (hF : ∀ k, row = some k → k ∈ F) (hF' : ∀ k ∈ F', k ∈ F) : Stp F W F' W' :=
  ⟨hg.os, hg.tape, hg.output, hg.size, fun k hk h => hg.block k hk (fun e => h (hF k e.symm)), fun k hk => .inl (hF' k hk)⟩
/-- An append to a row that is new since W0. -/
theorem Stp.grew {W0 W W' : World} {F : List Nat} {row : Option Nat} (h : Stp F W0 F W) (hg : W.grownBy W' row) (hr : ∀ k, row = some k → W0.heap.size ≤ k) : Stp F W0 F W' :=
  ⟨hg.os.trans h.os, hg.tape.trans h.tape, hg.output.trans h.output, Nat.le_trans h.size hg.size, fun k hk hF => (hg.block k (Nat.lt_of_lt_of_le hk h.size) (fun e => by have := hr k e.symm; omega)).trans (h.block k hk hF), fun k hk => .inl hk⟩
theorem Dc.grew {W W' : World} {d b g N : Nat} {l : List UInt8} {p : Bool} {row : Option Nat} (h : Dc W d b g N l p) (hg : W.grownBy W' row) (hr : ∀ k, row = some k → k ≠ d ∧ k ≠ b ∧ k ≠ g) : Dc W' d b g N l p := by
  have hs : Stp row.toList W row.toList W' := grown_stp hg (fun k e => by simp [e]) (fun k hk => hk)
  have hk : ∀ k, k ∈ row.toList → k ≠ d ∧ k ≠ b ∧ k ≠ g := fun k hk => hr k (by simpa using hk)
  exact h.other hs (fun e => (hk d e).1 rfl) (fun e => (hk b e).2.1 rfl) (fun e => (hk g e).2.2 rfl)
end Go.Proofs.YthffjcacdcipeaaDoor
