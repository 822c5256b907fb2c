/-
  What the package variables hold while a call runs; rows of texts of the call's own; the text of flags.
-/
import Derived.Test.YthfiilhbgogoaaaGreatDoorHex
import Derived.Test.YthfiilhbgogoaaaGreatDoorPar
namespace Go.Proofs.YthfiilhbgogoaaaGreatDoor
open Go.RowKit Go.Lib
set_option linter.unusedVariables false

/-- The tables and errors of the library, and the names. -/
structure Tabs (w : World) : Prop where
  pow : Lib.TabIs Tryz.prog w "internal/strconv.uint64pow10" .u64 Lib.pow10Tab
  tz : w.cell? ⟨8, 15, none⟩ = some (.int .u8 4)
  syn : ∃ t p, w.cell? ⟨3, 0, none⟩ = some (.iface t p)
  rng : ∃ t p, w.cell? ⟨4, 0, none⟩ = some (.iface t p)
  nam : ∀ i, i < 7 → w.cell? ⟨1, 2 * i, none⟩ = some (.int .u32 (2 ^ i)) ∧ w.cell? ⟨1, 2 * i + 1, none⟩ = some (.string (st (nm i)))
theorem gPow : Tryz.prog.globalNamed "internal/strconv.uint64pow10" = some 2 := by kernel_rfl
theorem Stp.keeps {F F' : List Nat} {w w' : World} (h : Stp F w F' w') (hF : F = []) {a : Addr} {v : Value} (hc : w.cell? a = some v) : w'.cell? a = some v := by
  subst hF
  exact (h.cell (block_lt_of_cell hc) (by simp)).trans hc
theorem Tabs.stays {w w' : World} {F : List Nat} (h : Tabs w) (hs : Stp [] w F w') : Tabs w' := by
  refine ⟨?_, hs.keeps rfl h.tz, ?_, ?_, fun i hi => ⟨hs.keeps rfl (h.nam i hi).1, hs.keeps rfl (h.nam i hi).2⟩⟩
  · exact Go.Joins.tab_stays gPow h.pow (hs.below (B := w.heap.size) (by simp) (Nat.le_refl _)) (Nat.le_refl _)
  · obtain ⟨t, p, e⟩ := h.syn
    exact ⟨t, p, hs.keeps rfl e⟩
  · obtain ⟨t, p, e⟩ := h.rng
    exact ⟨t, p, hs.keeps rfl e⟩

/-! ### Rows of texts of the call's own -/
def SOwn (w : World) (base : Nat) (v : Value) (l : List (List UInt8)) : Prop := w.ownsRow base 9 1 v l.length (l.map fun x => Value.string (st x))
theorem SOwn.nil (w : World) (base : Nat) : SOwn w base (.slice none 0 0) [] := World.ownsRow_nil _ _ _ _
theorem SOwn.lt {w : World} {base : Nat} {v : Value} {l : List (List UInt8)} (h : SOwn w base v l) : ∀ k, v.ownBlock = some k → base ≤ k ∧ k < w.heap.size := World.ownsRow.lt h
theorem SOwn.other {w w' : World} {base : Nat} {v : Value} {l : List (List UInt8)} {G G' : List Nat} (h : SOwn w base v l) (hs : Stp G w G' w') (hG : ∀ k, v.ownBlock = some k → k ∉ G) : SOwn w' base v l := by
  refine ⟨h.1, ?_⟩
  rcases h.2 with hn | ⟨g, cap, cur, rfl, hb, hgg, rest⟩
  · exact .inl hn
  · exact .inr ⟨g, cap, cur, rfl, hb, (hs.block g (Array.getElem?_eq_some_iff.1 hgg).1 (hG g rfl)).trans hgg, rest⟩
theorem SOwn.stays {w w' : World} {base : Nat} {v : Value} {l : List (List UInt8)} {G' : List Nat} (h : SOwn w base v l) (hs : Stp [] w G' w') : SOwn w' base v l := h.other hs (fun _ _ => by simp)
/-- The row's form. -/
theorem SOwn.form {w : World} {base : Nat} {v : Value} {l : List (List UInt8)} (h : SOwn w base v l) : ∃ a cap, v = .slice a l.length cap ∧ (a = none → cap = 0 ∧ l = []) ∧ l.length ≤ cap ∧ cap ≤ maxLen ∧
    ∀ ad, a = some ad → ∃ g, ad = ⟨g, 0, none⟩ ∧ base ≤ g ∧ g < w.heap.size ∧ ∀ j x, l[j]? = some x → w.cell? ⟨g, j, none⟩ = some (.string (st x)) := by
  rcases h.2 with ⟨rfl, h0⟩ | ⟨g, cap, cur, rfl, hg, hh, hnc, hm, hcur, htake⟩
  · refine ⟨none, 0, by rw [h0], fun _ => ⟨rfl, List.length_eq_zero_iff.1 h0⟩, by omega, by simp [maxLen], fun ad h => by cases h⟩
  · refine ⟨some ⟨g, 0, none⟩, cap, rfl, (fun h => by cases h), hnc, hm, fun ad h => ?_⟩
    cases h
    refine ⟨g, rfl, hg, (Array.getElem?_eq_some_iff.1 hh).1, fun j x hx => ?_⟩
    rw [cell_of_row w g j cur _ _ hh]
    have hj : j < l.length := (List.getElem?_eq_some_iff.1 hx).1
    have h2 := congrArg (·[j]?) htake
    simp only [Nat.mul_one, List.getElem?_take, hj, if_true, List.getElem?_map, hx, Option.map_some] at h2
    rw [← Array.getElem?_toList, h2]
theorem str_info : (Tryz.prog.info? 9).map (fun i => (i.zero, i.size, i.bytes)) = some (some (.string ⟨#[]⟩), 1, 16) := by kernel_rfl
theorem map_str_one (l : List (List UInt8)) : ∀ v ∈ l.map (fun x => Value.string (st x)), v.oneCell' = true := by
  intro u hu
  simp only [List.mem_map] at hu
  obtain ⟨x, _, rfl⟩ := hu
  rfl
theorem run_appS {w : World} {base : Nat} {v : Value} {xs : List (List UInt8)} (ty : TypeId) (hown : SOwn w base v xs) {ad : Addr} {c : Nat} {l : List (List UInt8)} (hl : ∀ j u, (l.map fun x => Value.string (st x))[j]? = some u → w.cell? (ad.add j) = some u)
    (h63 : xs.length + l.length ≤ 1000000) (hbase : base ≤ w.heap.size) :
    ∃ v' w', (Builtin.append_ #[66, 66] ty #[v, .slice (some ad) l.length c]).run Tryz.prog w = .ok v' w' ∧ SOwn w' base v' (xs ++ l) ∧ w.grownBy w' v.ownBlock ∧ (v'.ownBlock = v.ownBlock ∨ v'.ownBlock = some w.heap.size) := by
  obtain ⟨i0, hi0, hz0, hz1, hz2⟩ := info_parts str_info
  obtain ⟨v', w', hrun, h2, h3, _, h5⟩ := run_append_own_at (P := Tryz.prog) w base _ ty _ i0 _ 1 16 Tryz.underlying66 hi0 hz0 hz1 hz2 rfl (by omega) v _ _ hown ad l.length c (l.map fun x => Value.string (st x)) (by simp) hl
    (map_str_one l) (by unfold maxLen; omega) (by omega) hbase
  refine ⟨v', w', hrun, ?_, h3, h5⟩
  unfold SOwn
  rw [List.map_append, List.length_append]
  exact h2
theorem wpList_appS {w : World} {ops : Array Oper} {rest : List Oper} {o : Oper} {a : Act} {Q : Exit → Act → World → Prop} (hgd : o.guard = none) (s x : Operand)
    (ho : o.op = .call { callee := .builtin .append, args := #[s, x], argTypes := #[66, 66] }) (base : Nat) (v : Value) (xs : List (List UInt8)) (hs : a.eval s = v) (hown : SOwn w base v xs)
    (ad : Addr) (c n : Nat) (l : List (List UInt8)) (hn : n = l.length) (hx : a.eval x = .slice (some ad) n c) (hl : ∀ j u, (l.map fun x => Value.string (st x))[j]? = some u → w.cell? (ad.add j) = some u) (h63 : xs.length + l.length ≤ 1000000) (hbase : base ≤ w.heap.size)
    (h : ∀ v' w', SOwn w' base v' (xs ++ l) → w.grownBy w' v.ownBlock → (v'.ownBlock = v.ownBlock ∨ v'.ownBlock = some w.heap.size) → wpList Tryz.prog ops Q rest (a.put o.dst v') w') : wpList Tryz.prog ops Q (o :: rest) a w := by
  subst hn
  refine wpList_plain hgd fun K hK => ?_
  obtain ⟨v', w', hrun, h2, h3, h4⟩ := run_appS (c := c) o.type hown hl h63 hbase
  unfold Oper.wp execOp
  simp only [ho, resolve, invoke, builtin, Sem.run_bind, Sem.run_pure, Result.andThen_ok, List.map_toArray, List.map_cons, List.map_nil, hs, hx, hrun]
  exact hK _ _ (h v' w' h2 h3 h4)
theorem Stp.of_grown {W W' : World} {row : Option Nat} (hg : W.grownBy W' row) {F F' : List Nat} (hF : ∀ k, row = some k → k ∈ F) (hF' : ∀ k ∈ F', k ∈ F ∨ W.heap.size ≤ k) : Stp F W F' W' :=
  ⟨hg.os, hg.tape, hg.output, hg.size, fun k hk h => hg.block k hk (fun e => h (hF k e.symm)), hF'⟩
/-- What appending to a row of the call's own leaves of what was there. -/
theorem SOwn.grown {w W W' : World} {base : Nat} {v : Value} {l : List (List UInt8)} (h : SOwn W base v l) (hb : w.heap.size ≤ base) (hs : Stp [] w [] W) (hg : W.grownBy W' v.ownBlock) : Stp [] w [] W' :=
  (hs.fresh (G := v.ownBlock.toList) (Stp.of_grown hg (fun k e => by simp [e]) (fun k hk => .inl hk)) (fun i hi => by
    have e : v.ownBlock = some i := by simpa using hi
    have := (h.lt i e).1
    omega)).none
theorem one_str (w : World) (s : ByteArray) (l : List UInt8) (hs : s = st l) : ∀ (j : Nat) (u : Value), ([l].map fun x => Value.string (st x))[j]? = some u → (w.alloc (.cells #[.string s] 9)).cell? ((⟨w.heap.size, 0, none⟩ : Addr).add j) = some u := fun j u hj => by
  subst hs
  rcases j with _ | j
  · simp only [List.map_cons, List.map_nil, List.getElem?_cons_zero, Option.some.injEq] at hj
    rw [← hj, addr_add, cell_of_row _ w.heap.size _ _ _ _ (heap_alloc_new w _)]
    rfl
  · simp at hj

set_option maxHeartbeats 1000000 in
set_option maxRecDepth 100000 in
theorem joined_run (bk c : Nat) (xs : List (List UInt8)) (sep : List UInt8) (w : World) (hcells : ∀ (j : Nat) x, xs[j]? = some x → w.cell? ⟨bk, j, none⟩ = some (.string (st x))) (hbk : bk < w.heap.size) (hcap : xs.length ≤ c)
    (hN : xs.length ≤ 1000000) (hlen : (Lib.join xs sep).length ≤ 1000000000) : Calls Tryz.prog 65 #[.string (st sep), .slice (some ⟨bk, 0, none⟩) xs.length c] w (Tells (.string (st (Lib.join xs sep))) w) := by
  have K := join_run bk c xs sep w hcells hbk hcap hN hlen
  go_enter Tryz.func65, Tryz.ntmps65
  go_wp2_with (go_at_call 80; refine K.mono ?_; rintro _ w' ⟨rfl, hs⟩)
  go_ret
  exact ⟨rfl, hs⟩
set_option maxHeartbeats 1000000 in
set_option maxRecDepth 100000 in
theorem byte_run (n : Nat) (hn : n < 256) (w : World) (hT : Tabs w) : Calls Tryz.prog 67 #[.int .u8 (n : Int)] w (Tells (.string (st (dig 10 n))) w) := by
  have K := itoa_run n hn w hT.pow
  go_enter Tryz.func67, Tryz.ntmps67
  go_wp2_with (go_at_call 56; refine K.mono ?_; rintro _ w' ⟨rfl, hs⟩)
  go_ret
  exact ⟨rfl, hs⟩
end Go.Proofs.YthfiilhbgogoaaaGreatDoor
