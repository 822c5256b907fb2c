/-
  Pop, Peek and Before at a queue, as a list in order.
-/
import Derived.Test.YtjjaaahoophgpaaOps
namespace Go.Proofs.Ytjjaaahoophgpaa
open Go.RowKit Go.Lib
set_option linter.unusedVariables false

variable {W : World} {F : List Nat} {b t : Nat} {s : List Ent}
theorem Qs.first {x : Ent} (h : Qs W F b (x :: s) t) : ∃ g cap, W.cell? ⟨b, 0, none⟩ = some (.slice (some ⟨g, 0, none⟩) (s.length + 1) cap) ∧ W.cell? ⟨g, 0, none⟩ = some (.float .f64 x.m.v) ∧
    W.cell? ⟨g, 1, none⟩ = some (.int .i64 x.n) ∧ W.cell? ⟨g, 2, none⟩ = some (.int .i64 (x.t : Int)) ∧ g < W.heap.size ∧ b < W.heap.size := by
  obtain ⟨v, l, h1, h2, h3, h4, _⟩ := h
  have hl : l.length = s.length + 1 := h3.length_eq
  have hx := head_of h2 h3 h4
  rcases h1.row.form with ⟨_, e⟩ | ⟨g, cap, rfl, hg⟩
  · rw [e] at hl; simp at hl
  · have c0 := h1.row.c0 (i := 0) (by omega)
    have c1 := h1.row.c1 (i := 0) (by omega)
    have c2 := h1.row.c2 (i := 0) (by omega)
    rw [hx] at c0 c1 c2
    simp only [Nat.zero_mul, Nat.zero_add] at c0 c1 c2
    exact ⟨g, cap, by rw [h1.c0, hl], c0, c1, c2, hg, h1.lt⟩

theorem qpop_nil (W : World) : Calls Try.prog 16 #[.pointer none] W (Gives (.tuple #[.float .f64 0, .int .i64 0, .int .i64 1]) W) := by
  have K := Lib.hid (lacks_nil W)
  go_enter Try.func16, Try.ntmps16
  go_wp2_with fail
  refine K.out.mono ?_
  rintro _ _ ⟨rfl, rfl⟩
  go_wp2
  go_returns
  exact ⟨rfl, rfl⟩
theorem qpeek_nil (W : World) : Calls Try.prog 15 #[.pointer none] W (Gives (.tuple #[.float .f64 0, .int .i64 0, .int .i64 1]) W) := by
  have K := Lib.hid (lacks_nil W)
  go_enter Try.func15, Try.ntmps15
  go_wp2_with fail
  refine K.out.mono ?_
  rintro _ _ ⟨rfl, rfl⟩
  go_wp2
  go_returns
  exact ⟨rfl, rfl⟩
theorem qpop_none (h : Qs W F b [] t) : Calls Try.prog 16 #[.pointer (some ⟨b, 0, none⟩)] W (Gives (.tuple #[.float .f64 0, .int .i64 0, .int .i64 6]) W) := by
  have K := Lib.hid (lacks_none h)
  clear h
  go_enter Try.func16, Try.ntmps16
  go_wp2_with fail
  refine K.out.mono ?_
  rintro _ _ ⟨rfl, rfl⟩
  go_wp2
  go_returns
  exact ⟨rfl, rfl⟩
theorem qpeek_none (h : Qs W F b [] t) : Calls Try.prog 15 #[.pointer (some ⟨b, 0, none⟩)] W (Gives (.tuple #[.float .f64 0, .int .i64 0, .int .i64 6]) W) := by
  have K := Lib.hid (lacks_none h)
  clear h
  go_enter Try.func15, Try.ntmps15
  go_wp2_with fail
  refine K.out.mono ?_
  rintro _ _ ⟨rfl, rfl⟩
  go_wp2
  go_returns
  exact ⟨rfl, rfl⟩
theorem qpeek_run {x : Ent} (h : Qs W F b (x :: s) t) (hl : s.length < 100000) : Calls Try.prog 15 #[.pointer (some ⟨b, 0, none⟩)] W
    fun e w' => e = .returned (.tuple #[.float .f64 x.m.v, .int .i64 x.n, .int .i64 0]) ∧ Qs w' F b (x :: s) t ∧ Stp F W F w' := by
  have K := Lib.hid (lacks_some h hl)
  obtain ⟨g, cap, hc, c0, c1, c2, hg, hb⟩ := h.first
  have H := Lib.hid h
  have e1 : (0 : Int) < (s.length : Int) + 1 := by omega
  have hst := store_float
  clear h
  go_enter Try.func15, Try.ntmps15
  go_wp2_with fail
  refine K.out.mono ?_
  rintro _ _ ⟨rfl, rfl⟩
  clear K
  go_wp2_with fail
  go_quiet (fail)
  go_wp2
  go_returns
  exact ⟨rfl, H.out.stays ((Stp.alloc [] _ _).trans (Stp.drewN [] _ _)), (Stp.alloc F _ _).trans (Stp.drewN F _ _)⟩
theorem qpop_run {x : Ent} (h : Qs W F b (x :: s) t) (hl : s.length < 100000) : Calls Try.prog 16 #[.pointer (some ⟨b, 0, none⟩)] W
    fun e w' => e = .returned (.tuple #[.float .f64 x.m.v, .int .i64 x.n, .int .i64 0]) ∧ Qs w' F b s t ∧ Stp F W F w' := by
  have K := Lib.hid (lacks_some h hl)
  have K2 := Lib.hid (take_run h hl)
  have hst := store_float
  clear h
  go_enter Try.func16, Try.ntmps16
  go_wp2_with fail
  refine K.out.mono ?_
  rintro _ _ ⟨rfl, rfl⟩
  clear K
  go_wp2_with fail
  refine K2.out.mono ?_
  rintro _ w1 ⟨rfl, q1, s1⟩
  have H1 := Lib.hid (And.intro q1 s1)
  clear K2 q1 s1
  go_wp2_with fail
  go_quiet (fail)
  go_wp2
  go_returns
  exact ⟨rfl, H1.out.1.stays ((Stp.alloc [] _ _).trans (Stp.drewN [] _ _)), H1.out.2.trans ((Stp.alloc F _ _).trans (Stp.drewN F _ _))⟩

/-! ### Rows of numbers -/
theorem int_info : (Try.prog.info? 3).map (fun i => (i.zero, i.size, i.bytes)) = some (some (.int .i64 0), 1, 8) := by kernel_rfl
def OwnI (w : World) (base : Nat) (v : Value) (l : List Int) : Prop := w.ownsRow base 3 1 v l.length (l.map (Value.int .i64))
theorem OwnI.form {w : World} {base : Nat} {v : Value} {l : List Int} (h : OwnI w base v l) : (v = .slice none 0 0 ∧ l = []) ∨ ∃ g cap, v = .slice (some ⟨g, 0, none⟩) l.length cap ∧ base ≤ g ∧ g < w.heap.size := by
  rcases h.2 with ⟨h1, h0⟩ | ⟨g, cap, cur, hv, hb, hh, _⟩
  · exact .inl ⟨h1, List.length_eq_zero_iff.1 h0⟩
  · exact .inr ⟨g, cap, hv, hb, (Array.getElem?_eq_some_iff.1 hh).1⟩
theorem OwnI.slice {w : World} {base : Nat} {v : Value} {l : List Int} (h : OwnI w base v l) : ∃ a cap, v = .slice a l.length cap := by
  rcases h.form with ⟨rfl, rfl⟩ | ⟨g, cap, rfl, _⟩
  · exact ⟨none, 0, rfl⟩
  · exact ⟨_, cap, rfl⟩
theorem OwnI.cell {w : World} {base : Nat} {a : Option Addr} {n cap : Nat} {l : List Int} (h : OwnI w base (.slice a n cap) l) {i : Nat} (hi : i < l.length) : n = l.length ∧ ∃ g, a = some ⟨g, 0, none⟩ ∧ w.cell? ⟨g, i, none⟩ = some (.int .i64 (l[i]!)) := by
  rcases h.form with ⟨_, rfl⟩ | ⟨g, cap', e, _⟩
  · simp at hi
  · cases e
    refine ⟨rfl, g, rfl, ?_⟩
    have := World.ownsRow.cellAt h i (by omega)
    rw [this, List.getElem?_map, List.getElem?_eq_getElem hi, getElem!_pos l i hi]
    rfl
theorem OwnI.kept {w w' : World} {base : Nat} {v : Value} {l : List Int} {G G' : List Nat} (h : OwnI w base v l) (hs : Stp G w G' w') (hG : ∀ k ∈ G, k < base) : OwnI w' base v l := by
  refine ⟨h.1, ?_⟩
  rcases h.2 with hn | ⟨g, cap, cur, rfl, hb, hgg, rest⟩
  · exact .inl hn
  · exact .inr ⟨g, cap, cur, rfl, hb, (hs.block g (Array.getElem?_eq_some_iff.1 hgg).1 (fun e => by have := hG g e; omega)).trans hgg, rest⟩
theorem OwnI.other {w w' : World} {base : Nat} {v : Value} {l : List Int} {G G' : List Nat} (h : OwnI w base v l) (hs : Stp G w G' w') (hG : ∀ k, v.ownBlock = some k → k ∉ G) : OwnI w' base v l := by
  refine ⟨h.1, ?_⟩
  rcases h.2 with hn | ⟨g, cap, cur, rfl, hb, hgg, rest⟩
  · exact .inl hn
  · exact .inr ⟨g, cap, cur, rfl, hb, (hs.block g (Array.getElem?_eq_some_iff.1 hgg).1 (hG g rfl)).trans hgg, rest⟩
theorem OwnI.mono {w : World} {base base' : Nat} {v : Value} {l : List Int} (h : OwnI w base v l) (hb : base' ≤ base) : OwnI w base' v l := by
  refine ⟨h.1, ?_⟩
  rcases h.2 with hn | ⟨g, cap, cur, rfl, hg, rest⟩
  · exact .inl hn
  · exact .inr ⟨g, cap, cur, rfl, by omega, rest⟩

theorem run_appI {w : World} {base : Nat} {v : Value} {xs : List Int} (ty : TypeId) (hown : OwnI w base v xs) {ad : Addr} {c : Nat} {l : List Int} (hc : ∀ j u, (l.map (Value.int .i64))[j]? = some u → w.cell? (ad.add j) = some u)
    (h63 : xs.length + l.length ≤ 1000000) (hbase : base ≤ w.heap.size) :
    ∃ v' w', (Builtin.append_ #[45, 45] ty #[v, .slice (some ad) l.length c]).run Try.prog w = .ok v' w' ∧ OwnI w' base v' (xs ++ l) ∧ w.grownBy w' v.ownBlock := by
  obtain ⟨i0, hi0, hz0, hz1, hz2⟩ := info_parts int_info
  obtain ⟨v', w', hrun, h2, h3, _, h5⟩ := run_append_own_at (P := Try.prog) w base _ ty _ i0 _ 1 8 Try.underlying45 hi0 hz0 hz1 hz2 rfl (by omega) v _ _ hown ad l.length c (l.map (Value.int .i64)) (by simp) hc
    (by intro u hu; simp only [List.mem_map] at hu; obtain ⟨x, _, rfl⟩ := hu; rfl) (by unfold maxLen; omega) (by omega) hbase
  refine ⟨v', w', hrun, ?_, h3⟩
  unfold OwnI
  rw [List.map_append, List.length_append]
  exact h2
theorem wpList_appI {w : World} {ops : Array Oper} {rest : List Oper} {o : Oper} {a : Act} {Q : Exit → Act → World → Prop} (hgd : o.guard = none) (s x : Operand)
    (ho : o.op = .call { callee := .builtin .append, args := #[s, x], argTypes := #[45, 45] }) (base : Nat) (v : Value) (xs : List Int) (hs : a.eval s = v) (hown : OwnI w base v xs)
    (ad : Addr) (c : Nat) (l : List Int) (n : Nat) (hn : n = l.length) (hx : a.eval x = .slice (some ad) n c) (hc : ∀ j u, (l.map (Value.int .i64))[j]? = some u → w.cell? (ad.add j) = some u) (h63 : xs.length + l.length ≤ 1000000) (hbase : base ≤ w.heap.size)
    (h : ∀ v' w', OwnI w' base v' (xs ++ l) → w.grownBy w' v.ownBlock → wpList Try.prog ops Q rest (a.put o.dst v') w') : wpList Try.prog ops Q (o :: rest) a w := by
  subst hn
  refine wpList_plain hgd fun K hK => ?_
  obtain ⟨v', w', hrun, h2, h3⟩ := run_appI (c := c) o.type hown hc h63 hbase
  unfold Oper.wp execOp
  simp only [ho, resolve, invoke, builtin, Sem.run_bind, Sem.run_pure, Result.andThen_ok, List.map_toArray, List.map_cons, List.map_nil, hs, hx, hrun]
  exact hK _ _ (h v' w' h2 h3)

/-! ### Before -/
/-- What comes ahead of a moment, or at it. -/
def upTo (m : Mo) (s : List Ent) : List Ent := s.takeWhile fun x => decide (x.m.key ≤ m.key)
def beyond (m : Mo) (s : List Ent) : List Ent := s.dropWhile fun x => decide (x.m.key ≤ m.key)
theorem upTo_of {m : Mo} : ∀ {s p r : List Ent}, s = p ++ r → (∀ x ∈ p, x.m.key ≤ m.key) → (r = [] ∨ ∃ x r', r = x :: r' ∧ ¬ x.m.key ≤ m.key) → upTo m s = p ∧ beyond m s = r
  | _, [], r, rfl, _, h => by
    rcases h with rfl | ⟨x, r', rfl, h⟩
    · exact ⟨rfl, rfl⟩
    · simp [upTo, beyond, h]
  | _, y :: p, r, rfl, hp, h => by
    have ih := upTo_of (s := p ++ r) rfl (fun x hx => hp x (List.mem_cons_of_mem _ hx)) h
    have hy := hp y List.mem_cons_self
    simp only [upTo, beyond] at ih ⊢
    simp [hy, ih]
theorem before_nil (W : World) (a : Nat) : Calls Try.prog 19 #[.pointer none, .float .f64 a] W (Gives (.slice none 0 0) W) := by
  go_enter Try.func19, Try.ntmps19
  go_wp2
  go_rounds 1
  go_ret
  exact ⟨rfl, rfl⟩

theorem field_n (a b c : Value) (w : World) : (Instr.field 66 (.agg #[a, b, c]) 1).run Try.prog w = .ok b w := by kernel_rfl
theorem app_step {w1 w2 : World} {o : Obj} {v v2 : Value} {p r : List Ent} {x : Ent} (h : OwnI w1 W.heap.size v (p.map Ent.n) ∧ Qs w1 F b r t ∧ Stp F W F w1) (hF : ∀ k ∈ F, k < W.heap.size)
    (ho : OwnI w2 W.heap.size v2 (p.map Ent.n ++ [x.n])) (hg : (w1.alloc o).grownBy w2 v.ownBlock) : OwnI w2 W.heap.size v2 ((p ++ [x]).map Ent.n) ∧ Qs w2 F b r t ∧ Stp F W F w2 := by
  have hb : ∀ k, v.ownBlock = some k → W.heap.size ≤ k := fun k e => (World.ownsRow.lt h.1 k e).1
  have hsz := h.2.2.size
  have hs2 := hg.size
  rw [World.size_alloc] at hs2
  have st : ∀ k, k < W.heap.size → w2.heap[k]? = w1.heap[k]? := fun k hk => by
    rw [hg.block k (by rw [World.size_alloc]; omega) (fun e => by have := hb k e.symm; omega)]
    exact Below.heap_alloc w1 o k (by omega)
  refine ⟨by simpa using ho, ?_, ?_⟩
  · obtain ⟨v', l', q, h2⟩ := h.2.1
    refine ⟨v', l', ⟨(st b (hF b q.foot)).trans q.obj, ?_, q.foot, q.foot2, fun k hk => by have := hF k hk; omega⟩, h2⟩
    refine ⟨q.row.1, ?_⟩
    rcases q.row.2 with hn | ⟨g, cap, cur, rfl, hb, hgg, rest⟩
    · exact .inl hn
    · exact .inr ⟨g, cap, cur, rfl, hb, (st g (hF g (q.foot2 g rfl).1)).trans hgg, rest⟩
  · refine ⟨hg.os.trans h.2.2.os, hg.tape.trans h.2.2.tape, hg.output.trans h.2.2.output, by omega, fun k hk hn => (st k hk).trans (h.2.2.block k hk hn), h.2.2.foot⟩
def Befored (W : World) (F : List Nat) (b : Nat) (s : List Ent) (t : Nat) (m : Mo) (e : Ending) (w' : World) : Prop :=
  ∃ v, e = .returned v ∧ OwnI w' W.heap.size v ((upTo m s).map Ent.n) ∧ Qs w' F b (beyond m s) t ∧ Stp F W F w'
theorem before_run (h : Qs W F b s t) (hl : s.length < 100000) (m : Mo) : Calls Try.prog 19 #[.pointer (some ⟨b, 0, none⟩), .float .f64 m.v] W (Befored W F b s t m) := by
  have S0 := Lib.hid h
  clear h
  go_enter Try.func19, Try.ntmps19
  go_wp2
  go_loopg [5] s.length (fun gk v5 wr => ∃ r : List Ent, r.length ≤ gk ∧ Aside (∃ p, s = p ++ r ∧ (∀ x ∈ p, x.m.key ≤ m.key) ∧ OwnI wr W.heap.size v5 (p.map Ent.n) ∧ Qs wr F b r t ∧ Stp F W F wr))
  case atStart => exact ⟨s, Nat.le_refl _, [], rfl, (fun x h => by cases h), World.ownsRow_nil _ _ _ _, S0.out, Stp.refl _ _⟩
  case round =>
    obtain ⟨r, hg, HS⟩ := hrel
    obtain ⟨p, HS⟩ : ∃ p, Aside (s = p ++ r ∧ (∀ x ∈ p, x.m.key ≤ m.key) ∧ OwnI wr W.heap.size u5 (p.map Ent.n) ∧ Qs wr F b r t ∧ Stp F W F wr) := HS.out
    have KL := Lib.hid (qlen_run HS.out.2.2.2.1)
    cases r with
    | nil =>
      go_wp2_with fail
      refine KL.out.mono ?_
      rintro _ _ ⟨rfl, rfl⟩
      clear KL
      go_wp2
      go_ret
      obtain ⟨h1, h2, h3, h4, h5⟩ := HS.out
      obtain ⟨e1, e2⟩ := upTo_of h1 h2 (.inl rfl)
      exact ⟨_, rfl, by rw [e1]; exact h3, by rw [e2]; exact h4, h5⟩
    | cons x r =>
      have hrl : r.length < 100000 := by
        have := congrArg List.length HS.out.1
        simp only [List.length_append, List.length_cons] at this
        omega
      obtain ⟨g, cap, hc, c0, c1, c2, hgl, hb⟩ := HS.out.2.2.2.1.first
      have e1 : (0 : Int) < (r.length : Int) + 1 := by omega
      have e2 : decide ((r.length : Int) + 1 > 0) = true := decide_eq_true (by omega)
      have KC := Lib.hid (compare_any x.m.v m.v x.m.lt m.lt wr)
      by_cases hle : x.m.key ≤ m.key
      · have v1 : cmpN x.m.v m.v ≤ 0 := cmpN_le.2 hle
        have KT := Lib.hid (take_run HS.out.2.2.2.1 hrl)
        have HL : Aside (x.m.key ≤ m.key) := hle
        clear hle
        go_wp2_with fail
        refine KL.out.mono ?_
        rintro _ _ ⟨rfl, rfl⟩
        clear KL
        go_wp2_with fail
        refine KC.out.mono ?_
        rintro _ _ ⟨rfl, rfl⟩
        clear KC
        go_wp2_with fail
        refine KT.out.mono ?_
        rintro _ w1 ⟨rfl, q1, s1⟩
        have hF : Aside (∀ k ∈ F, k < W.heap.size) := S0.out.old
        have H1 : Aside (OwnI w1 W.heap.size u5 (p.map Ent.n) ∧ Qs w1 F b r t ∧ Stp F W F w1) := ⟨HS.out.2.2.1.kept s1 hF.out, q1, HS.out.2.2.2.2.trans s1⟩
        have hsz := H1.out.2.2.size
        clear KT q1 s1 c0 c1 c2 hc
        have hfn := field_n (.float .f64 x.m.v) (.int .i64 x.n) (.int .i64 (x.t : Int))
        go_wp2_with (first
          | (at_builtin
             refine wpList_appI rfl (.tmp 21) (.tmp 25) rfl W.heap.size u5 (p.map Ent.n) rfl (World.ownsRow.alloc H1.out.1 _) ⟨w1.heap.size, 0, none⟩ 1 [x.n] 1 rfl rfl (cell_one_new w1 _ _) (by have := congrArg List.length HS.out.1; simp at this ⊢; omega) (by rw [World.size_alloc]; omega) ?_
             intro v2 w2 hown2 hg2
             have H2 : Aside (OwnI w2 W.heap.size v2 ((p ++ [x]).map Ent.n) ∧ Qs w2 F b r t ∧ Stp F W F w2) := app_step H1.out hF.out hown2 hg2
             clear hown2 hg2 H1))
        go_roundg r.length
        case measure => simp at hg; omega
        case rel =>
          refine ⟨r, Nat.le_refl _, p ++ [x], by rw [HS.out.1]; simp, fun y hy => ?_, H2.out⟩
          rcases List.mem_append.1 hy with e | e
          · exact HS.out.2.1 y e
          · simp only [List.mem_singleton] at e
            rw [e]
            exact HL.out
      · have v1 : ¬ cmpN x.m.v m.v ≤ 0 := fun e => hle (cmpN_le.1 e)
        have HL : Aside (¬ x.m.key ≤ m.key) := hle
        clear hle
        go_wp2_with fail
        refine KL.out.mono ?_
        rintro _ _ ⟨rfl, rfl⟩
        clear KL
        go_wp2_with fail
        refine KC.out.mono ?_
        rintro _ _ ⟨rfl, rfl⟩
        clear KC
        go_wp2
        go_ret
        obtain ⟨h1, h2, h3, h4, h5⟩ := HS.out
        obtain ⟨e1, e2⟩ := upTo_of h1 h2 (.inr ⟨x, r, rfl, HL.out⟩)
        exact ⟨_, rfl, by rw [e1]; exact h3, by rw [e2]; exact h4, h5⟩
end Go.Proofs.Ytjjaaahoophgpaa
