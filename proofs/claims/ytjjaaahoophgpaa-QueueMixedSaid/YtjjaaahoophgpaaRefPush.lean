/-
  The document's Push at its list.
-/
import Derived.Test.YtjjaaahoophgpaaRefOps
import Derived.Deep.AppendLies
namespace Go.Proofs.Ytjjaaahoophgpaa
open Go.RowKit Go.Lib
set_option linter.unusedVariables false

variable {W : World} {F : List Nat} {b g off n cap : Nat} {v : Value} {l : List Ent}
theorem encO_one (x : Ent) : ∀ u ∈ encO x, u.oneCell' = true := by
  intro u hu
  simp only [encO, List.mem_cons, List.not_mem_nil, or_false] at hu
  rcases hu with rfl | rfl <;> rfl
theorem cellsO_snoc (l : List Ent) (x : Ent) : cellsO (l ++ [x]) = cellsO l ++ encO x := by simp [cellsO]
theorem Rr.alloc (h : Rr W v l) (o : Obj) : Rr (W.alloc o) v l := by
  rcases h with hn | ⟨g, off, cap, rfl, hr⟩
  · exact .inl hn
  · exact .inr ⟨g, off, cap, rfl, hr.kept (Below.heap_alloc W o g hr.lt)⟩
theorem run_appR {w : World} {N c : Nat} (ty : TypeId) (h : Rr w v l) (x : Ent) (hN : w.heap[N]? = some (.cells #[.float .f64 x.m.v, .int .i64 x.n] 41 (0, 0))) (hl : l.length < 100000) :
    ∃ g off cap w', (Builtin.append_ #[26, 26] ty #[v, .slice (some ⟨N, 0, none⟩) 1 c]).run Try.prog w = .ok (.slice (some ⟨g, off, none⟩) (l.length + 1) cap) w' ∧ Rg w' g off (l.length + 1) cap (l ++ [x]) ∧ w.grownBy w' v.ownBlock ∧ (v.ownBlock = some g ∨ w.heap.size ≤ g) := by
  obtain ⟨i0, hi0, hz0, hz1, hz2⟩ := info_parts one_info
  have hnews : ∀ j u, (encO x)[j]? = some u → w.cell? ((⟨N, 0, none⟩ : Addr).add j) = some u := World.news_of_block (cs := #[.float .f64 x.m.v, .int .i64 x.n]) hN
  have hlen : (l ++ [x]).length = l.length + 1 := by simp
  have hne : l ++ [x] ≠ [] := by simp
  rcases h with ⟨rfl, rfl⟩ | ⟨g, off, cap, rfl, hr⟩
  · obtain ⟨v', w', hrun, h2, h3, _, h5⟩ := run_append_own_at (P := Try.prog) w 0 _ ty _ i0 _ 2 16 Try.underlying26 hi0 hz0 hz1 hz2 rfl (by omega) _ 0 [] (World.ownsRow_nil _ _ _ _) ⟨N, 0, none⟩ 1 c (encO x) rfl hnews (encO_one x) (by unfold maxLen; omega) (by omega) (Nat.zero_le _)
    obtain ⟨g, cap, rfl, _, hr⟩ := Rg.of_own (l := [x]) (base := 0) (v := v') (by simpa [cellsO] using h2) (by simp)
    refine ⟨g, 0, cap, w', hrun, hr, h3, ?_⟩
    rcases h5 with e | e
    · cases e
    · exact .inr (Nat.le_of_eq (Option.some.inj e).symm)
  · by_cases hroom : l.length + 1 ≤ cap
    · obtain ⟨cur, h1, h2, h3⟩ := hr.row
      have hrun := run_append_room_cells (P := Try.prog) w 26 ty _ i0 Try.underlying26 hi0 g off l.length cap ⟨N, 0, none⟩ 1 c (encO x) (by rw [hz1]; rfl) hnews (encO_one x) hroom
        (fun j hj => by
          have hj' : j < 2 := hj
          rw [hz1, cell_of_row w g _ cur _ _ h1, Array.getElem?_eq_getElem (by omega)]
          rfl)
        (fun j hj => frozen_of_row w g _ cur _ h1)
      rw [hz1] at hrun
      obtain ⟨r1, g1⟩ := hr.more hroom x
      exact ⟨g, off, cap, _, hrun, r1, g1, .inl rfl⟩
    · obtain ⟨v', w', hrun, h2, h3⟩ := run_append_arg_grows (P := Try.prog) w 26 ty _ i0 _ 2 16 Try.underlying26 hi0 hz0 hz1 hz2 rfl (by omega) ⟨g, off, none⟩ l.length cap (cellsO l) (cellsO_length l)
        (fun j u hu => by
          rw [addr_add]
          have hj : j < l.length * 2 := by
            have := (List.getElem?_eq_some_iff.1 hu).1
            rw [cellsO_length] at this
            exact this
          have e1 : j = (j / 2) * 2 + j % 2 := by omega
          have hc := cellsO_at l (j / 2) (by omega) (j % 2) (by omega)
          rw [← e1, hu] at hc
          have hm : j % 2 = 0 ∨ j % 2 = 1 := by omega
          rcases hm with e | e
          · have := hr.c0 (i := j / 2) (by omega)
            rw [show off + j = off + j / 2 * 2 by omega, this]
            rw [e] at hc
            exact hc.symm
          · have := hr.c1 (i := j / 2) (by omega)
            rw [show off + j = off + j / 2 * 2 + 1 by omega, this]
            rw [e] at hc
            exact hc.symm)
        ⟨N, 0, none⟩ 1 c (encO x) rfl hnews (by omega) (by unfold maxLen; omega) (by omega)
      rw [← cellsO_snoc, ← hlen] at h2
      obtain ⟨g', cap', rfl, hb, hr'⟩ := Rg.of_own h2 hne
      rw [hlen] at hrun hr'
      exact ⟨g', 0, cap', w', hrun, hr', ⟨h3.os, h3.tape, h3.output, h3.size, fun k hk _ => h3.block k hk (by simp)⟩, .inr hb⟩
theorem wpList_appR {w : World} {ops : Array Oper} {rest : List Oper} {o : Oper} {a : Act} {Q : Exit → Act → World → Prop} (hgd : o.guard = none) (s y : Operand)
    (ho : o.op = .call { callee := .builtin .append, args := #[s, y], argTypes := #[26, 26] }) (v : Value) (l : List Ent) (hs : a.eval s = v) (hr : Rr w v l) (x : Ent) (N c : Nat) (hy : a.eval y = .slice (some ⟨N, 0, none⟩) 1 c)
    (hN : w.heap[N]? = some (.cells #[.float .f64 x.m.v, .int .i64 x.n] 41 (0, 0))) (hl : l.length < 100000)
    (h : ∀ g off cap w', Rg w' g off (l.length + 1) cap (l ++ [x]) → w.grownBy w' v.ownBlock → (v.ownBlock = some g ∨ w.heap.size ≤ g) → wpList Try.prog ops Q rest (a.put o.dst (.slice (some ⟨g, off, none⟩) (l.length + 1) cap)) w') : wpList Try.prog ops Q (o :: rest) a w := by
  refine wpList_plain hgd fun K hK => ?_
  obtain ⟨g, off, cap, w', hrun, h2, h3, h4⟩ := run_appR (c := c) o.type hr x hN hl
  unfold Oper.wp execOp
  simp only [ho, resolve, invoke, builtin, Sem.run_bind, Sem.run_pure, Result.andThen_ok, List.map_toArray, List.map_cons, List.map_nil, hs, hy, hrun]
  exact hK _ _ (h g off cap w' h2 h3 h4)
/-- What the append and the store of its slice leave. -/
theorem Mu.grew (h : Mu W F b v l) {o : Obj} {x : Ent} {gg off cap : Nat} {w1 : World} (hr : Rg w1 gg off (l.length + 1) cap (l ++ [x])) (hg : (W.alloc o).grownBy w1 v.ownBlock) (hat : v.ownBlock = some gg ∨ (W.alloc o).heap.size ≤ gg) :
    Mu (w1.setCell ⟨b, 0, none⟩ (.slice (some ⟨gg, off, none⟩) (l.length + 1) cap)) (gg :: F) b (.slice (some ⟨gg, off, none⟩) (l.length + 1) cap) (l ++ [x]) ∧
      Stp F W (gg :: F) (w1.setCell ⟨b, 0, none⟩ (.slice (some ⟨gg, off, none⟩) (l.length + 1) cap)) ∧ w1.cell? ⟨b, 0, none⟩ = some v ∧ w1.frozen? ⟨b, 0, none⟩ = false := by
  have hb := h.lt
  have hlt := hr.lt
  have hsz : W.heap.size + 1 ≤ w1.heap.size := by
    have := hg.size
    simpa using this
  have hbb : some b ≠ v.ownBlock := fun e => (h.foot2 b e.symm).2 rfl
  have hob : w1.heap[b]? = W.heap[b]? := by
    rw [hg.block b (by simp; omega) hbb]
    exact Below.heap_alloc W o b hb
  rw [World.size_alloc] at hat
  have hgf : gg ∈ F ∨ W.heap.size ≤ gg := by
    rcases hat with e | e
    · exact .inl (h.foot2 gg e).1
    · exact .inr (by omega)
  have hgb : gg ≠ b := by
    rcases hat with e | e
    · exact (h.foot2 gg e).2
    · omega
  refine ⟨h.lay hob (.inr ⟨gg, off, cap, by simp, by simpa using hr⟩) (List.mem_cons_of_mem _ h.foot) ?_ ?_, ?_, (World.cell?_of_block (a := ⟨b, 0, none⟩) hob).trans h.c0, (World.frozen?_of_block (a := ⟨b, 0, none⟩) hob).trans (h.f0 0)⟩
  · intro k e
    simp only [Value.ownBlock, Option.some.injEq] at e
    subst e
    exact ⟨List.mem_cons_self, hgb⟩
  · intro k hk
    rcases List.mem_cons.1 hk with e | e
    · omega
    · have := h.old k e
      omega
  · refine ⟨hg.os, hg.tape, hg.output, by rw [World.size_setCell]; omega, fun k hk hF => ?_, fun k hk => ?_⟩
    · rw [Below.heap_setCell _ _ _ _ (fun e => hF (by rw [e]; exact h.foot)), hg.block k (by simp; omega) (fun e => hF (h.foot2 k e.symm).1)]
      exact Below.heap_alloc W o k hk
    · rcases List.mem_cons.1 hk with e | e
      · subst e
        exact hgf
      · exact .inl e
theorem ins_split (x : Ent) : ∀ (A B : List Ent), (∀ y ∈ A, y.m.key ≤ x.m.key) → (∀ y ∈ B, x.m.key < y.m.key) → ins x (A ++ B) = A ++ x :: B
  | [], [], _, _ => rfl
  | [], y :: B, _, h => by
    have := h y List.mem_cons_self
    simp only [List.nil_append, ins]
    rw [if_neg (by omega)]
  | y :: A, B, h, h' => by
    simp only [List.cons_append, ins]
    rw [if_pos (h y List.mem_cons_self), ins_split x A B (fun z hz => h z (List.mem_cons_of_mem _ hz)) h']
/-- Ahead of one in order none is later. -/
theorem ordd_ahead {A B : List Ent} {y : Ent} (h : Ordd (A ++ y :: B)) : ∀ z ∈ A, z.m.key ≤ y.m.key := fun z hz =>
  key_le_of_rk ((List.pairwise_append.1 h).2.2 z hz y List.mem_cons_self)

theorem swap_list {A' B : List Ent} {x y : Ent} {p i : Nat} (hp : p = A'.length) (hi : p + 1 = i) : ((A' ++ [y] ++ x :: B).set i y).set p x = A' ++ x :: (y :: B) := by
  subst hp hi
  rw [show A' ++ [y] ++ x :: B = A' ++ (y :: x :: B) by simp, List.set_append_right _ _ (by omega), List.set_append_right _ _ (Nat.le_refl _)]
  simp
theorem Mu.of_rg {W' : World} {l' : List Ent} (h : Mu W F b (.slice (some ⟨g, off, none⟩) n cap) l) (hr : Rg W' g off n cap l') (hg : W.grownBy W' (some g)) : Mu W' F b (.slice (some ⟨g, off, none⟩) n cap) l' ∧ Stp F W F W' := by
  have hF := h.foot2 g rfl
  have e := hr.len
  refine ⟨⟨(hg.block b h.lt (fun e => hF.2 (Option.some.inj e).symm)).trans h.obj, .inr ⟨g, off, cap, by rw [e], by rw [e]; exact hr⟩, h.foot, h.foot2, fun k hk => Nat.lt_of_lt_of_le (h.old k hk) hg.size⟩, Stp.grown hg (fun k e => ?_) fun _ h => .inl h⟩
  rw [← Option.some.inj e]
  exact hF.1
set_option maxHeartbeats 4000000 in
set_option maxRecDepth 100000 in
theorem mpush_run (h : Mu W F b v l) (hl : l.length < 4096) (ho : Ordd l) (x : Ent) : Calls Try.prog 14 #[.pointer (some ⟨b, 0, none⟩), .float .f64 x.m.v, .int .i64 x.n] W
    fun e w' => e = .returned (.int .i64 0) ∧ ∃ F' v', Mu w' F' b v' (ins x l) ∧ Stp F W F' w' := by
  obtain ⟨a0, cap0, rfl⟩ := h.slice
  have hc := h.c0
  have hbl := h.lt
  have hfz := h.f0 0
  have hx : ¬ (4096 : Int) ≤ (l.length : Int) := by omega
  have H := Lib.hid (And.intro h ho)
  clear h ho
  have hst := store_float
  go_enter Try.func14, Try.ntmps14
  go_wp2_with (first
    | (at_builtin
       refine wpList_appR rfl (.tmp 19) (.tmp 23) rfl _ l rfl (H.out.1.row.alloc _) x W.heap.size 1 rfl (heap_alloc_new W _) (by omega) ?_
       intro g off cap w1 hr1 hg1 hat1
       have H1 : Aside _ := H.out.1.grew hr1 hg1 hat1
       have hc1 := H1.out.2.2.1
       have hf1 := H1.out.2.2.2
       clear hr1 hg1 hat1 hc hfz))
  have H2 : Aside (Mu (w1.setCell ⟨b, 0, none⟩ (.slice (some ⟨g, off, none⟩) (l.length + 1) cap)) (g :: F) b (.slice (some ⟨g, off, none⟩) (l.length + 1) cap) (l ++ [x]) ∧ Stp F W (g :: F) (w1.setCell ⟨b, 0, none⟩ (.slice (some ⟨g, off, none⟩) (l.length + 1) cap))) := ⟨H1.out.1, H1.out.2.1⟩
  generalize w1.setCell ⟨b, 0, none⟩ (.slice (some ⟨g, off, none⟩) (l.length + 1) cap) = w2 at *
  clear H1 hc1 hf1
  generalize hn : l.length = n at *
  have HN : Aside (l.length = n) := hn
  clear hn
  go_loopg [7] n (fun gk vi wr => ∃ i : Nat, vi = .int .i64 (i : Int) ∧ i ≤ n ∧ i ≤ gk ∧ Aside (∃ A B, l = A ++ B ∧ A.length = i ∧ (∀ y ∈ B, x.m.key < y.m.key) ∧ Mu wr (g :: F) b (.slice (some ⟨g, off, none⟩) (n + 1) cap) (A ++ x :: B) ∧ Stp F W (g :: F) wr))
  case atStart => exact ⟨n, rfl, Nat.le_refl _, Nat.le_refl _, l, [], by simp, HN.out, (fun y h => by cases h), H2.out.1, H2.out.2⟩
  case round =>
    clear H2
    obtain ⟨i, rfl, hi, hg, HS⟩ := hrel
    obtain ⟨A, B, HS⟩ : ∃ A B, Aside (l = A ++ B ∧ A.length = i ∧ (∀ y ∈ B, x.m.key < y.m.key) ∧ Mu wr (g :: F) b (.slice (some ⟨g, off, none⟩) (n + 1) cap) (A ++ x :: B) ∧ Stp F W (g :: F) wr) := HS.out
    by_cases h0 : i = 0
    · subst h0
      go_wp2_with fail
      go_quiet (fail)
      have HW : Aside (Mu (wr.drewN nq) (g :: F) b (.slice (some ⟨g, off, none⟩) (n + 1) cap) (ins x l) ∧ Stp F W (g :: F) (wr.drewN nq)) := by
        obtain ⟨e1, e2, e3, e4, e5⟩ := HS.out
        have hA : A = [] := List.length_eq_zero_iff.1 e2
        subst hA
        refine ⟨?_, e5.trans (Stp.drewN _ _ _)⟩
        have := ins_split x [] B (fun y h => by cases h) e3
        rw [e1, this]
        exact e4.stays (Stp.drewN [] _ _)
      generalize wr.drewN nq = w3 at *
      go_wp2
      go_ret
      exact ⟨rfl, _, _, HW.out⟩
    · obtain ⟨A', y, hA⟩ : ∃ A' y, A = A' ++ [y] := by
        have hne : A ≠ [] := fun e => h0 (by have := HS.out.2.1; rw [e] at this; exact this.symm)
        exact ⟨A.dropLast, A.getLast hne, (List.dropLast_concat_getLast hne).symm⟩
      subst hA
      obtain ⟨p, hp⟩ : ∃ p, p = A'.length := ⟨_, rfl⟩
      have hpi : p + 1 = i := by have := HS.out.2.1; simp at this; omega
      have HP : Aside (p = A'.length ∧ p + 1 = i) := ⟨hp, hpi⟩
      obtain ⟨g0, off0, cap1, ev, hr, hgl, hgb⟩ : ∃ g0 off0 cap1, Value.slice (some ⟨g, off, none⟩) (n + 1) cap = .slice (some ⟨g0, off0, none⟩) (n + 1) cap1 ∧ Rg wr g0 off0 (n + 1) cap1 (A' ++ [y] ++ x :: B) ∧ g0 < wr.heap.size ∧ g0 ≠ b := by
        rcases HS.out.2.2.2.1.row with ⟨e, _⟩ | ⟨g0, off0, cap1, e, hr⟩
        · cases e
        · have hln := hr.len
          have : (A' ++ [y] ++ x :: B).length = n + 1 := (Value.slice.inj e).2.1.symm
          rw [this] at hr e
          exact ⟨g0, off0, cap1, e, hr, hr.lt, (HS.out.2.2.2.1.foot2 g0 (by rw [e]; rfl)).2⟩
      cases ev
      have ex : (A' ++ [y] ++ x :: B)[i]! = x := by
        rw [show i = (A' ++ [y]).length by simp; omega]
        simp
      have ey : (A' ++ [y] ++ x :: B)[p]! = y := by
        rw [hp]
        simp
      have x0 := hr.c0 (i := i) (by omega)
      have x1 := hr.c1 (i := i) (by omega)
      have y0 := hr.c0 (i := p) (by omega)
      have y1 := hr.c1 (i := p) (by omega)
      rw [ex] at x0 x1
      rw [ey] at y0 y1
      have hc := HS.out.2.2.2.1.c0
      have hbl := HS.out.2.2.2.1.lt
      have CQ : ∀ q, Calls Try.prog 26 #[.float .f64 x.m.v, .float .f64 y.m.v] (wr.drewN q) fun e w' => e = .returned (.int .i64 (cmpN x.m.v y.m.v)) ∧ ∃ n, w' = wr.drewN n := fun q =>
        (refCompare_any x.m.v y.m.v x.m.lt y.m.lt (wr.drewN q)).mono fun e w' ⟨he, hw⟩ => ⟨he, q, hw⟩
      have g1 : decide ((i : Int) > 0) = true := decide_eq_true (by omega)
      have g2 : (0 : Int) < (i : Int) := by omega
      have g4 : decide (0 < i) = true := decide_eq_true (by omega)
      have g5 : 0 < i := by omega
      have g3 : (i : Int) < (n : Int) + 1 := by omega
      have p1 : (i : Int) - 1 = (p : Int) := by omega
      have p2 : IntKind.i64.wrap (p : Int) = (p : Int) := by rw [IntKind.wrap_i64]; omega
      have p3 : (p : Int) < (n : Int) + 1 := by omega
      clear ex ey hp hpi h0
      by_cases hlt : x.m.key < y.m.key
      · have v1 : decide (cmpN x.m.v y.m.v < 0) = true := decide_eq_true (cmpN_neg.2 hlt)
        have v2 : cmpN x.m.v y.m.v < 0 := cmpN_neg.2 hlt
        have HL : Aside (x.m.key < y.m.key) := hlt
        have HR : Aside (Rg wr g off (n + 1) cap (A' ++ [y] ++ x :: B)) := hr
        clear hlt hr
        go_wp2_with fail
        go_quiet (first | (go_at_call 26; exact CQ _))
        have HS3 : Aside (Mu (wr.drewN nq) (g :: F) b (.slice (some ⟨g, off, none⟩) (n + 1) cap) (A' ++ [y] ++ x :: B) ∧ Stp F W (g :: F) (wr.drewN nq)) := ⟨HS.out.2.2.2.1.stays (Stp.drewN [] _ _), HS.out.2.2.2.2.trans (Stp.drewN _ _ _)⟩
        have HS4 : Aside (l = A' ++ [y] ++ B ∧ ∀ z ∈ B, x.m.key < z.m.key) := ⟨HS.out.1, HS.out.2.2.1⟩
        have HR3 : Aside (Rg (wr.drewN nq) g off (n + 1) cap (A' ++ [y] ++ x :: B)) := HR.out.kept rfl
        rw [← World.cell?_drewN (n := nq)] at x0 x1 y0 y1 hc
        rw [← World.heap_drewN (n := nq)] at hgl hbl
        generalize wr.drewN nq = w3 at *
        have fx0 := HR3.out.fz (off + i * 2)
        have fx1 := HR3.out.fz (off + i * 2 + 1)
        have fy0 := HR3.out.fz (off + p * 2)
        have fy1 := HR3.out.fz (off + p * 2 + 1)
        have m0 : ¬ i = p := by have := HP.out.2; omega
        have m1 : ¬ i * 2 = p * 2 := by omega
        have m2 : ¬ i * 2 + 1 = p * 2 := by omega
        have m3 : ¬ p * 2 + 1 = i * 2 := by omega
        have m4 : ¬ off + i * 2 = off + p * 2 := by omega
        have m5 : ¬ off + i * 2 + 1 = off + p * 2 := by omega
        have m6 : ¬ off + p * 2 + 1 = off + i * 2 := by omega
        have m7 : ¬ off + i * 2 = off + p * 2 + 1 := by omega
        have m8 : ¬ off + p * 2 = off + i * 2 + 1 := by omega
        have m9 : ¬ off + p * 2 = off + i * 2 := by omega
        have k1 : ¬ b = w3.heap.size := by omega
        have k2 : ¬ g = w3.heap.size := by omega
        have k3 : ¬ w3.heap.size = b := by omega
        have k4 : ¬ w3.heap.size = g := by omega
        have k5 : ¬ b = g := fun e => hgb e.symm
        clear CQ HS HR
        go_wp2_with fail
        go_region
        all_goals
          go_wp2_with fail
          go_region
        all_goals
          have H5 : Aside (Mu (((w3.setCells g (off + i * 2) (encO y)).setCells g (off + p * 2) (encO x)).alloc (.cells #[.float .f64 x.m.v, .int .i64 x.n] 41)).drew.drew (g :: F) b (.slice (some ⟨g, off, none⟩) (n + 1) cap) (A' ++ x :: (y :: B)) ∧ Stp F W (g :: F) (((w3.setCells g (off + i * 2) (encO y)).setCells g (off + p * 2) (encO x)).alloc (.cells #[.float .f64 x.m.v, .int .i64 x.n] 41)).drew.drew) := by
            obtain ⟨r1, g1⟩ := HR3.out.set (i := i) (by omega) y
            obtain ⟨r2, g2⟩ := r1.set (i := p) (by omega) x
            rw [swap_list HP.out.1 HP.out.2] at r2
            obtain ⟨m1, s1⟩ := HS3.out.1.of_rg r2 (g1.trans g2)
            have d : ∀ w : World, Stp [] w [] w.drew := fun w => ⟨rfl, rfl, rfl, Nat.le_refl _, fun _ _ _ => rfl, fun _ h => .inl h⟩
            have d' : ∀ w : World, Stp (g :: F) w (g :: F) w.drew := fun w => ⟨rfl, rfl, rfl, Nat.le_refl _, fun _ _ _ => rfl, fun _ h => .inl h⟩
            exact ⟨((m1.stays (Stp.alloc [] _ _)).stays (d _)).stays (d _), (((HS3.out.2.trans s1).trans (Stp.alloc _ _ _)).trans (d' _)).trans (d' _)⟩
          change Exit.inBlock 1 _ _ _ (((w3.setCells g (off + i * 2) (encO y)).setCells g (off + p * 2) (encO x)).alloc (.cells #[.float .f64 x.m.v, .int .i64 x.n] 41)).drew.drew
          generalize (((w3.setCells g (off + i * 2) (encO y)).setCells g (off + p * 2) (encO x)).alloc (.cells #[.float .f64 x.m.v, .int .i64 x.n] 41)).drew.drew = w5 at *
          clear x0 x1 y0 y1 hc fx0 fx1 fy0 fy1
          go_wp2
          go_roundg p
          case measure => have := HP.out.2; omega
          case rel =>
            refine ⟨p, by go_num, by have := HP.out.2; omega, Nat.le_refl _, A', y :: B, by rw [HS4.out.1]; simp, HP.out.1.symm, fun z hz => ?_, H5.out⟩
            rcases List.mem_cons.1 hz with e | e
            · rw [e]; exact HL.out
            · exact HS4.out.2 z e
      · have v1 : decide (cmpN x.m.v y.m.v < 0) = false := decide_eq_false (fun e => hlt (cmpN_neg.1 e))
        have v2 : ¬ cmpN x.m.v y.m.v < 0 := fun e => hlt (cmpN_neg.1 e)
        have HL : Aside (¬ x.m.key < y.m.key) := hlt
        clear hlt hr
        go_wp2_with fail
        go_quiet (first | (go_at_call 26; exact CQ _))
        have HW : Aside (Mu (wr.drewN nq) (g :: F) b (.slice (some ⟨g, off, none⟩) (n + 1) cap) (ins x l) ∧ Stp F W (g :: F) (wr.drewN nq)) := by
          obtain ⟨e1, e2, e3, e4, e5⟩ := HS.out
          refine ⟨?_, e5.trans (Stp.drewN _ _ _)⟩
          have ho := H.out.2
          rw [e1, List.append_assoc] at ho
          have h1 := ordd_ahead (A := A') (y := y) (B := B) (by simpa using ho)
          have := ins_split x (A' ++ [y]) B (fun z hz => by
            have := HL.out
            rcases List.mem_append.1 hz with e | e
            · have := h1 z e; omega
            · simp only [List.mem_singleton] at e
              rw [e]; omega) e3
          rw [e1, this]
          exact e4.stays (Stp.drewN [] _ _)
        generalize wr.drewN nq = w3 at *
        clear x0 x1 y0 y1 hc CQ
        go_wp2
        go_ret
        exact ⟨rfl, _, _, HW.out⟩
end Go.Proofs.Ytjjaaahoophgpaa
