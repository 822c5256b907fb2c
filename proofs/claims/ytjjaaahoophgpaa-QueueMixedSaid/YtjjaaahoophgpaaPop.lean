/-
  The one that comes first taken: (*entries).Pop, container/heap.Pop.
-/
import Derived.Test.YtjjaaahoophgpaaPush
namespace Go.Proofs.Ytjjaaahoophgpaa
open Go.RowKit Go.Lib
set_option linter.unusedVariables false

variable {W : World} {F : List Nat} {b t : Nat} {v : Value} {l : List Ent}
theorem Rw.cap {g n cap : Nat} (h : Rw W (.slice (some ⟨g, 0, none⟩) n cap) l) : n ≤ cap := by
  rcases h.2 with ⟨h1, h0⟩ | ⟨g, cap, cur, hv, hg, hh, hc, _⟩
  · cases h1
  · cases hv; exact hc
theorem cellsE_take (l : List Ent) : ∀ m, (cellsE l).take (m * 3) = cellsE (l.take m) := by
  induction l with
  | nil => intro m; simp [cellsE]
  | cons x s ih =>
    intro m
    cases m with
    | zero => simp [cellsE]
    | succ m =>
      have := ih m
      have e : cellsE (x :: s) = .float .f64 x.m.v :: .int .i64 x.n :: .int .i64 (x.t : Int) :: cellsE s := by simp [cellsE, encE]
      rw [e, show (m + 1) * 3 = m * 3 + 1 + 1 + 1 by omega]
      simp only [List.take_succ_cons]
      rw [this]
      simp [cellsE, encE]
theorem Rw.take {g n m cap : Nat} (h : Rw W (.slice (some ⟨g, 0, none⟩) n cap) l) (hm : m ≤ n) : Rw W (.slice (some ⟨g, 0, none⟩) m cap) (l.take m) := by
  have hn := h.len
  have hml : (l.take m).length = m := by rw [List.length_take]; omega
  refine ⟨by rw [cellsE_length], ?_⟩
  rcases h.2 with ⟨h1, h0⟩ | ⟨g, cap, cur, hv, hg, hh, hc, hm', hs, ht⟩
  · cases h1
  · cases hv
    refine .inr ⟨_, _, cur, by rw [hml], hg, hh, by omega, hm', hs, ?_⟩
    rw [hml, ← cellsE_take, ← ht, List.take_take, Nat.min_eq_left (Nat.mul_le_mul_right 3 (by omega))]
theorem Rw.alloc {v : Value} (h : Rw W v l) (o : Obj) : Rw (W.alloc o) v l := World.ownsRow.alloc h o
theorem Qu.popped {g n cap : Nat} (h : Qu W F b (.slice (some ⟨g, 0, none⟩) (n + 1) cap) l t) (o : Obj) (z : Ent) :
    Qu (((W.setCells g (n * 3) (encE z)).setCell ⟨b, 0, none⟩ (.slice (some ⟨g, 0, none⟩) n cap)).alloc o) F b (.slice (some ⟨g, 0, none⟩) n cap) (l.take n) t ∧ Stp F W F (((W.setCells g (n * 3) (encE z)).setCell ⟨b, 0, none⟩ (.slice (some ⟨g, 0, none⟩) n cap)).alloc o) := by
  obtain ⟨r1, g1⟩ := h.row.set (i := n) (by omega) z
  have hF := h.foot2 g rfl
  have hb := h.lt
  have s1 : Stp F W F (W.setCells g (n * 3) (encE z)) := Stp.grown g1 (fun k e => by simp only [Option.some.injEq] at e; subst e; exact hF.1) (fun _ h => .inl h)
  have q : Qu ((W.setCells g (n * 3) (encE z)).setCell ⟨b, 0, none⟩ (.slice (some ⟨g, 0, none⟩) n cap)) F b (.slice (some ⟨g, 0, none⟩) n cap) (l.take n) t := by
    refine h.slice ?_ ?_ h.foot (fun k e => ?_) (fun k hk => Nat.lt_of_lt_of_le (h.old k hk) s1.size)
    · rw [g1.block b hb (fun e => hF.2 (by simpa using e.symm))]
    · have := (r1.take (m := n) (by omega))
      rwa [List.take_set_of_le (Nat.le_refl _)] at this
    · simp only [Value.ownBlock, Option.some.injEq] at e
      subst e
      exact hF
  exact ⟨q.stays _ (Stp.alloc [] _ o), (s1.trans (Stp.setCell _ _ h.foot)).trans (Stp.alloc F _ o)⟩
set_option maxRecDepth 100000 in
set_option maxHeartbeats 3200000 in
theorem epop_run {g n cap : Nat} (h : Qu W F b (.slice (some ⟨g, 0, none⟩) (n + 1) cap) l t) (hn : n < 1000000) :
    Calls Try.prog 58 #[.pointer (some ⟨b, 0, none⟩)] W
      fun e w' => e = .returned (.iface 66 (.agg #[.float .f64 (l[n]!).m.v, .int .i64 (l[n]!).n, .int .i64 ((l[n]!).t : Int)])) ∧ Qu w' F b (.slice (some ⟨g, 0, none⟩) n cap) (l.take n) t ∧ Stp F W F w' := by
  have hc := h.c0
  have hbl := h.lt
  have hfz := h.f0 0
  have hgl : g < W.heap.size := h.old g (h.foot2 g rfl).1
  have hgb : ¬ g = b := (h.foot2 g rfl).2
  have hbg : ¬ b = g := fun e => hgb e.symm
  have n1 : ¬ b = W.heap.size := by omega
  have n2 : ¬ g = W.heap.size := by omega
  have n3 : ¬ W.heap.size = b := by omega
  have n4 : ¬ W.heap.size = g := by omega
  have A0 := h.row.c0 (i := n) (by omega)
  have A1 := h.row.c1 (i := n) (by omega)
  have A2 := h.row.c2 (i := n) (by omega)
  have FA := h.row.there (i := n) (by omega)
  have FA0 := (FA 0 (by omega)).2
  have FA1 := (FA 1 (by omega)).2
  have FA2 := (FA 2 (by omega)).2
  rw [Nat.add_zero] at FA0
  have e1 : ((n + 1 : Nat) : Int) - 1 = (n : Int) := by omega
  have e2 : IntKind.i64.wrap (n : Int) = (n : Int) := by rw [IntKind.wrap_i64]; omega
  have hcap : n ≤ cap := by have := h.row.cap; omega
  have hcap0 : ¬ cap = 0 := by have := h.row.cap; omega
  have H := Lib.hid h
  clear h FA
  have hst := store_float
  generalize l[n]! = x at *
  go_enter Try.func58, Try.ntmps58
  go_wp2
  go_ret
  refine ⟨rfl, ?_⟩
  exact H.out.popped _ default

set_option maxHeartbeats 1000000 in
theorem heap_pop {n : Nat} (h : Qu W F b v l t) (hH : Heap l.length (rkl l)) (hl : l.length = n + 1) (hn : n < 100000) (x : Ent) (hx : l[0]! = x) :
    Calls Try.prog 33 #[.iface 64 (.pointer (some ⟨b, 0, none⟩))] W
      fun e w' => e = .returned (.iface 66 (.agg #[.float .f64 x.m.v, .int .i64 x.n, .int .i64 (x.t : Int)])) ∧ ∃ v' l', Qu w' F b v' l' t ∧ Stp F W F w' ∧ Heap l'.length (rkl l') ∧ (x :: l').Perm l := by
  rcases h.row.form with ⟨_, e⟩ | ⟨g, cap, e, hg⟩
  · rw [e] at hl; simp at hl
  rw [hl] at e
  subst e
  have M1 := method_len h.c0
  have K1 := Lib.hid (len_run (some ⟨g, 0, none⟩) (n + 1) cap W)
  have M2 := method_swap h.c0
  have K2 := Lib.hid (swap_any W g (n + 1) cap l h.row 0 n (by omega) (by omega) (by omega))
  have H := Lib.hid (And.intro h (And.intro hH hl))
  have HX : Aside (l[0]! = x) := hx
  clear h hH hl hx
  have e1 : ((n + 1 : Nat) : Int) - 1 = (n : Int) := by omega
  have e2 : IntKind.i64.wrap (n : Int) = (n : Int) := by rw [IntKind.wrap_i64]; omega
  go_enter Try.func33, Try.ntmps33
  go_wp2_with fail
  refine K1.out.mono ?_
  rintro _ w1 ⟨rfl, rfl⟩
  clear K1 M1
  go_wp2_with fail
  refine K2.out.mono ?_
  rintro _ w2 ⟨rfl, r2, g2⟩
  have hp2 : Hp w1 b g cap (n + 1) (sw l 0 n) w2 := (H.out.1.hp rfl).next r2 g2
  have hd : DownOk n (rkl (sw l 0 n)) 0 := by
    have hl := H.out.2.2
    refine DownOk.of_heap H.out.2.1 n (by omega) (fun k h0 hk => ?_)
    unfold rkl
    rw [sw_at l (by omega) (by omega) (by omega), if_neg (by omega), if_neg (by omega)]
  have K3 := Lib.hid (down_run w1 w2 b g cap (n + 1) n (sw l 0 n) hp2 (by omega) (by omega) hd)
  clear K2 M2 r2 g2 hp2 hd
  go_wp2_with fail
  refine K3.out.mono ?_
  rintro _ w3 ⟨r, rfl, l', h3, hh3, hp3, ht3⟩
  have H3 := Lib.hid (And.intro h3 (And.intro hh3 (And.intro hp3 ht3)))
  have K4 := Lib.hid (epop_run (H.out.1.of_hp rfl h3).1 (by omega))
  have M4 := method_pop b w3
  clear K3 h3 hh3 hp3 ht3
  have HF : Aside (l'[n]! = x ∧ (x :: l'.take n).Perm l ∧ Heap n (rkl (l'.take n)) ∧ (l'.take n).length = n) := by
    obtain ⟨h3, hh3, hp3, ht3⟩ := H3.out
    have hl := H.out.2.2
    have hl' : l'.length = n + 1 := h3.row.len.symm
    have e : l'[n]! = x := by
      rw [ht3 n (Nat.le_refl _), sw_at l (by omega) (by omega) (by omega), if_pos rfl]
      exact HX.out
    refine ⟨e, ?_, ?_, by rw [List.length_take]; omega⟩
    · rw [← e]
      have e' : l' = l'.take n ++ [l'[n]!] := by
        rw [getElem!_pos l' n (by omega), List.take_append_getElem]
        rw [List.take_of_length_le (by omega)]
      have p1 : (l'[n]! :: l'.take n).Perm l' := by
        conv => rhs; rw [e']
        exact (List.perm_append_singleton _ _).symm
      exact p1.trans (hp3.trans (sw_perm l (by omega) (by omega)))
    · intro c h0 hc
      have := hh3 c h0 hc
      unfold rkl at this ⊢
      rw [getElem!_pos _ c (by rw [List.length_take]; omega), getElem!_pos _ ((c - 1) / 2) (by rw [List.length_take]; omega), List.getElem_take, List.getElem_take]
      rw [getElem!_pos l' c (by omega), getElem!_pos l' ((c - 1) / 2) (by omega)] at this
      exact this
  rw [HF.out.1] at K4
  go_wp2_with fail
  refine K4.out.mono ?_
  rintro _ w4 ⟨rfl, h4, s4⟩
  have H4 := Lib.hid (And.intro h4 s4)
  clear K4 M4 h4 s4
  go_wp2
  go_ret
  refine ⟨rfl, _, _, H4.out.1, (H.out.1.of_hp rfl H3.out.1).2.trans H4.out.2, ?_, HF.out.2.1⟩
  rw [HF.out.2.2.2]
  exact HF.out.2.2.1
end Go.Proofs.Ytjjaaahoophgpaa
