/-
  The queue as a list in order: New, Len, Push, Pop, Peek, Before at it.
-/
import Derived.Test.YtjjaaahoophgpaaPop
import Derived.StillTailTactics
namespace Go.Proofs.Ytjjaaahoophgpaa
open Go.RowKit Go.Lib
set_option linter.unusedVariables false

/-! ### Lists in order -/
def Ordd (s : List Ent) : Prop := s.Pairwise fun x y => x.rk < y.rk
/-- One laid behind all that are at its place, or ahead of it. -/
def ins (x : Ent) : List Ent → List Ent
  | [] => [x]
  | y :: s => if y.m.key ≤ x.m.key then y :: ins x s else x :: y :: s
theorem ins_perm (x : Ent) : ∀ s, (ins x s).Perm (x :: s)
  | [] => List.Perm.refl _
  | y :: s => by
    unfold ins
    split
    · exact ((ins_perm x s).cons y).trans (List.Perm.swap x y s)
    · exact List.Perm.refl _
theorem ins_length (x : Ent) (s : List Ent) : (ins x s).length = s.length + 1 := (ins_perm x s).length_eq
theorem rk_lt_of_key {x y : Ent} (h : x.m.key < y.m.key) : x.rk < y.rk := by
  unfold Ent.rk
  have := x.tl
  omega
theorem rk_lt_of_turn {x y : Ent} (h : x.m.key ≤ y.m.key) (ht : x.t < y.t) : x.rk < y.rk := by
  unfold Ent.rk
  have := x.tl
  have := y.tl
  omega
theorem key_le_of_rk {x y : Ent} (h : x.rk < y.rk) : x.m.key ≤ y.m.key := by
  unfold Ent.rk at h
  have := x.tl
  have := y.tl
  omega
theorem ins_ordd (x : Ent) : ∀ s, Ordd s → (∀ y ∈ s, y.t < x.t) → Ordd (ins x s)
  | [], _, _ => by simp [ins, Ordd]
  | y :: s, h, ht => by
    have h' := List.pairwise_cons.1 h
    unfold ins
    split
    · rename_i hk
      refine List.pairwise_cons.2 ⟨fun z hz => ?_, ins_ordd x s h'.2 (fun z hz => ht z (List.mem_cons_of_mem _ hz))⟩
      rcases List.mem_cons.1 ((ins_perm x s).mem_iff.1 hz) with e | e
      · subst e
        exact rk_lt_of_turn hk (ht y List.mem_cons_self)
      · exact h'.1 z e
    · rename_i hk
      refine List.pairwise_cons.2 ⟨fun z hz => ?_, h⟩
      rcases List.mem_cons.1 hz with e | e
      · subst e
        exact rk_lt_of_key (by omega)
      · exact rk_lt_of_key (by have := key_le_of_rk (h'.1 z e); omega)

/-- The queue, as a list in order. -/
def Qs (W : World) (F : List Nat) (b : Nat) (s : List Ent) (t : Nat) : Prop := ∃ v l, Qu W F b v l t ∧ Heap l.length (rkl l) ∧ l.Perm s ∧ Ordd s ∧ ∀ x ∈ s, x.t < t
variable {W : World} {F : List Nat} {b t : Nat} {s : List Ent}
theorem Qs.other {G G' : List Nat} {W' : World} (h : Qs W F b s t) (hs : Stp G W G' W') (hd : ∀ k ∈ F, k ∉ G) : Qs W' F b s t := by
  obtain ⟨v, l, h1, h2⟩ := h
  exact ⟨v, l, h1.other hs hd, h2⟩
theorem Qs.stays (h : Qs W F b s t) {W' : World} (hs : Stp [] W [] W') : Qs W' F b s t := h.other hs (fun _ _ h => by cases h)
theorem Qs.old (h : Qs W F b s t) : ∀ k ∈ F, k < W.heap.size := by
  obtain ⟨v, l, h1, h2⟩ := h
  exact h1.old
theorem Qs.lt (h : Qs W F b s t) : b < W.heap.size := by
  obtain ⟨v, l, h1, h2⟩ := h
  exact h1.lt
/-- The slice, and its first one. -/
theorem Qs.slice (h : Qs W F b s t) : ∃ a cap, W.cell? ⟨b, 0, none⟩ = some (.slice a s.length cap) := by
  obtain ⟨v, l, h1, h2, h3, _⟩ := h
  have hl := h3.length_eq
  rcases h1.row.form with ⟨rfl, e⟩ | ⟨g, cap, rfl, _⟩
  · subst e
    simp at hl
    exact ⟨none, 0, by rw [h1.c0, ← hl]⟩
  · exact ⟨_, cap, by rw [h1.c0, hl]⟩
/-- The heap's first one is the list's. -/
theorem head_of {l : List Ent} {x : Ent} (hH : Heap l.length (rkl l)) (hp : l.Perm (x :: s)) (ho : Ordd (x :: s)) : l[0]! = x := by
  have hl : l.length = s.length + 1 := hp.length_eq
  have h0 : l[0]! ∈ x :: s := by
    rw [getElem!_pos l 0 (by omega)]
    exact hp.mem_iff.1 (List.getElem_mem _)
  rcases List.mem_cons.1 h0 with e | e
  · exact e
  · have h1 := (List.pairwise_cons.1 ho).1 _ e
    have hx : x ∈ l := hp.mem_iff.2 List.mem_cons_self
    obtain ⟨i, hi, ei⟩ := List.getElem_of_mem hx
    have := hH.least i hi
    unfold rkl at this
    rw [getElem!_pos l i hi, ei] at this
    omega

theorem Stp.fresh {F F' : List Nat} {W w1 : World} (h : Stp F W F' w1) {a : Addr} (hb : W.heap.size ≤ a.block) (v : Value) : Stp F W F' (w1.setCell a v) :=
  ⟨h.os, h.tape, h.output, by rw [World.size_setCell]; exact h.size, fun k hk hF => (Below.heap_setCell _ _ _ _ (by omega)).trans (h.block k hk hF), h.foot⟩
/-- A store into a block that is none of its own. -/
theorem Qs.far (h : Qs W F b s t) {a : Addr} (ha : a.block ∉ F) (v : Value) : Qs (W.setCell a v) F b s t :=
  h.other (Stp.setCell (F := [a.block]) W v (List.mem_singleton.2 rfl)) (fun k hk e => ha (by rw [List.mem_singleton] at e; exact e ▸ hk))

/-! ### The calls -/
theorem new_run (w : World) : Calls Try.prog 10 #[] w fun e w' => e = .returned (.pointer (some ⟨w.heap.size, 0, none⟩)) ∧ Qs w' [w.heap.size] w.heap.size [] 0 ∧ Stp [] w [w.heap.size] w' := by
  go_enter Try.func10, Try.ntmps10
  go_wp2
  go_ret
  refine ⟨rfl, ⟨.slice none 0 0, [], ⟨heap_alloc_new w _, World.ownsRow_nil _ _ _ _, List.mem_cons_self, (fun k h => by cases h), fun k hk => ?_⟩, fun c _ hc => absurd hc (Nat.not_lt_zero _), List.Perm.refl _, List.Pairwise.nil, (fun x h => by cases h)⟩, ?_⟩
  · simp at hk
    simp [hk]
  · exact ⟨rfl, rfl, rfl, by simp, fun k hk _ => Below.heap_alloc w _ k hk, fun k hk => .inr (by simp at hk; omega)⟩

theorem qlen_run (h : Qs W F b s t) : Calls Try.prog 21 #[.pointer (some ⟨b, 0, none⟩)] W (Gives (.int .i64 (s.length : Int)) W) := by
  obtain ⟨a, cap, hc⟩ := h.slice
  clear h
  go_enter Try.func21, Try.ntmps21
  go_wp2
  go_ret
  exact ⟨rfl, rfl⟩
theorem qlen_nil (W : World) : Calls Try.prog 21 #[.pointer none] W (Gives (.int .i64 0) W) := by
  go_enter Try.func21, Try.ntmps21
  go_wp2
  go_ret
  exact ⟨rfl, rfl⟩
theorem qpush_nil (W : World) (a : Nat) (n : Int) : Calls Try.prog 13 #[.pointer none, .float .f64 a, .int .i64 n] W (Gives (.int .i64 1) W) := by
  go_enter Try.func13, Try.ntmps13
  go_wp2
  go_ret
  exact ⟨rfl, rfl⟩
theorem qpush_full (h : Qs W F b s t) (hl : 4096 ≤ s.length) (a : Nat) (n : Int) : Calls Try.prog 13 #[.pointer (some ⟨b, 0, none⟩), .float .f64 a, .int .i64 n] W (Gives (.int .i64 4) W) := by
  obtain ⟨a, cap, hc⟩ := h.slice
  clear h
  have hx : (4096 : Int) ≤ (s.length : Int) := by omega
  go_enter Try.func13, Try.ntmps13
  go_wp2
  go_ret
  exact ⟨rfl, rfl⟩
theorem qpush_run (h : Qs W F b s t) (hl : s.length < 4096) (m : Mo) (n : Int) (ht : t < 1000000) (x : Ent) (hx : x.m = m ∧ x.n = n ∧ x.t = t) :
    Calls Try.prog 13 #[.pointer (some ⟨b, 0, none⟩), .float .f64 m.v, .int .i64 n] W
      fun e w' => e = .returned (.int .i64 0) ∧ ∃ F', Qs w' F' b (ins x s) (t + 1) ∧ Stp F W F' w' := by
  obtain ⟨a, cap, hc⟩ := h.slice
  obtain ⟨rfl, rfl, rfl⟩ := hx
  obtain ⟨v, l, h1, h2, h3, h4, h5⟩ := h
  have hll := h3.length_eq
  have hc1 := h1.c1
  have hd : Stp [] W [] W.drew := ⟨rfl, rfl, rfl, Nat.le_refl _, fun _ _ _ => rfl, fun _ h => .inl h⟩
  have K1 := Lib.hid (heap_push (h1.stays W.drew hd) h2 x (by omega))
  have HD : Hid (Stp F W F W.drew) := ⟨rfl, rfl, rfl, Nat.le_refl _, fun _ _ _ => rfl, fun _ h => .inl h⟩
  have H := Lib.hid (And.intro h3 (And.intro h4 h5))
  have hx : ¬ (4096 : Int) ≤ (s.length : Int) := by omega
  clear h1 h2 h3 h4 h5 hll hd
  go_enter Try.func13, Try.ntmps13
  go_wp2_with fail
  go_still_tail 12, (by kernel_rfl)
  change wpList _ _ _ _ _ W.drew
  generalize W.drew = wd at *
  go_wp2_with fail
  refine K1.out.mono ?_
  rintro _ w1 ⟨rfl, F', v', l', q1, s1, hh, hp⟩
  have c1 := q1.c1
  have f1 := q1.f0 1
  have H1 := Lib.hid (And.intro q1 (And.intro (HD.out.trans s1) (And.intro hh hp)))
  clear K1 q1 s1 hh hp HD
  have e2 : IntKind.i64.wrap ((x.t : Int) + 1) = (x.t : Int) + 1 := by rw [IntKind.wrap_i64]; omega
  go_wp2
  go_ret
  obtain ⟨q1, s1, hh, hp⟩ := H1.out
  obtain ⟨h3, h4, h5⟩ := H.out
  refine ⟨rfl, F', ⟨v', l', q1.turn (x.t + 1), hh, ?_, ins_ordd x s h4 h5, ?_⟩, s1.trans (Stp.setCell _ _ q1.foot)⟩
  · exact hp.trans ((List.perm_append_singleton x l).trans ((h3.cons x).trans (ins_perm x s).symm))
  · intro y hy
    rcases List.mem_cons.1 ((ins_perm x s).mem_iff.1 hy) with e | e
    · subst e; omega
    · have := h5 y e; omega

theorem lacks_nil (W : World) : Calls Try.prog 27 #[.pointer none] W (Gives (.int .i64 1) W) := by
  go_enter Try.func27, Try.ntmps27
  go_wp2
  go_ret
  exact ⟨rfl, rfl⟩
theorem lacks_none (h : Qs W F b [] t) : Calls Try.prog 27 #[.pointer (some ⟨b, 0, none⟩)] W (Gives (.int .i64 6) W) := by
  obtain ⟨a, cap, hc⟩ := h.slice
  clear h
  go_enter Try.func27, Try.ntmps27
  go_wp2
  go_ret
  exact ⟨rfl, rfl⟩
theorem lacks_some {x : Ent} (h : Qs W F b (x :: s) t) (hl : s.length < 100000) : Calls Try.prog 27 #[.pointer (some ⟨b, 0, none⟩)] W (Gives (.int .i64 0) W) := by
  obtain ⟨a, cap, hc⟩ := h.slice
  clear h
  have e : (x :: s).length = s.length + 1 := rfl
  rw [e] at hc
  have e0 : ¬ ((s.length : Int) + 1 = 0) := by omega
  go_enter Try.func27, Try.ntmps27
  go_wp2
  go_ret
  exact ⟨rfl, rfl⟩

theorem take_run {x : Ent} (h : Qs W F b (x :: s) t) (hl : s.length < 100000) :
    Calls Try.prog 28 #[.pointer (some ⟨b, 0, none⟩)] W
      fun e w' => e = .returned (.agg #[.float .f64 x.m.v, .int .i64 x.n, .int .i64 (x.t : Int)]) ∧ Qs w' F b s t ∧ Stp F W F w' := by
  obtain ⟨v, l, h1, h2, h3, h4, h5⟩ := h
  have hll : l.length = s.length + 1 := h3.length_eq
  have hta := assert_entry (.agg #[.float .f64 x.m.v, .int .i64 x.n, .int .i64 (x.t : Int)])
  have al := Stp.alloc [] W (.cells #[.float .f64 0, .int .i64 0, .int .i64 0] 66)
  have K1 := Lib.hid (heap_pop (h1.stays _ al) h2 hll (by omega) x (head_of h2 h3 h4))
  have H := Lib.hid (And.intro (Stp.alloc F W (.cells #[.float .f64 0, .int .i64 0, .int .i64 0] 66)) (And.intro h3 (And.intro h4 (And.intro h5 h1.old))))
  clear h1 h2 h3 h4 h5 hll al
  go_enter Try.func28, Try.ntmps28
  go_wp2_with fail
  refine K1.out.mono ?_
  rintro _ w1 ⟨rfl, v', l', q1, s1, hh, hp⟩
  have hF : W.heap.size ∉ F := fun e => absurd (H.out.2.2.2.2 _ e) (Nat.lt_irrefl _)
  have hnew : w1.heap[W.heap.size]? = some (.cells #[.float .f64 0, .int .i64 0, .int .i64 0] 66 (0, 0)) := (s1.block W.heap.size (by simp) hF).trans (heap_alloc_new W _)
  have d0 : w1.cell? ⟨W.heap.size, 0, none⟩ = some (.float .f64 0) := by rw [cell_of_row w1 _ 0 _ _ _ hnew]; rfl
  have d1 : w1.cell? ⟨W.heap.size, 1, none⟩ = some (.int .i64 0) := by rw [cell_of_row w1 _ 1 _ _ _ hnew]; rfl
  have d2 : w1.cell? ⟨W.heap.size, 2, none⟩ = some (.int .i64 0) := by rw [cell_of_row w1 _ 2 _ _ _ hnew]; rfl
  have f0 := frozen_of_row w1 W.heap.size 0 _ _ hnew
  have f1 := frozen_of_row w1 W.heap.size 1 _ _ hnew
  have f2 := frozen_of_row w1 W.heap.size 2 _ _ hnew
  have H1 := Lib.hid (And.intro q1 (And.intro (H.out.1.trans s1) (And.intro hh (And.intro hp hF))))
  have HN : Aside ((((w1.setCell ⟨W.heap.size, 0, none⟩ (.float .f64 x.m.v)).setCell ⟨W.heap.size, 1, none⟩ (.int .i64 x.n)).setCell ⟨W.heap.size, 2, none⟩ (.int .i64 (x.t : Int))).heap[W.heap.size]? = some (.cells #[.float .f64 x.m.v, .int .i64 x.n, .int .i64 (x.t : Int)] 66 (0, 0))) :=
    heap_setCell_same _ _ 2 _ _ _ (heap_setCell_same _ _ 1 _ _ _ (heap_setCell_same _ _ 0 _ _ _ hnew))
  clear K1 q1 s1 hh hp hF hnew
  have hst := store_float
  generalize hsz : W.heap.size = sz at *
  have HZ : Aside (W.heap.size = sz) := hsz
  clear hsz
  go_wp2
  refine bodyPost_ret (results_cell_row (P := Try.prog) Try.results28 _ _ sz _ _ _ _ rfl HN.out Try.underlying66 rfl (by kernel_rfl)) rfl ?_
  obtain ⟨q1, s1, hh, hp, hF⟩ := H1.out
  obtain ⟨_, h3, h4, h5, h6⟩ := H.out
  have hq : Qs w1 F b s t := ⟨v', l', q1, hh, (List.perm_cons x).1 (hp.trans h3), (List.pairwise_cons.1 h4).2, fun y hy => h5 y (List.mem_cons_of_mem _ hy)⟩
  refine ⟨?_, ((hq.far (a := ⟨sz, 0, none⟩) hF _).far (a := ⟨sz, 1, none⟩) hF _).far (a := ⟨sz, 2, none⟩) hF _, ((s1.fresh (a := ⟨sz, 0, none⟩) ?_ _).fresh (a := ⟨sz, 1, none⟩) ?_ _).fresh (a := ⟨sz, 2, none⟩) ?_ _⟩
  all_goals first | rfl | (exact Nat.le_of_eq HZ.out)
end Go.Proofs.Ytjjaaahoophgpaa
