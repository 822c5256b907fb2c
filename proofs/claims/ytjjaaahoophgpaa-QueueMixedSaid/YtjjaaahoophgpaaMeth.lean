/-
  The methods of entries that container/heap calls: Len, Less, Swap, at a row of the call's own.
-/
import Derived.Test.YtjjaaahoophgpaaRow
namespace Go.Proofs.Ytjjaaahoophgpaa
open Go.RowKit Go.Lib
set_option linter.unusedVariables false

theorem len_run (a : Option Addr) (n cap : Nat) (w : World) : Calls Try.prog 55 #[.slice a n cap] w (Gives (.int .i64 (n : Int)) w) := by
  go_enter Try.func55, Try.ntmps55
  go_wp2
  go_ret
  exact ⟨rfl, rfl⟩

theorem compare_quiet (x y : Mo) (w : World) (q : Nat) : Calls Try.prog 23 #[.float .f64 x.v, .float .f64 y.v] (w.drewN q) fun e w' => e = .returned (.int .i64 (cmpN x.v y.v)) ∧ ∃ n, w' = w.drewN n :=
  (compare_any x.v y.v x.lt y.lt (w.drewN q)).mono fun e w' ⟨he, hw⟩ => ⟨he, q, hw⟩

theorem less_run (w : World) (g n cap : Nat) (l : List Ent) (h : Rw w (.slice (some ⟨g, 0, none⟩) n cap) l) (i j : Nat) (hi : i < n) (hj : j < n) (hn : n < 4611686018427387904) :
    Calls Try.prog 56 #[.slice (some ⟨g, 0, none⟩) n cap, .int .i64 (i : Int), .int .i64 (j : Int)] w
      fun e w' => e = .returned (.bool (decide (rkl l i < rkl l j))) ∧ ∃ q, w' = w.drewN q := by
  have a0 := h.c0 hi
  have a2 := h.c2 hi
  have b0 := h.c0 hj
  have b2 := h.c2 hj
  have CQ := compare_quiet (l[i]!).m (l[j]!).m w
  unfold rkl Ent.rk
  have hx1 := (l[i]!).tl
  have hx2 := (l[j]!).tl
  have hc1 := @cmpN_neg (l[i]!).m (l[j]!).m
  have hc2 := @cmpN_zero (l[i]!).m (l[j]!).m
  generalize l[i]! = x at *
  generalize l[j]! = y at *
  generalize cmpN x.m.v y.m.v = c at *
  have HC : Aside (c < 0 ↔ x.m.key < y.m.key) := hc1
  have HD : Aside (c = 0 ↔ x.m.key = y.m.key) := hc2
  clear hc1 hc2 h
  by_cases e : c = 0
  · subst e
    have hk := HD.out.1 rfl
    go_enter Try.func56, Try.ntmps56
    go_wp2_with fail
    go_quiet (first | (go_at_call 23; exact CQ _))
    go_wp2_with fail
    go_quiet (fail)
    go_wp2
    go_ret
    refine ⟨?_, _, World.drewN_drewN _ _ _⟩
    show Ending.returned (Value.bool (decide (x.t < y.t))) = _
    rw [hk, decide_eq_decide.2 (show x.t < y.t ↔ y.m.key * 4611686018427387904 + x.t < y.m.key * 4611686018427387904 + y.t by omega)]
  · go_enter Try.func56, Try.ntmps56
    go_wp2_with fail
    go_quiet (first | (go_at_call 23; exact CQ _))
    go_wp2
    go_ret
    refine ⟨?_, _, rfl⟩
    have h1 := HC.out
    have h2 := HD.out
    show Ending.returned (Value.bool (decide (c < 0))) = _
    rw [decide_eq_decide.2 (show c < 0 ↔ x.m.key * 4611686018427387904 + x.t < y.m.key * 4611686018427387904 + y.t by omega)]

/-- Behind two stores of whole entries two places have changed. -/
theorem Rw.swap {W : World} {g n cap : Nat} {l : List Ent} (h : Rw W (.slice (some ⟨g, 0, none⟩) n cap) l) {i j : Nat} (hi : i < n) (hj : j < n) :
    Rw ((W.setCells g (i * 3) (encE (l[j]!))).setCells g (j * 3) (encE (l[i]!))) (.slice (some ⟨g, 0, none⟩) n cap) (sw l i j) ∧ W.grownBy ((W.setCells g (i * 3) (encE (l[j]!))).setCells g (j * 3) (encE (l[i]!))) (some g) := by
  obtain ⟨a1, b1⟩ := h.set hi (l[j]!)
  obtain ⟨a2, b2⟩ := a1.set hj (l[i]!)
  exact ⟨a2, b1.trans b2⟩

theorem store_float (b : Nat) (a : Addr) (m : Mode) (w : World) : Sem.run Try.prog (store a (.float .f64 b) m) w = stored Try.prog w a (.float .f64 b) m := run_store Try.prog w a _ m rfl
theorem World.grownBy_drew (w : World) (row : Option Nat) : w.grownBy w.drew row := ⟨rfl, rfl, rfl, Nat.le_refl _, fun _ _ _ => rfl⟩
theorem swap_run (w : World) (g n cap : Nat) (l : List Ent) (h : Rw w (.slice (some ⟨g, 0, none⟩) n cap) l) (i j : Nat) (hi : i < n) (hj : j < n) (hn : n < 4611686018427387904) (hij : i ≠ j) :
    Calls Try.prog 57 #[.slice (some ⟨g, 0, none⟩) n cap, .int .i64 (i : Int), .int .i64 (j : Int)] w
      fun e w' => e = .returned (.tuple #[]) ∧ Rw w' (.slice (some ⟨g, 0, none⟩) n cap) (sw l i j) ∧ w.grownBy w' (some g) := by
  have H := Lib.hid (And.intro (World.ownsRow.drew (h.swap hi hj).1) ((h.swap hi hj).2.trans (World.grownBy_drew _ (some g))))
  have A0 := h.c0 hi
  have A1 := h.c1 hi
  have A2 := h.c2 hi
  have B0 := h.c0 hj
  have B1 := h.c1 hj
  have B2 := h.c2 hj
  have FA := h.there hi
  have FB := h.there hj
  have FA0 := (FA 0 (by omega)).2
  have FA1 := (FA 1 (by omega)).2
  have FA2 := (FA 2 (by omega)).2
  have FB0 := (FB 0 (by omega)).2
  have FB1 := (FB 1 (by omega)).2
  have FB2 := (FB 2 (by omega)).2
  rw [Nat.add_zero] at FA0 FB0
  have n00 : ¬ i * 3 = j * 3 := by omega
  have n01 : ¬ i * 3 = j * 3 + 1 := by omega
  have n02 : ¬ i * 3 = j * 3 + 2 := by omega
  have n10 : ¬ i * 3 + 1 = j * 3 := by omega
  have n20 : ¬ i * 3 + 2 = j * 3 := by omega
  have n12 : ¬ i * 3 + 1 = j * 3 + 2 := by omega
  have n21 : ¬ i * 3 + 2 = j * 3 + 1 := by omega
  clear h FA FB
  generalize l[i]! = x at *
  generalize l[j]! = y at *
  have hst := store_float
  go_enter Try.func57, Try.ntmps57
  go_wp2_with fail
  go_region
  all_goals
    go_wp2
    go_end0
    exact ⟨rfl, H.out⟩
theorem swap_same (w : World) (g n cap : Nat) (l : List Ent) (h : Rw w (.slice (some ⟨g, 0, none⟩) n cap) l) (i : Nat) (hi : i < n) (hn : n < 4611686018427387904) :
    Calls Try.prog 57 #[.slice (some ⟨g, 0, none⟩) n cap, .int .i64 (i : Int), .int .i64 (i : Int)] w
      fun e w' => e = .returned (.tuple #[]) ∧ Rw w' (.slice (some ⟨g, 0, none⟩) n cap) (sw l i i) ∧ w.grownBy w' (some g) := by
  have H := Lib.hid (And.intro (World.ownsRow.drew (h.swap hi hi).1) ((h.swap hi hi).2.trans (World.grownBy_drew _ (some g))))
  have A0 := h.c0 hi
  have A1 := h.c1 hi
  have A2 := h.c2 hi
  have FA := h.there hi
  have FA0 := (FA 0 (by omega)).2
  have FA1 := (FA 1 (by omega)).2
  have FA2 := (FA 2 (by omega)).2
  rw [Nat.add_zero] at FA0
  clear h FA
  generalize l[i]! = x at *
  have hst := store_float
  go_enter Try.func57, Try.ntmps57
  go_wp2_with fail
  go_region
  all_goals
    go_wp2
    go_end0
    exact ⟨rfl, H.out⟩
theorem swap_any (w : World) (g n cap : Nat) (l : List Ent) (h : Rw w (.slice (some ⟨g, 0, none⟩) n cap) l) (i j : Nat) (hi : i < n) (hj : j < n) (hn : n < 4611686018427387904) :
    Calls Try.prog 57 #[.slice (some ⟨g, 0, none⟩) n cap, .int .i64 (i : Int), .int .i64 (j : Int)] w
      fun e w' => e = .returned (.tuple #[]) ∧ Rw w' (.slice (some ⟨g, 0, none⟩) n cap) (sw l i j) ∧ w.grownBy w' (some g) := by
  by_cases e : i = j
  · subst e
    exact swap_same w g n cap l h i hi hn
  · exact swap_run w g n cap l h i j hi hj hn e
end Go.Proofs.Ytjjaaahoophgpaa
