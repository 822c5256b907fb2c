/-
  Bytes taken to another place: Move.
-/
import Derived.Test.YtkkfpbnlhgnchaaTurn
namespace Go.Proofs.Ytkkfpbnlhgnchaa
open Go.RowKit Go.Lib
set_option linter.unusedVariables false

theorem move_nil (i j k : Int) (W : World) : Calls Try.prog 17 #[.pointer none, .int .i64 i, .int .i64 j, .int .i64 k] W (Gives (.int .i64 1) W) := by
  have K := Lib.hid (lacks_nil i j W)
  go_enter Try.func17, Try.ntmps17
  go_wp2_with fail
  refine K.out.mono ?_
  rintro _ _ ⟨rfl, rfl⟩
  go_wp2
  go_ret
  exact ⟨rfl, rfl⟩
section
variable {W : World} {b g N u : Nat} {C : List UInt8}
theorem move_no (h : Cl W b g N u C) (i j k : Int) (hi : i < 0 ∨ j < i ∨ (u : Int) < j) : Calls Try.prog 17 #[.pointer (some ⟨b, 0, none⟩), .int .i64 i, .int .i64 j, .int .i64 k] W (Gives (.int .i64 3) W) := by
  have K := Lib.hid (lacks_no h i j hi)
  clear h hi
  go_enter Try.func17, Try.ntmps17
  go_wp2_with fail
  refine K.out.mono ?_
  rintro _ _ ⟨rfl, rfl⟩
  go_wp2
  go_ret
  exact ⟨rfl, rfl⟩
theorem move_out (h : Cl W b g N u C) (i j n : Nat) (k : Int) (hi : i ≤ j) (hj : j ≤ u) (hn : i + n = j) (hk : k < 0 ∨ (u : Int) - (n : Int) < k) : Calls Try.prog 17 #[.pointer (some ⟨b, 0, none⟩), .int .i64 (i : Int), .int .i64 (j : Int), .int .i64 k] W (Gives (.int .i64 3) W) := by
  have K := Lib.hid (lacks_run h i j hi hj)
  have c1 := h.c1
  have hu := h.use
  have ht := h.top
  have e1 : IntKind.i64.wrap ((j : Int) - (i : Int)) = (n : Int) := by rw [IntKind.wrap_i64]; omega
  have e2 : IntKind.i64.wrap ((u : Int) - (n : Int)) = (u : Int) - (n : Int) := by rw [IntKind.wrap_i64]; omega
  clear h hn
  by_cases h0 : k < 0
  · clear hk
    go_enter Try.func17, Try.ntmps17
    go_wp2_with fail
    refine K.out.mono ?_
    rintro _ _ ⟨rfl, rfl⟩
    go_wp2
    go_ret
    exact ⟨rfl, rfl⟩
  · have h1 : (u : Int) - (n : Int) < k := by omega
    clear hk
    go_enter Try.func17, Try.ntmps17
    go_wp2_with fail
    refine K.out.mono ?_
    rintro _ _ ⟨rfl, rfl⟩
    go_wp2
    go_ret
    exact ⟨rfl, rfl⟩
/-- Bytes brought ahead: X, Y, Z become X, Z, Y where the places are k, i, j. -/
theorem move_ahead (h : Cl W b g N u C) (i j k n : Nat) (hi : i ≤ j) (hj : j ≤ u) (hn : i + n = j) (hk : k < i) (A M D : List UInt8) (hC : C = A ++ (M ++ D)) (hA : A.length = k) (hM : M.length = j - k) :
    Calls Try.prog 17 #[.pointer (some ⟨b, 0, none⟩), .int .i64 (i : Int), .int .i64 (j : Int), .int .i64 (k : Int)] W
      fun e w' => e = .returned (.int .i64 0) ∧ Cl w' b g N u (A ++ (M.drop (i - k) ++ (M.take (i - k) ++ D))) ∧ Stp [g] W [g] w' := by
  have K := Lib.hid (lacks_run h i j hi hj)
  have c0 := h.c0
  have c1 := h.c1
  have hu := h.use
  have ht := h.top
  have K2 := Lib.hid (turn_run W g (N - k) (i - k) (j - k) k A M D (by rw [← hC]; exact h.row) hA hM (by omega) (by omega) (by omega) (by omega))
  have H := Lib.hid (And.intro h (And.intro hC (And.intro hA hM)))
  have e1 : IntKind.i64.wrap ((j : Int) - (i : Int)) = (n : Int) := by rw [IntKind.wrap_i64]; omega
  have e2 : IntKind.i64.wrap ((u : Int) - (n : Int)) = (u : Int) - (n : Int) := by rw [IntKind.wrap_i64]; omega
  have e3 : ¬ (k : Int) < 0 := by omega
  have e4 : ¬ (u : Int) - (n : Int) < (k : Int) := by omega
  have e5 : (k : Int) < (i : Int) := by omega
  have s1 := cut_lh (some ⟨g, 0, none⟩) N N k j (by omega) (by omega)
  rw [cutp_of (by omega), Nat.zero_add] at s1
  have e6 : IntKind.i64.wrap ((i : Int) - (k : Int)) = ((i - k : Nat) : Int) := by rw [IntKind.wrap_i64]; omega
  generalize hi' : i - k = q at *
  have HQ : Aside (i - k = q) := hi'
  clear h hC hA hM hn hi'
  go_enter Try.func17, Try.ntmps17
  go_wp2_with fail
  refine K.out.mono ?_
  rintro _ W ⟨rfl, rfl⟩
  clear K
  go_wp2_with fail
  refine K2.out.mono ?_
  rintro _ w1 ⟨rfl, hB, hs⟩
  have H1 := Lib.hid (And.intro hB hs)
  clear K2 hB hs
  go_wp2
  go_ret
  obtain ⟨h, hC, hA, hM⟩ := H.out
  refine ⟨rfl, h.lay H1.out.2 H1.out.1 ?_, H1.out.2⟩
  have := h.len
  have := HQ.out
  subst hC
  simp at *
  omega
theorem move_same (h : Cl W b g N u C) (i j k n : Nat) (hi : i ≤ j) (hj : j ≤ u) (hn : i + n = j) (hk : i ≤ k) (hk2 : k + n ≤ u) (h0 : k + n - i = 0) :
    Calls Try.prog 17 #[.pointer (some ⟨b, 0, none⟩), .int .i64 (i : Int), .int .i64 (j : Int), .int .i64 (k : Int)] W
      fun e w' => e = .returned (.int .i64 0) ∧ w' = W := by
  obtain rfl : n = 0 := by omega
  obtain rfl : j = i := by omega
  obtain rfl : k = j := by omega
  have K := Lib.hid (lacks_run h k k hi hj)
  have c0 := h.c0
  have c1 := h.c1
  have hu := h.use
  have ht := h.top
  have K2 := Lib.hid (turn_none (cutp (some ⟨g, 0, none⟩) k N) (N - k) W)
  have e1 : IntKind.i64.wrap ((k : Int) - (k : Int)) = 0 := by rw [IntKind.wrap_i64]; omega
  have e2 : IntKind.i64.wrap ((u : Int) - 0) = (u : Int) := by rw [IntKind.wrap_i64]; omega
  have e3 : ¬ (k : Int) < 0 := by omega
  have e4 : ¬ (u : Int) < (k : Int) := by omega
  have e6 : IntKind.i64.wrap ((k : Int) + 0) = (k : Int) := by rw [IntKind.wrap_i64]; omega
  have s1 := cut_lh (some ⟨g, 0, none⟩) N N k k (by omega) (by omega)
  rw [Nat.sub_self] at s1
  clear h
  go_enter Try.func17, Try.ntmps17
  go_wp2_with fail
  refine K.out.mono ?_
  rintro _ W ⟨rfl, rfl⟩
  clear K
  go_wp2_with fail
  refine K2.out.mono ?_
  rintro _ W ⟨rfl, rfl⟩
  clear K2
  go_wp2
  go_ret
  exact ⟨rfl, rfl⟩
/-- Bytes brought behind. -/
theorem move_behind (h : Cl W b g N u C) (i j k n m : Nat) (hi : i ≤ j) (hj : j ≤ u) (hn : i + n = j) (hk : i ≤ k) (hk2 : k + n ≤ u) (hm : i + m = k + n) (h0 : 0 < m) (A M D : List UInt8) (hC : C = A ++ (M ++ D)) (hA : A.length = i) (hM : M.length = m) :
    Calls Try.prog 17 #[.pointer (some ⟨b, 0, none⟩), .int .i64 (i : Int), .int .i64 (j : Int), .int .i64 (k : Int)] W
      fun e w' => e = .returned (.int .i64 0) ∧ Cl w' b g N u (A ++ (M.drop n ++ (M.take n ++ D))) ∧ Stp [g] W [g] w' := by
  have K := Lib.hid (lacks_run h i j hi hj)
  have c0 := h.c0
  have c1 := h.c1
  have hu := h.use
  have ht := h.top
  have K2 := Lib.hid (turn_run W g (N - i) n m i A M D (by rw [← hC]; exact h.row) hA hM h0 (by omega) (by omega) (by omega))
  have H := Lib.hid (And.intro h (And.intro hC (And.intro hA hM)))
  have e1 : IntKind.i64.wrap ((j : Int) - (i : Int)) = (n : Int) := by rw [IntKind.wrap_i64]; omega
  have e2 : IntKind.i64.wrap ((u : Int) - (n : Int)) = (u : Int) - (n : Int) := by rw [IntKind.wrap_i64]; omega
  have e3 : ¬ (k : Int) < 0 := by omega
  have e4 : ¬ (u : Int) - (n : Int) < (k : Int) := by omega
  have e5 : ¬ (k : Int) < (i : Int) := by omega
  have e6 : IntKind.i64.wrap ((k : Int) + (n : Int)) = (k : Int) + (n : Int) := by rw [IntKind.wrap_i64]; omega
  have s1 := cut_lh (some ⟨g, 0, none⟩) N N i (k + n) (by omega) (by omega)
  rw [cutp_of (by omega), Nat.zero_add, show k + n - i = m by omega, Int.natCast_add] at s1
  clear h hC hA hM hn hm
  go_enter Try.func17, Try.ntmps17
  go_wp2_with fail
  refine K.out.mono ?_
  rintro _ W ⟨rfl, rfl⟩
  clear K
  go_wp2_with fail
  refine K2.out.mono ?_
  rintro _ w1 ⟨rfl, hB, hs⟩
  have H1 := Lib.hid (And.intro hB hs)
  clear K2 hB hs
  go_wp2
  go_ret
  obtain ⟨h, hC, hA, hM⟩ := H.out
  refine ⟨rfl, h.lay H1.out.2 H1.out.1 ?_, H1.out.2⟩
  have := h.len
  subst hC
  simp at *
  omega
end
/-- The bytes from i to j of l at the place k of the others. -/
def moved (l : List UInt8) (i j k : Nat) : List UInt8 := (l.take i ++ l.drop j).take k ++ (l.drop i).take (j - i) ++ (l.take i ++ l.drop j).drop k
theorem moved_length {l : List UInt8} {i j k : Nat} (hi : i ≤ j) (hj : j ≤ l.length) : (moved l i j k).length = l.length := by
  unfold moved
  simp only [List.length_append, List.length_take, List.length_drop]
  omega
theorem cuts (l : List UInt8) (a b c : Nat) (h1 : a ≤ b) (h2 : b ≤ c) (h3 : c ≤ l.length) : l = l.take a ++ ((l.drop a).take (b - a) ++ ((l.drop b).take (c - b) ++ l.drop c)) := by
  have e1 : l.drop b = (l.drop b).take (c - b) ++ l.drop c := by
    conv => lhs; rw [← List.take_append_drop (c - b) (l.drop b)]
    rw [List.drop_drop, show b + (c - b) = c by omega]
  have e2 : l.drop a = (l.drop a).take (b - a) ++ l.drop b := by
    conv => lhs; rw [← List.take_append_drop (b - a) (l.drop a)]
    rw [List.drop_drop, show a + (b - a) = b by omega]
  rw [← e1, ← e2, List.take_append_drop]
/-- What Move does. -/
theorem move_run {W : World} {b g N : Nat} {l : List UInt8} (h : Ar W b g N l) (i j k : Nat) (hi : i ≤ j) (hj : j ≤ l.length) (hk : k + (j - i) ≤ l.length) :
    Calls Try.prog 17 #[.pointer (some ⟨b, 0, none⟩), .int .i64 (i : Int), .int .i64 (j : Int), .int .i64 (k : Int)] W
      fun e w' => e = .returned (.int .i64 0) ∧ Ar w' b g N (moved l i j k) ∧ Stp [b, g] W [b, g] w' := by
  have hl := h.le
  unfold Ar
  rw [moved_length hi hj]
  by_cases hki : k < i
  · have hc := cuts l k i j (by omega) hi hj
    generalize hX : l.take k = X at hc
    generalize hY : (l.drop k).take (i - k) = Y at hc
    generalize hZ : (l.drop i).take (j - i) = Z at hc
    generalize hV : l.drop j = V at hc
    have lX : X.length = k := by rw [← hX]; simp; omega
    have lY : Y.length = i - k := by rw [← hY]; simp; omega
    have lZ : Z.length = j - i := by rw [← hZ]; simp; omega
    have em : moved l i j k = X ++ (Z ++ (Y ++ V)) := by
      unfold moved
      rw [hZ, hV]
      have : l.take i = X ++ Y := by
        rw [hc, ← List.append_assoc, List.take_left' (by simp; omega)]
      rw [this, List.append_assoc X Y V, List.take_left' lX, List.drop_left' lX]
      simp
    refine (move_ahead h i j k (j - i) hi hj (by omega) hki X (Y ++ Z) (V ++ List.replicate (N - l.length) 0) ?_ lX (by simp; omega)).mono ?_
    · unfold pad
      conv => lhs; arg 1; rw [hc]
      simp
    · rintro e w' ⟨he, h1, hs⟩
      refine ⟨he, ?_, hs.more (fun q hq => by simp at hq; simp [hq])⟩
      rw [em]
      rw [List.drop_left' lY, List.take_left' lY] at h1
      have e2 : pad N (X ++ (Z ++ (Y ++ V))) = X ++ (Z ++ (Y ++ (V ++ List.replicate (N - l.length) 0))) := by
        unfold pad
        have := congrArg List.length hc
        rw [show (X ++ (Z ++ (Y ++ V))).length = l.length by simp at this ⊢; omega]
        simp
      rw [e2]
      exact h1
  · have hc := cuts l i j (k + (j - i)) hi (by omega) hk
    generalize hX : l.take i = X at hc
    generalize hY : (l.drop i).take (j - i) = Y at hc
    generalize hZ : (l.drop j).take (k + (j - i) - j) = Z at hc
    generalize hV : l.drop (k + (j - i)) = V at hc
    have lX : X.length = i := by rw [← hX]; simp; omega
    have lY : Y.length = j - i := by rw [← hY]; simp; omega
    have lZ : Z.length = k - i := by rw [← hZ]; simp; omega
    have em : moved l i j k = X ++ (Z ++ (Y ++ V)) := by
      unfold moved
      rw [hX, hY]
      have : l.drop j = Z ++ V := by
        rw [hc, ← List.append_assoc X, List.drop_left' (by simp; omega)]
      rw [this, ← List.append_assoc X, List.take_left' (by simp; omega), List.drop_left' (by simp; omega)]
      simp
    have e2 : pad N (X ++ (Z ++ (Y ++ V))) = X ++ (Z ++ (Y ++ (V ++ List.replicate (N - l.length) 0))) := by
      unfold pad
      have := congrArg List.length hc
      rw [show (X ++ (Z ++ (Y ++ V))).length = l.length by simp at this ⊢; omega]
      simp
    have e3 : pad N l = X ++ (Y ++ Z ++ (V ++ List.replicate (N - l.length) 0)) := by
      unfold pad
      conv => lhs; arg 1; rw [hc]
      simp
    by_cases h0 : k + (j - i) - i = 0
    · refine (move_same h i j k (j - i) hi hj (by omega) (by omega) hk h0).mono ?_
      rintro e w' ⟨he, rfl⟩
      refine ⟨he, ?_, Stp.refl _ _⟩
      have y0 : Y = [] := List.eq_nil_of_length_eq_zero (by omega)
      have z0 : Z = [] := List.eq_nil_of_length_eq_zero (by omega)
      have h2 : Cl w' b g N l.length (pad N l) := h
      rw [em, e2]
      rw [e3] at h2
      subst y0 z0
      simpa using h2
    · refine (move_behind h i j k (j - i) (k + (j - i) - i) hi hj (by omega) (by omega) hk (by omega) (by omega) X (Y ++ Z) (V ++ List.replicate (N - l.length) 0) e3 lX (by simp; omega)).mono ?_
      rintro e w' ⟨he, h1, hs⟩
      refine ⟨he, ?_, hs.more (fun q hq => by simp at hq; simp [hq])⟩
      rw [em, e2]
      rw [List.drop_left' lY, List.take_left' lY] at h1
      exact h1
end Go.Proofs.Ytkkfpbnlhgnchaa
