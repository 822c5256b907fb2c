/-
  slices.rotateCmpFunc at moments: two neighbouring parts of a row change places.
-/
import Derived.Test.YtbipkelocbkccaaSwap
namespace Go.Proofs.Ytbipkelocbkccaa
open Go.RowKit Go.Lib Go.Sort
set_option linter.unusedVariables false

set_option maxHeartbeats 2000000 in
set_option maxRecDepth 100000 in
theorem rotate (w0 w : World) (blk off cap n : Nat) (A0 X0 Y0 B0 : List Mo) (g : Value) (R : Ro w0 blk off n) (a m b : Nat) (ha : a = A0.length) (hm : m = A0.length + X0.length) (hb : b = A0.length + X0.length + Y0.length) (hX : 0 < X0.length) (hY : 0 < Y0.length)
    (S : At w0 blk off n (A0 ++ X0 ++ Y0 ++ B0) w) :
    Calls Try.prog 37 #[.slice (some ⟨blk, off, none⟩) n cap, .int .i64 (a : Int), .int .i64 (m : Int), .int .i64 (b : Int), g] w
      fun e w' => e = .returned (.tuple #[]) ∧ At w0 blk off n (A0 ++ Y0 ++ X0 ++ B0) w' := by
  have hsm := R.small
  obtain ⟨T, hT⟩ : ∃ T, T = A0 ++ Y0 ++ X0 ++ B0 := ⟨_, rfl⟩
  rw [← hT]
  have hn : a < m ∧ m < b ∧ b ≤ n := by
    have := S.len
    simp only [List.length_append] at this
    omega
  have S0 : Aside (∃ A X Y B : List Mo, X.length = m - a ∧ Y.length = b - m ∧ A.length + (m - a) = m ∧ A ++ Y ++ X ++ B = T ∧ At w0 blk off n (A ++ X ++ Y ++ B) w) := ⟨A0, X0, Y0, B0, by omega, by omega, by omega, hT.symm, S⟩
  clear S ha hm hb hX hY hT
  go_enter Try.func37, Try.ntmps37
  go_wp2
  go_loopg [10, 11] n (fun gk vi vj wr => ∃ i j : Nat, vi = .int .i64 (i : Int) ∧ vj = .int .i64 (j : Int) ∧ 0 < i ∧ 0 < j ∧ i ≤ m ∧ m + j ≤ n ∧ i + j ≤ gk ∧ Aside (∃ A X Y B : List Mo, X.length = i ∧ Y.length = j ∧ A.length + i = m ∧ A ++ Y ++ X ++ B = T ∧ At w0 blk off n (A ++ X ++ Y ++ B) wr))
  case atStart => exact ⟨m - a, b - m, by congr 1; omega, by congr 1; omega, by omega, by omega, by omega, by omega, by omega, S0.out⟩
  case round =>
    clear S0
    obtain ⟨i, j, rfl, rfl, hi, hj, him, hjn, hg, HS⟩ := hrel
    have zi : (m : Int) - (i : Int) = ((m - i : Nat) : Int) := by omega
    rcases Nat.lt_trichotomy i j with h | h | h
    · have h1 : ¬ (i : Int) = (j : Int) := by omega
      have h2 : ¬ (j : Int) < (i : Int) := by omega
      have HC : Hid (Calls Try.prog 38 #[.slice (some ⟨blk, off, none⟩) n cap, .int .i64 ((m : Int) - (i : Int)), .int .i64 ((m : Int) + (j : Int) - (i : Int)), .int .i64 (i : Int), g] wr
          fun e w' => e = .returned (.tuple #[]) ∧ Aside (∃ A X Y B : List Mo, X.length = i ∧ Y.length = j - i ∧ A.length + i = m ∧ A ++ Y ++ X ++ B = T ∧ At w0 blk off n (A ++ X ++ Y ++ B) w')) := by
        obtain ⟨A, X, Y, B, e1, e2, e3, e4, hS⟩ := HS.out
        have ey : Y = Y.take (j - i) ++ Y.drop (j - i) := (List.take_append_drop _ _).symm
        have l1 : (Y.take (j - i)).length = j - i := by rw [List.length_take]; omega
        have l2 : (Y.drop (j - i)).length = i := by rw [List.length_drop]; omega
        generalize Y.take (j - i) = Y1 at *
        generalize Y.drop (j - i) = Y2 at *
        subst ey
        rw [zi, show (m : Int) + (j : Int) - (i : Int) = ((m + (j - i) : Nat) : Int) by omega]
        refine (swapRange w0 wr blk off cap n A X Y1 Y2 B g R (by omega) (m - i) (m + (j - i)) (by omega) (by omega) i e1.symm (by simpa using hS)).mono ?_
        rintro e w' ⟨he, hw⟩
        exact ⟨he, A, Y2, Y1, X ++ B, l2, l1, e3, by rw [← e4]; simp, by simpa using hw⟩
      clear HS zi
      go_wp2_with fail
      refine HC.out.mono ?_
      rintro _ w1 ⟨rfl, H1⟩
      clear HC
      go_wp2
      go_roundg (gk - i)
      case measure => omega
      case rel => exact ⟨i, j - i, rfl, by congr 1; omega, hi, by omega, him, by omega, by omega, H1.out⟩
    · subst h
      have HC : Hid (Calls Try.prog 38 #[.slice (some ⟨blk, off, none⟩) n cap, .int .i64 ((m : Int) - (i : Int)), .int .i64 (m : Int), .int .i64 (i : Int), g] wr
          fun e w' => e = .returned (.tuple #[]) ∧ At w0 blk off n T w') := by
        obtain ⟨A, X, Y, B, e1, e2, e3, e4, hS⟩ := HS.out
        rw [zi]
        refine (swapRange w0 wr blk off cap n A X [] Y B g R (by omega) (m - i) m (by omega) (by simp; omega) i e1.symm (by simpa using hS)).mono ?_
        rintro e w' ⟨he, hw⟩
        exact ⟨he, by rw [← e4]; simpa using hw⟩
      clear HS zi
      go_wp2_with fail
      refine HC.out.mono ?_
      rintro _ w1 ⟨rfl, H1⟩
      clear HC
      have H1 := Lib.hid H1
      go_wp2
      go_end0
      exact ⟨rfl, H1.out⟩
    · have h1 : ¬ (i : Int) = (j : Int) := by omega
      have h2 : (j : Int) < (i : Int) := by omega
      have HC : Hid (Calls Try.prog 38 #[.slice (some ⟨blk, off, none⟩) n cap, .int .i64 ((m : Int) - (i : Int)), .int .i64 (m : Int), .int .i64 (j : Int), g] wr
          fun e w' => e = .returned (.tuple #[]) ∧ Aside (∃ A X Y B : List Mo, X.length = i - j ∧ Y.length = j ∧ A.length + (i - j) = m ∧ A ++ Y ++ X ++ B = T ∧ At w0 blk off n (A ++ X ++ Y ++ B) w')) := by
        obtain ⟨A, X, Y, B, e1, e2, e3, e4, hS⟩ := HS.out
        have ey : X = X.take j ++ X.drop j := (List.take_append_drop _ _).symm
        have l1 : (X.take j).length = j := by rw [List.length_take]; omega
        have l2 : (X.drop j).length = i - j := by rw [List.length_drop]; omega
        generalize X.take j = X1 at *
        generalize X.drop j = X2 at *
        subst ey
        rw [zi]
        refine (swapRange w0 wr blk off cap n A X1 X2 Y B g R (by omega) (m - i) m (by omega) (by omega) j l1.symm (by simpa using hS)).mono ?_
        rintro e w' ⟨he, hw⟩
        exact ⟨he, A ++ Y, X2, X1, B, l2, l1, by simp; omega, by rw [← e4]; simp, by simpa using hw⟩
      clear HS zi
      go_wp2_with fail
      refine HC.out.mono ?_
      rintro _ w1 ⟨rfl, H1⟩
      clear HC
      go_wp2
      go_roundg (gk - j)
      case measure => omega
      case rel => exact ⟨i - j, j, by congr 1; omega, rfl, by omega, hj, by omega, hjn, by omega, H1.out⟩
end Go.Proofs.Ytbipkelocbkccaa
