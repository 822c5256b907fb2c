/-
  slices.swapRangeCmpFunc at moments: two parts of a row, equally long, change places.
-/
import Derived.Test.YtbipkelocbkccaaRow
namespace Go.Proofs.Ytbipkelocbkccaa
open Go.RowKit Go.Lib Go.Sort
set_option linter.unusedVariables false

set_option maxHeartbeats 2000000 in
set_option maxRecDepth 100000 in
theorem swapRange (w0 w : World) (blk off cap n : Nat) (A X M Y B : List Mo) (g : Value) (R : Ro w0 blk off n) (hXY : X.length = Y.length) (a b : Nat) (ha : a = A.length) (hb : b = A.length + X.length + M.length) (k : Nat) (hk : k = X.length)
    (S : At w0 blk off n (A ++ X ++ M ++ Y ++ B) w) :
    Calls Try.prog 38 #[.slice (some ⟨blk, off, none⟩) n cap, .int .i64 (a : Int), .int .i64 (b : Int), .int .i64 (k : Int), g] w
      fun e w' => e = .returned (.tuple #[]) ∧ At w0 blk off n (A ++ Y ++ M ++ X ++ B) w' := by
  have hsm := R.small
  have hn : a + k ≤ n ∧ b + k ≤ n := by
    have := S.len
    simp only [List.length_append] at this
    omega
  have S0 : Aside (At w0 blk off n (A ++ X ++ M ++ Y ++ B) w) := S
  have HA : Aside (X.length = Y.length ∧ a = A.length ∧ b = A.length + X.length + M.length ∧ k = X.length) := ⟨hXY, ha, hb, hk⟩
  clear S hXY ha hb hk
  have hst := store_float
  go_enter Try.func38, Try.ntmps38
  go_wp2
  go_loopg [10] k (fun gk vi wr => ∃ i : Nat, vi = .int .i64 (i : Int) ∧ i ≤ k ∧ k - i ≤ gk ∧ Aside (∃ X1 X2 Y1 Y2, X = X1 ++ X2 ∧ Y = Y1 ++ Y2 ∧ X1.length = i ∧ Y1.length = i ∧ At w0 blk off n (A ++ Y1 ++ X2 ++ M ++ X1 ++ Y2 ++ B) wr))
  case atStart => exact ⟨0, rfl, Nat.zero_le _, by omega, [], X, [], Y, rfl, rfl, rfl, rfl, by simpa using S0.out⟩
  case round =>
    clear S0
    obtain ⟨i, rfl, hik, hg, HS⟩ := hrel
    by_cases hlt : i < k
    · have hltz : (i : Int) < (k : Int) := by omega
      have hx : ∃ (x y : Mo) (X1 X2 Y1 Y2 : List Mo), Aside (X = X1 ++ x :: X2 ∧ Y = Y1 ++ y :: Y2 ∧ X1.length = i ∧ Y1.length = i ∧ At w0 blk off n (A ++ Y1 ++ x :: (X2 ++ M ++ X1 ++ y :: (Y2 ++ B))) wr) := by
        obtain ⟨X1, X2, Y1, Y2, e1, e2, e3, e4, hS⟩ := HS.out
        obtain ⟨h1, h2, h3, h4⟩ := HA.out
        cases X2 with
        | nil => exfalso; rw [e1] at h4; simp at h4; omega
        | cons x X2 =>
          cases Y2 with
          | nil => exfalso; rw [e1, e2] at h1; simp at h1; omega
          | cons y Y2 => exact ⟨x, y, X1, X2, Y1, Y2, e1, e2, e3, e4, by simpa using hS⟩
      clear HS
      obtain ⟨x, y, X1, X2, Y1, Y2, HS⟩ := hx
      obtain ⟨p, hp⟩ : ∃ p, p = a + i := ⟨_, rfl⟩
      obtain ⟨q, hq⟩ : ∃ q, q = b + i := ⟨_, rfl⟩
      have ea : ((a : Int) + (i : Int)).toNat = p := by omega
      have pa : (0 : Int) ≤ (a : Int) + (i : Int) := by omega
      have ba : (a : Int) + (i : Int) < (n : Int) := by omega
      have ra : IntKind.i64.wrap ((a : Int) + (i : Int)) = (a : Int) + (i : Int) := by rw [IntKind.wrap_i64]; omega
      have eb : ((b : Int) + (i : Int)).toNat = q := by omega
      have pb : (0 : Int) ≤ (b : Int) + (i : Int) := by omega
      have bb : (b : Int) + (i : Int) < (n : Int) := by omega
      have rb : IntKind.i64.wrap ((b : Int) + (i : Int)) = (b : Int) + (i : Int) := by rw [IntKind.wrap_i64]; omega
      have hpP : p = (A ++ Y1).length ∧ q = (A ++ Y1).length + 1 + (X2 ++ M ++ X1).length := by
        obtain ⟨e1, e2, e3, e4, hS⟩ := HS.out
        obtain ⟨h1, h2, h3, h4⟩ := HA.out
        rw [e1] at h3
        simp at h3 ⊢
        omega
      have c1 : wr.cell? ⟨blk, off + p, none⟩ = some (.float .f64 x.v) := by
        rw [hpP.1]
        exact HS.out.2.2.2.2.cell R rfl
      have c2 : wr.cell? ⟨blk, off + q, none⟩ = some (.float .f64 y.v) := by
        have := HS.out.2.2.2.2.cell R (P := A ++ Y1 ++ x :: (X2 ++ M ++ X1)) (x := y) (S := Y2 ++ B) (by simp)
        rw [show (A ++ Y1 ++ x :: (X2 ++ M ++ X1)).length = q by rw [hpP.2]; simp; omega] at this
        exact this
      have f1 : wr.frozen? ⟨blk, off + p, none⟩ = false := HS.out.2.2.2.2.free R (by omega)
      have f2 : wr.frozen? ⟨blk, off + q, none⟩ = false := HS.out.2.2.2.2.free R (by omega)
      have c3 : (wr.setCell ⟨blk, off + p, none⟩ (.float .f64 y.v)).cell? ⟨blk, off + q, none⟩ = some (.float .f64 y.v) := by
        have := HS.out.2.2.2.2.second R (P := A ++ Y1 ++ x :: (X2 ++ M ++ X1)) (x := y) (S := Y2 ++ B) (by simp) (i := p) (by rw [hpP.1]; simp) (.float .f64 y.v)
        rw [show (A ++ Y1 ++ x :: (X2 ++ M ++ X1)).length = q by rw [hpP.2]; simp; omega] at this
        exact this
      have S3 : Aside (At w0 blk off n (A ++ Y1 ++ y :: (X2 ++ M ++ X1 ++ x :: (Y2 ++ B))) ((wr.setCell ⟨blk, off + p, none⟩ (.float .f64 y.v)).setCell ⟨blk, off + q, none⟩ (.float .f64 x.v)).drew) := (HS.out.2.2.2.2.swap R (P := A ++ Y1) (M := X2 ++ M ++ X1) (S := Y2 ++ B) rfl hpP.1 hpP.2).drew
      have HS2 : Aside (X = X1 ++ x :: X2 ∧ Y = Y1 ++ y :: Y2 ∧ X1.length = i ∧ Y1.length = i) := ⟨HS.out.1, HS.out.2.1, HS.out.2.2.1, HS.out.2.2.2.1⟩
      clear HS hpP hp hq
      go_wp2_with fail
      go_region
      all_goals
        clear c1 c2 c3 f1 f2 ea eb
        generalize ((wr.setCell ⟨blk, off + p, none⟩ (.float .f64 y.v)).setCell ⟨blk, off + q, none⟩ (.float .f64 x.v)).drew = w3 at S3 ⊢
        go_wp2
        go_roundg (k - (i + 1))
        case measure => omega
        case rel =>
          obtain ⟨e1, e2, e3, e4⟩ := HS2.out
          exact ⟨i + 1, by go_num, by omega, by omega, X1 ++ [x], X2, Y1 ++ [y], Y2, by rw [e1]; simp, by rw [e2]; simp, by simp [e3], by simp [e4], by simpa using S3.out⟩
    · have hltz : ¬ (i : Int) < (k : Int) := by omega
      go_wp2
      go_end0
      refine ⟨rfl, ?_⟩
      obtain ⟨X1, X2, Y1, Y2, e1, e2, e3, e4, hS⟩ := HS.out
      obtain ⟨h1, h2, h3, h4⟩ := HA.out
      have x2 : X2 = [] := List.eq_nil_of_length_eq_zero (by rw [e1] at h4; simp at h4; omega)
      have y2 : Y2 = [] := List.eq_nil_of_length_eq_zero (by rw [e1, e2, x2] at h1; simp at h1; omega)
      subst x2 y2
      rw [e1, e2]
      simpa using hS
end Go.Proofs.Ytbipkelocbkccaa
