/-
  slices.symMergeCmpFunc at moments, where the part ahead is one moment alone: it is put in its place.
-/
import Derived.Test.YtbipkelocbkccaaRow
namespace Go.Proofs.Ytbipkelocbkccaa
open Go.RowKit Go.Lib Go.Sort
set_option linter.unusedVariables false

/-- The key at a place of a row. -/
def ki (l : List Mo) (i : Nat) : Nat := (l[i]!).key

set_option maxHeartbeats 2000000 in
set_option maxRecDepth 100000 in
theorem mergeA (w0 w : World) (blk off cap n : Nat) (A Y B : List Mo) (x : Mo) (R : Ro w0 blk off n) (a b : Nat) (ha : a = A.length) (hb : b = A.length + 1 + Y.length) (hY : Sortd Y) (hY0 : 0 < Y.length)
    (S : At w0 blk off n (A ++ x :: (Y ++ B)) w) :
    Calls Try.prog 36 #[.slice (some ⟨blk, off, none⟩) n cap, .int .i64 (a : Int), .int .i64 ((a + 1 : Nat) : Int), .int .i64 (b : Int), .func (.func 12) #[] #[]] w
      fun e w' => e = .returned (.tuple #[]) ∧ ∃ Z, SS (x :: Y) Z ∧ At w0 blk off n (A ++ Z ++ B) w' := by
  have hsm := R.small
  have hn : a + 1 < b ∧ b ≤ n := by
    have := S.len
    simp only [List.length_append, List.length_cons] at this
    omega
  obtain ⟨l, hl⟩ : ∃ l, l = A ++ x :: (Y ++ B) := ⟨_, rfl⟩
  have S0 : Aside (At w0 blk off n l w) := by rw [hl]; exact S
  have HA : Aside (a = A.length ∧ b = A.length + 1 + Y.length ∧ Sortd Y ∧ l = A ++ x :: (Y ++ B)) := ⟨ha, hb, hY, hl⟩
  have hx : (l[a]!) = x := by
    rw [hl, ha, getElem!_pos _ _ (by simp)]
    simp
  clear S ha hb hY hl hY0
  have hst := store_float
  obtain ⟨m, hm⟩ : ∃ m, m = a + 1 := ⟨_, rfl⟩
  rw [← hm]
  have hma : (m : Int) - (a : Int) = 1 := by omega
  have hm1 : m ≤ a + 1 := by omega
  have hm2 : a + 1 ≤ m := by omega
  clear hm
  go_enter Try.func36, Try.ntmps36
  go_wp2
  go_loopg [10, 11, 12] n (fun gk vi vj vh wr => ∃ i j : Nat, vi = .int .i64 (i : Int) ∧ vj = .int .i64 (j : Int) ∧ m ≤ i ∧ i ≤ j ∧ j ≤ b ∧ j - i ≤ gk ∧ Aside ((i = m ∨ ki l (i - 1) < x.key) ∧ (j = b ∨ x.key ≤ ki l j) ∧ At w0 blk off n l wr))
  case atStart => exact ⟨m, b, rfl, rfl, Nat.le_refl _, by omega, Nat.le_refl _, by omega, .inl rfl, .inl rfl, S0.out⟩
  case round =>
    clear S0
    obtain ⟨i, j, rfl, rfl, hi, hij, hj, hg, HS⟩ := hrel
    by_cases hlt : i < j
    · have hltz : (i : Int) < (j : Int) := by omega
      obtain ⟨h, hh⟩ : ∃ h, h = (i + j) / 2 := ⟨_, rfl⟩
      have e0 : ((i : Int) + (j : Int)) / 2 = (h : Int) := by omega
      have h1 : i ≤ h ∧ h < j := by omega
      have bh : (h : Int) < (n : Int) := by omega
      have ba : (a : Int) < (n : Int) := by omega
      have c1 := HS.out.2.2.cellI R (i := h) (by omega)
      have c2 := HS.out.2.2.cellI R (i := a) (by omega)
      rw [hx] at c2
      obtain ⟨y, hy⟩ : ∃ y, y = l[h]! := ⟨_, rfl⟩
      rw [← hy] at c1
      have CQ := compare_quiet y x wr
      have HY : Aside (ki l h = y.key) := by rw [hy]; rfl
      by_cases hk : y.key < x.key
      · have v1 : cmpN y.v x.v < 0 := cmp_neg.2 hk
        have v2 : decide (cmpN y.v x.v < 0) = true := decide_eq_true v1
        have HK : Aside (y.key < x.key) := hk
        clear hk hy hh hx
        go_wp2_with fail
        go_quiet (first | (go_at_call 12; exact CQ _))
        have H2 : Aside ((j = b ∨ x.key ≤ ki l j) ∧ At w0 blk off n l (wr.drewN nq)) := ⟨HS.out.2.1, HS.out.2.2.drewN nq⟩
        clear HS c1 c2 CQ
        generalize wr.drewN nq = w2 at H2 ⊢
        go_wp2
        go_roundg (j - (h + 1))
        case measure => omega
        case rel => exact ⟨h + 1, j, by go_num, rfl, by omega, by omega, by omega, by omega, .inr (by have := HY.out; have := HK.out; rw [Nat.add_sub_cancel]; omega), H2.out.1, H2.out.2⟩
      · have v1 : ¬ cmpN y.v x.v < 0 := fun q => hk (cmp_neg.1 q)
        have v2 : decide (cmpN y.v x.v < 0) = false := decide_eq_false v1
        have HK : Aside (x.key ≤ y.key) := by show x.key ≤ y.key; omega
        clear hk hy hh hx
        go_wp2_with fail
        go_quiet (first | (go_at_call 12; exact CQ _))
        have H2 : Aside ((i = m ∨ ki l (i - 1) < x.key) ∧ At w0 blk off n l (wr.drewN nq)) := ⟨HS.out.1, HS.out.2.2.drewN nq⟩
        clear HS c1 c2 CQ
        generalize wr.drewN nq = w2 at H2 ⊢
        go_wp2
        go_roundg (h - i)
        case measure => omega
        case rel => exact ⟨i, h, rfl, by first | rfl | go_num, by omega, by omega, by omega, by omega, H2.out.1, .inr (by have := HY.out; have := HK.out; omega), H2.out.2⟩
    · have hltz : ¬ (i : Int) < (j : Int) := by omega
      have HY : ∃ Y1 Y2 : List Mo, Aside (Y = Y1 ++ Y2 ∧ m + Y1.length = i ∧ SS (x :: Y) (Y1 ++ x :: Y2) ∧ At w0 blk off n (A ++ x :: (Y1 ++ Y2 ++ B)) wr) := by
        obtain ⟨q1, q2, q3⟩ := HS.out
        obtain ⟨r1, r2, r3, r4⟩ := HA.out
        obtain rfl : i = j := by omega
        obtain ⟨t, ht⟩ : ∃ t, t = i - m := ⟨_, rfl⟩
        have ey : Y = Y.take t ++ Y.drop t := (List.take_append_drop t Y).symm
        have kk : ∀ u, u < Y.length → ki l (m + u) = (Y[u]!).key := by
          intro u hu
          unfold ki
          rw [r4, show A ++ x :: (Y ++ B) = (A ++ [x]) ++ Y ++ B by simp, show m + u = (A ++ [x]).length + u by simp; omega, at_mid _ _ _ _ hu]
        have t1 : ∀ y ∈ Y.take t, y.key < x.key := by
          intro y hy
          rcases q1 with q1 | q1
          · rw [show t = 0 by omega] at hy
            simp at hy
          · obtain ⟨u, hu⟩ : ∃ u, u + 1 = t := by
              refine ⟨t - 1, ?_⟩
              rcases Nat.eq_zero_or_pos t with e | e
              · rw [e] at hy
                simp at hy
              · omega
            rw [← hu] at hy
            have h1 := take_le r3 (j := u) (by omega) y hy
            have h2 := kk u (by omega)
            rw [show m + u = i - 1 by omega] at h2
            omega
        have t2 : ∀ y ∈ Y.drop t, x.key ≤ y.key := by
          intro y hy
          by_cases e : t < Y.length
          · rcases q2 with q2 | q2
            · omega
            · have h1 := drop_ge r3 e y hy
              have h2 := kk t e
              rw [show m + t = i by omega] at h2
              omega
          · rw [List.drop_eq_nil_of_le (by omega)] at hy
            simp at hy
        refine ⟨Y.take t, Y.drop t, ey, ?_, ?_, ?_⟩
        · rw [List.length_take]
          omega
        · have := insert_ahead (S1 := Y.take t) (S2 := Y.drop t) (t := x) (by rw [← ey]; exact r3) t1 t2
          rw [← ey] at this
          exact this
        · rw [← ey, ← r4]
          exact q3
      obtain ⟨Y1, Y2, HY⟩ := HY
      clear HS
      go_wp2
      go_loopg [13] n (fun gk vk wr => ∃ k : Nat, vk = .int .i64 (k : Int) ∧ a ≤ k ∧ k < i ∧ i - k ≤ gk ∧ Aside (∃ Ya Yb : List Mo, Y1 = Ya ++ Yb ∧ a + Ya.length = k ∧ At w0 blk off n (A ++ Ya ++ x :: (Yb ++ Y2 ++ B)) wr))
      case atStart => exact ⟨a, rfl, Nat.le_refl _, by omega, by omega, [], Y1, rfl, rfl, by simpa using HY.out.2.2.2⟩
      case round =>
        have HZ : Aside (m + Y1.length = i ∧ SS (x :: Y) (Y1 ++ x :: Y2)) := ⟨HY.out.2.1, HY.out.2.2.1⟩
        clear HY
        obtain ⟨k, rfl, hak, hki, hgk, HS⟩ := hrel
        by_cases hk : k + 1 < i
        · have hkz : (k : Int) < (i : Int) - 1 := by omega
          have hq : ∃ (y : Mo) (Ya Yb : List Mo), Aside (Y1 = Ya ++ y :: Yb ∧ a + Ya.length = k ∧ At w0 blk off n (A ++ Ya ++ x :: ([] ++ y :: (Yb ++ Y2 ++ B))) wr) := by
            obtain ⟨Ya, Yb, e1, e2, hS⟩ := HS.out
            cases Yb with
            | nil =>
              exfalso
              have := HZ.out.1
              rw [e1] at this
              simp at this
              omega
            | cons y Yb => exact ⟨y, Ya, Yb, e1, e2, by simpa using hS⟩
          obtain ⟨y, Ya, Yb, HX⟩ := hq
          clear HS
          obtain ⟨p, hp⟩ : ∃ p, p = k := ⟨_, rfl⟩
          obtain ⟨q, hq⟩ : ∃ q, q = k + 1 := ⟨_, rfl⟩
          have ea : ((k : Int)).toNat = p := by omega
          have pa : (0 : Int) ≤ (k : Int) := by omega
          have ba : (k : Int) < (n : Int) := by omega
          have eb : ((k : Int) + 1).toNat = q := by omega
          have pb : (0 : Int) ≤ (k : Int) + 1 := by omega
          have bb : (k : Int) + 1 < (n : Int) := by omega
          have rb : IntKind.i64.wrap ((k : Int) + 1) = (k : Int) + 1 := by rw [IntKind.wrap_i64]; omega
          have hpP : p = (A ++ Ya).length ∧ q = (A ++ Ya).length + 1 + ([] : List Mo).length := by
            obtain ⟨e1, e2, hS⟩ := HX.out
            obtain ⟨h1, h2⟩ := HA.out
            simp
            omega
          have hq2 : (A ++ Ya ++ [x]).length = q := by rw [hpP.2]; simp; omega
          have c1 : wr.cell? ⟨blk, off + p, none⟩ = some (.float .f64 x.v) := by
            rw [hpP.1]
            exact HX.out.2.2.cell R rfl
          have c2 : wr.cell? ⟨blk, off + q, none⟩ = some (.float .f64 y.v) := by
            have := HX.out.2.2.cell R (P := A ++ Ya ++ [x]) (x := y) (S := Yb ++ Y2 ++ B) (by simp)
            rw [hq2] at this
            exact this
          have f1 : wr.frozen? ⟨blk, off + p, none⟩ = false := HX.out.2.2.free R (by omega)
          have f2 : wr.frozen? ⟨blk, off + q, none⟩ = false := HX.out.2.2.free R (by omega)
          have c3 : (wr.setCell ⟨blk, off + p, none⟩ (.float .f64 y.v)).cell? ⟨blk, off + q, none⟩ = some (.float .f64 y.v) := by
            have := HX.out.2.2.second R (P := A ++ Ya ++ [x]) (x := y) (S := Yb ++ Y2 ++ B) (by simp) (i := p) (by rw [hpP.1]; simp) (.float .f64 y.v)
            rw [hq2] at this
            exact this
          have S3 : Aside (At w0 blk off n (A ++ Ya ++ y :: ([] ++ x :: (Yb ++ Y2 ++ B))) ((wr.setCell ⟨blk, off + p, none⟩ (.float .f64 y.v)).setCell ⟨blk, off + q, none⟩ (.float .f64 x.v)).drew) :=
            (HX.out.2.2.swap R (P := A ++ Ya) (M := []) (S := Yb ++ Y2 ++ B) rfl hpP.1 hpP.2).drew
          have HX2 : Aside (Y1 = Ya ++ y :: Yb ∧ a + Ya.length = k) := ⟨HX.out.1, HX.out.2.1⟩
          clear HX hpP hq2 hp hq hx
          go_wp2_with fail
          go_region
          all_goals
            clear c1 c2 c3 f1 f2 ea eb
            generalize ((wr.setCell ⟨blk, off + p, none⟩ (.float .f64 y.v)).setCell ⟨blk, off + q, none⟩ (.float .f64 x.v)).drew = w3 at S3 ⊢
            go_wp2
            go_roundg (i - (k + 1))
            case measure => omega
            case rel =>
              obtain ⟨e1, e2⟩ := HX2.out
              exact ⟨k + 1, by go_num, by omega, by omega, Nat.le_refl _, Ya ++ [y], Yb, by rw [e1]; simp, by simp; omega, by simpa using S3.out⟩
        · have hkz : ¬ (k : Int) < (i : Int) - 1 := by omega
          go_wp2
          refine bodyPost_ret (results_none rfl _ _ _) rfl ?_
          refine ⟨rfl, Y1 ++ x :: Y2, HZ.out.2, ?_⟩
          obtain ⟨Ya, Yb, e1, e2, hS⟩ := HS.out
          have : Yb = [] := List.eq_nil_of_length_eq_zero (by have := HZ.out.1; rw [e1] at this; simp at this; omega)
          subst this
          rw [e1]
          simpa using hS
end Go.Proofs.Ytbipkelocbkccaa
