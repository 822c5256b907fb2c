/-
  slices.symMergeCmpFunc at moments, where the part behind is one moment alone: it is put in its place.
-/
import Derived.Test.YtbipkelocbkccaaMergeA
import Derived.Test.YtbipkelocbkccaaInsert
namespace Go.Proofs.Ytbipkelocbkccaa
open Go.RowKit Go.Lib Go.Sort
set_option linter.unusedVariables false

set_option maxHeartbeats 2000000 in
set_option maxRecDepth 100000 in
theorem mergeB (w0 w : World) (blk off cap n : Nat) (A X B : List Mo) (y : Mo) (R : Ro w0 blk off n) (a b m : Nat) (ha : a = A.length) (hm : m = A.length + X.length) (hb : b = m + 1) (hX : Sortd X) (hX0 : 1 < X.length)
    (S : At w0 blk off n (A ++ X ++ y :: B) w) :
    Calls Try.prog 36 #[.slice (some ⟨blk, off, none⟩) n cap, .int .i64 (a : Int), .int .i64 (m : Int), .int .i64 (b : Int), .func (.func 12) #[] #[]] w
      fun e w' => e = .returned (.tuple #[]) ∧ ∃ Z, SS (X ++ [y]) Z ∧ At w0 blk off n (A ++ Z ++ B) w' := by
  have hsm := R.small
  have hn : a + 1 < m ∧ m < b ∧ b ≤ n := by
    have := S.len
    simp only [List.length_append, List.length_cons] at this
    omega
  obtain ⟨l, hl⟩ : ∃ l, l = A ++ X ++ y :: B := ⟨_, rfl⟩
  have S0 : Aside (At w0 blk off n l w) := by rw [hl]; exact S
  have HA : Aside (a = A.length ∧ m = A.length + X.length ∧ Sortd X ∧ l = A ++ X ++ y :: B) := ⟨ha, hm, hX, hl⟩
  have hx : (l[m]!) = y := by
    rw [hl, hm, getElem!_pos _ _ (by simp)]
    simp
  have hma : ((m : Int) - (a : Int) == 1) = false := beq_eq_false_iff_ne.2 (by omega)
  have hbm : (b : Int) - (m : Int) = 1 := by omega
  clear S ha hb hX hl hX0 hm
  have hst := store_float
  go_enter Try.func36, Try.ntmps36
  go_wp2
  go_loopg [14, 15, 16] n (fun gk vi vj vh wr => ∃ i j : Nat, vi = .int .i64 (i : Int) ∧ vj = .int .i64 (j : Int) ∧ a ≤ i ∧ i ≤ j ∧ j ≤ m ∧ j - i ≤ gk ∧ Aside ((i = a ∨ ki l (i - 1) ≤ y.key) ∧ (j = m ∨ y.key < ki l j) ∧ At w0 blk off n l wr))
  case atStart => exact ⟨a, m, rfl, rfl, Nat.le_refl _, by omega, Nat.le_refl _, by omega, .inl rfl, .inl rfl, S0.out⟩
  case round =>
    clear S0
    obtain ⟨i, j, rfl, rfl, hi, hij, hj, hg, HS⟩ := hrel
    by_cases hlt : i < j
    · have hltz : (i : Int) < (j : Int) := by omega
      obtain ⟨h, hh⟩ : ∃ h, h = (i + j) / 2 := ⟨_, rfl⟩
      have e0 : ((i : Int) + (j : Int)) / 2 = (h : Int) := by omega
      have h1 : i ≤ h ∧ h < j := by omega
      have bh : (h : Int) < (n : Int) := by omega
      have ba : (m : Int) < (n : Int) := by omega
      have c1 := HS.out.2.2.cellI R (i := h) (by omega)
      have c2 := HS.out.2.2.cellI R (i := m) (by omega)
      rw [hx] at c2
      obtain ⟨x, hxh⟩ : ∃ x, x = l[h]! := ⟨_, rfl⟩
      rw [← hxh] at c1
      have CQ := compare_quiet y x wr
      have HY : Aside (ki l h = x.key) := by rw [hxh]; rfl
      by_cases hk : y.key < x.key
      · have v1 : cmpN y.v x.v < 0 := cmp_neg.2 hk
        have v2 : decide (cmpN y.v x.v < 0) = true := decide_eq_true v1
        have HK : Aside (y.key < x.key) := hk
        clear hk hxh hh hx
        go_wp2_with fail
        go_quiet (first | (go_at_call 12; exact CQ _))
        have H2 : Aside ((i = a ∨ ki l (i - 1) ≤ y.key) ∧ At w0 blk off n l (wr.drewN nq)) := ⟨HS.out.1, HS.out.2.2.drewN nq⟩
        clear HS c1 c2 CQ
        generalize wr.drewN nq = w2 at H2 ⊢
        go_wp2
        go_roundg (h - i)
        case measure => omega
        case rel => exact ⟨i, h, rfl, by first | rfl | go_num, by omega, by omega, by omega, by omega, H2.out.1, .inr (by have := HY.out; have := HK.out; omega), H2.out.2⟩
      · have v1 : ¬ cmpN y.v x.v < 0 := fun q => hk (cmp_neg.1 q)
        have v2 : decide (cmpN y.v x.v < 0) = false := decide_eq_false v1
        have HK : Aside (x.key ≤ y.key) := by show x.key ≤ y.key; omega
        clear hk hxh hh hx
        go_wp2_with fail
        go_quiet (first | (go_at_call 12; exact CQ _))
        have H2 : Aside ((j = m ∨ y.key < ki l j) ∧ At w0 blk off n l (wr.drewN nq)) := ⟨HS.out.2.1, HS.out.2.2.drewN nq⟩
        clear HS c1 c2 CQ
        generalize wr.drewN nq = w2 at H2 ⊢
        go_wp2
        go_roundg (j - (h + 1))
        case measure => omega
        case rel => exact ⟨h + 1, j, by go_num, rfl, by omega, by omega, by omega, by omega, .inr (by have := HY.out; have := HK.out; rw [Nat.add_sub_cancel]; omega), H2.out.1, H2.out.2⟩
    · have hltz : ¬ (i : Int) < (j : Int) := by omega
      have HY : ∃ X1 X2 : List Mo, Aside (X = X1 ++ X2 ∧ a + X1.length = i ∧ SS (X ++ [y]) (X1 ++ y :: X2) ∧ At w0 blk off n (A ++ X1 ++ X2 ++ y :: B) wr) := by
        obtain ⟨q1, q2, q3⟩ := HS.out
        obtain ⟨r1, r2, r3, r4⟩ := HA.out
        obtain rfl : i = j := by omega
        obtain ⟨t, ht⟩ : ∃ t, t = i - a := ⟨_, rfl⟩
        have ey : X = X.take t ++ X.drop t := (List.take_append_drop t X).symm
        have kk : ∀ u, u < X.length → ki l (a + u) = (X[u]!).key := by
          intro u hu
          unfold ki
          rw [r4, r1, at_mid _ _ _ _ hu]
        have t1 : ∀ x ∈ X.take t, x.key ≤ y.key := by
          intro x hx
          rcases q1 with q1 | q1
          · rw [show t = 0 by omega] at hx
            simp at hx
          · obtain ⟨u, hu⟩ : ∃ u, u + 1 = t := by
              refine ⟨t - 1, ?_⟩
              rcases Nat.eq_zero_or_pos t with e | e
              · rw [e] at hx
                simp at hx
              · omega
            rw [← hu] at hx
            have h1 := take_le r3 (j := u) (by omega) x hx
            have h2 := kk u (by omega)
            rw [show a + u = i - 1 by omega] at h2
            omega
        have t2 : ∀ x ∈ X.drop t, y.key < x.key := by
          intro x hx
          by_cases e : t < X.length
          · rcases q2 with q2 | q2
            · omega
            · have h1 := drop_ge r3 e x hx
              have h2 := kk t e
              rw [show a + t = i by omega] at h2
              omega
          · rw [List.drop_eq_nil_of_le (by omega)] at hx
            simp at hx
        refine ⟨X.take t, X.drop t, ey, ?_, ?_, ?_⟩
        · rw [List.length_take]
          omega
        · have := insert_of (S1 := X.take t) (S2 := X.drop t) (t := y) (by rw [← ey]; exact r3) t1 t2
          rw [← ey] at this
          exact this
        · rw [List.append_assoc A, ← ey, ← r4]
          exact q3
      obtain ⟨X1, X2, HY⟩ := HY
      clear HS
      go_wp2
      go_loopg [17] n (fun gk vk wr => ∃ k : Nat, vk = .int .i64 (k : Int) ∧ i ≤ k ∧ k ≤ m ∧ k ≤ gk ∧ Aside (∃ Xa Xb : List Mo, X2 = Xa ++ Xb ∧ i + Xa.length = k ∧ At w0 blk off n (A ++ X1 ++ Xa ++ y :: (Xb ++ B)) wr))
      case atStart => exact ⟨m, rfl, by omega, Nat.le_refl _, by omega, X2, [], by simp, by
        obtain ⟨r1, r2, r3, r4⟩ := HA.out
        have h1 := HY.out.2.1
        have h2 := HY.out.1
        rw [h2] at r2
        simp at r2
        omega, by simpa using HY.out.2.2.2⟩
      case round =>
        have HZ : Aside (a + X1.length = i ∧ SS (X ++ [y]) (X1 ++ y :: X2)) := ⟨HY.out.2.1, HY.out.2.2.1⟩
        clear HY
        obtain ⟨k, rfl, hik, hkm, hgk, HS⟩ := hrel
        by_cases hk : i < k
        · obtain ⟨kp, rfl⟩ : ∃ q, k = q + 1 := ⟨k - 1, by omega⟩
          have zk : ((kp + 1 : Nat) : Int) = (kp : Int) + 1 := by omega
          have hkz : (i : Int) < (kp : Int) + 1 := by omega
          have hq : ∃ (x : Mo) (Xa Xb : List Mo), Aside (X2 = Xa ++ x :: Xb ∧ i + Xa.length = kp ∧ At w0 blk off n (A ++ X1 ++ Xa ++ x :: ([] ++ y :: (Xb ++ B))) wr) := by
            obtain ⟨Xa, Xb, e1, e2, hS⟩ := HS.out
            obtain ⟨Xa', x, rfl⟩ := snoc_of (S := Xa) (by omega)
            exact ⟨x, Xa', Xb, by rw [e1]; simp, by simp at e2; omega, by simpa using hS⟩
          obtain ⟨x, Xa, Xb, HX⟩ := hq
          clear HS
          obtain ⟨p, hp⟩ : ∃ p, p = kp := ⟨_, rfl⟩
          obtain ⟨q, hq⟩ : ∃ q, q = kp + 1 := ⟨_, rfl⟩
          have ea : ((kp : Int)).toNat = p := by omega
          have pa : (0 : Int) ≤ (kp : Int) := by omega
          have ba : (kp : Int) < (n : Int) := by omega
          have eb : ((kp : Int) + 1).toNat = q := by omega
          have pb : (0 : Int) ≤ (kp : Int) + 1 := by omega
          have bb : (kp : Int) + 1 < (n : Int) := by omega
          have rb : IntKind.i64.wrap ((kp : Int) + 1) = (kp : Int) + 1 := by rw [IntKind.wrap_i64]; omega
          have ra : IntKind.i64.wrap (kp : Int) = (kp : Int) := by rw [IntKind.wrap_i64]; omega
          have hpP : p = (A ++ X1 ++ Xa).length ∧ q = (A ++ X1 ++ Xa).length + 1 + ([] : List Mo).length := by
            obtain ⟨e1, e2, hS⟩ := HX.out
            obtain ⟨h1, h2⟩ := HA.out
            have := HZ.out.1
            simp
            omega
          have hq2 : (A ++ X1 ++ Xa ++ [x]).length = q := by rw [hpP.2]; simp; omega
          have c1 : wr.cell? ⟨blk, off + p, none⟩ = some (.float .f64 x.v) := by
            rw [hpP.1]
            exact HX.out.2.2.cell R rfl
          have c2 : wr.cell? ⟨blk, off + q, none⟩ = some (.float .f64 y.v) := by
            have := HX.out.2.2.cell R (P := A ++ X1 ++ Xa ++ [x]) (x := y) (S := Xb ++ B) (by simp)
            rw [hq2] at this
            exact this
          have f1 : wr.frozen? ⟨blk, off + p, none⟩ = false := HX.out.2.2.free R (by omega)
          have f2 : wr.frozen? ⟨blk, off + q, none⟩ = false := HX.out.2.2.free R (by omega)
          have c3 : (wr.setCell ⟨blk, off + q, none⟩ (.float .f64 x.v)).cell? ⟨blk, off + p, none⟩ = some (.float .f64 x.v) := by
            have := HX.out.2.2.second R (P := A ++ X1 ++ Xa) (x := x) rfl (i := q) (by rw [hpP.2]; simp) (.float .f64 x.v)
            rw [← hpP.1] at this
            exact this
          have S3 : Aside (At w0 blk off n (A ++ X1 ++ Xa ++ y :: ([] ++ x :: (Xb ++ B))) ((wr.setCell ⟨blk, off + q, none⟩ (.float .f64 x.v)).setCell ⟨blk, off + p, none⟩ (.float .f64 y.v)).drew) :=
            (HX.out.2.2.swapR R (P := A ++ X1 ++ Xa) (M := []) (S := Xb ++ B) rfl hpP.1 hpP.2).drew
          have HX2 : Aside (X2 = Xa ++ x :: Xb ∧ i + Xa.length = kp) := ⟨HX.out.1, HX.out.2.1⟩
          clear HX hpP hq2 hp hq hx
          go_wp2_with fail
          go_region
          all_goals
            clear c1 c2 c3 f1 f2 ea eb
            generalize ((wr.setCell ⟨blk, off + q, none⟩ (.float .f64 x.v)).setCell ⟨blk, off + p, none⟩ (.float .f64 y.v)).drew = w3 at S3 ⊢
            go_wp2
            go_roundg kp
            case measure => omega
            case rel =>
              obtain ⟨e1, e2⟩ := HX2.out
              exact ⟨kp, by first | rfl | go_num, by omega, by omega, Nat.le_refl _, Xa, x :: Xb, e1, e2, by simpa using S3.out⟩
        · have hkz : ¬ (i : Int) < (k : Int) := by omega
          go_wp2
          refine bodyPost_ret (results_none rfl _ _ _) rfl ?_
          refine ⟨rfl, X1 ++ y :: X2, HZ.out.2, ?_⟩
          obtain ⟨Xa, Xb, e1, e2, hS⟩ := HS.out
          have : Xa = [] := List.eq_nil_of_length_eq_zero (by omega)
          subst this
          rw [e1]
          simpa using hS
end Go.Proofs.Ytbipkelocbkccaa
