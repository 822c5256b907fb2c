/-
  slices.symMergeCmpFunc at moments: two neighbouring parts of a row that are in order are left as one that is in order.
-/
import Derived.Test.YtbipkelocbkccaaMergeB
import Derived.Test.YtbipkelocbkccaaRotate
namespace Go.Proofs.Ytbipkelocbkccaa
open Go.RowKit Go.Lib Go.Sort
set_option linter.unusedVariables false

/-- Where the search ends the two parts are cut so that their halves may be merged apart. -/
theorem sym_split (A X Y B l : List Mo) (hl : l = A ++ X ++ Y ++ B) (a m b mid s s0 r0 : Nat) (ha : a = A.length) (hm : m = a + X.length) (hb : b = m + Y.length) (hX : Sortd X) (hY : Sortd Y) (hX2 : 2 ≤ X.length) (hY2 : 2 ≤ Y.length) (hmid : mid = (a + b) / 2)
    (hsr : (mid < m ∧ s0 = mid + m - b ∧ r0 = mid) ∨ (m ≤ mid ∧ s0 = a ∧ r0 = m)) (h0 : s0 ≤ s) (h1 : s ≤ r0)
    (q1 : s = s0 ∨ ki l (s - 1) ≤ ki l (mid + m - 1 - (s - 1))) (q2 : s = r0 ∨ ki l (mid + m - 1 - s) < ki l s) :
    ∃ X1 X2 Y1 Y2, X = X1 ++ X2 ∧ Y = Y1 ++ Y2 ∧ a + X1.length = s ∧ s + Y1.length = mid ∧ (∀ x ∈ X2, ∀ y ∈ Y1, y.key < x.key) ∧ (∀ x ∈ X1, ∀ y ∈ Y2, x.key ≤ y.key) := by
  obtain ⟨t, ht⟩ : ∃ t, t = s - a := ⟨_, rfl⟩
  obtain ⟨u, hu⟩ : ∃ u, u = mid - s := ⟨_, rfl⟩
  have g1 : a ≤ s ∧ s ≤ m ∧ s ≤ mid ∧ mid + m - s ≤ b := by omega
  have kx : ∀ i, i < X.length → ki l (a + i) = (X[i]!).key := by
    intro i hi
    unfold ki
    rw [hl, ha, show A ++ X ++ Y ++ B = A ++ X ++ (Y ++ B) by simp, at_mid _ _ _ _ hi]
  have ky : ∀ i, i < Y.length → ki l (m + i) = (Y[i]!).key := by
    intro i hi
    unfold ki
    rw [hl, show m + i = (A ++ X).length + i by simp; omega, at_mid _ _ _ _ hi]
  refine ⟨X.take t, X.drop t, Y.take u, Y.drop u, (List.take_append_drop _ _).symm, (List.take_append_drop _ _).symm, by rw [List.length_take]; omega, by rw [List.length_take]; omega, ?_, ?_⟩
  · intro x hx y hy
    have l1 : t < X.length := by
      rcases Nat.lt_or_ge t X.length with h | h
      · exact h
      · rw [List.drop_eq_nil_of_le h] at hx
        simp at hx
    obtain ⟨v, hv⟩ : ∃ v, v + 1 = u := by
      refine ⟨u - 1, ?_⟩
      rcases Nat.eq_zero_or_pos u with e | e
      · rw [e] at hy
        simp at hy
      · omega
    rw [← hv] at hy
    have h2 := drop_ge hX l1 x hx
    have h3 := take_le hY (j := v) (by omega) y hy
    have e1 := kx t l1
    have e2 := ky v (by omega)
    rw [show a + t = s by omega] at e1
    rw [show m + v = mid + m - 1 - s by omega] at e2
    rcases q2 with q2 | q2 <;> omega
  · intro x hx y hy
    have l1 : u < Y.length := by
      rcases Nat.lt_or_ge u Y.length with h | h
      · exact h
      · rw [List.drop_eq_nil_of_le h] at hy
        simp at hy
    obtain ⟨v, hv⟩ : ∃ v, v + 1 = t := by
      refine ⟨t - 1, ?_⟩
      rcases Nat.eq_zero_or_pos t with e | e
      · rw [e] at hx
        simp at hx
      · omega
    rw [← hv] at hx
    have h2 := take_le hX (j := v) (by omega) x hx
    have h3 := drop_ge hY l1 y hy
    have e1 := kx v (by omega)
    have e2 := ky u l1
    rw [show a + v = s - 1 by omega] at e1
    rw [show m + u = mid + m - 1 - (s - 1) by omega] at e2
    rcases q1 with q1 | q1 <;> omega

/-- What is said of symMerge for all rows of less than N. -/
def MergeOk (w0 : World) (blk off cap n N : Nat) : Prop := ∀ (A X Y B : List Mo) (a m b : Nat) (w : World), a = A.length → m = a + X.length → b = m + Y.length → 0 < X.length → 0 < Y.length → X.length + Y.length < N → Sortd X → Sortd Y →
  At w0 blk off n (A ++ X ++ Y ++ B) w → Calls Try.prog 36 #[.slice (some ⟨blk, off, none⟩) n cap, .int .i64 (a : Int), .int .i64 (m : Int), .int .i64 (b : Int), .func (.func 12) #[] #[]] w
      fun e w' => e = .returned (.tuple #[]) ∧ ∃ Z, SS (X ++ Y) Z ∧ At w0 blk off n (A ++ Z ++ B) w'

set_option maxHeartbeats 4000000 in
set_option maxRecDepth 100000 in
theorem mergeG1 (w0 w : World) (blk off cap n N : Nat) (A X Y B : List Mo) (R : Ro w0 blk off n) (IH0 : MergeOk w0 blk off cap n N) (a m b mid : Nat) (ha : a = A.length) (hm : m = a + X.length) (hb : b = m + Y.length) (hX : Sortd X) (hY : Sortd Y) (hX2 : 2 ≤ X.length) (hY2 : 2 ≤ Y.length) (hN : X.length + Y.length ≤ N)
    (hmid : mid = (a + b) / 2) (hc : mid < m) (S : At w0 blk off n (A ++ X ++ Y ++ B) w) :
    Calls Try.prog 36 #[.slice (some ⟨blk, off, none⟩) n cap, .int .i64 (a : Int), .int .i64 (m : Int), .int .i64 (b : Int), .func (.func 12) #[] #[]] w
      fun e w' => e = .returned (.tuple #[]) ∧ ∃ Z, SS (X ++ Y) Z ∧ At w0 blk off n (A ++ Z ++ B) w' := by
  have hsm := R.small
  have hn : a + 1 < m ∧ m + 1 < b ∧ b ≤ n := by
    have := S.len
    simp only [List.length_append] at this
    omega
  obtain ⟨l, hl⟩ : ∃ l, l = A ++ X ++ Y ++ B := ⟨_, rfl⟩
  have S0 : Aside (At w0 blk off n l w) := by rw [hl]; exact S
  have HA : Aside (a = A.length ∧ m = a + X.length ∧ b = m + Y.length ∧ Sortd X ∧ Sortd Y ∧ l = A ++ X ++ Y ++ B) := ⟨ha, hm, hb, hX, hY, hl⟩
  have IH : Hid (MergeOk w0 blk off cap n N) := IH0
  have hma : ((m : Int) - (a : Int) == 1) = false := beq_eq_false_iff_ne.2 (by omega)
  have hbm : ((b : Int) - (m : Int) == 1) = false := beq_eq_false_iff_ne.2 (by omega)
  obtain ⟨s0, hs0⟩ : ∃ s0, s0 = mid + m - b := ⟨_, rfl⟩
  obtain ⟨r0, hr0⟩ : ∃ r0, r0 = mid := ⟨_, rfl⟩
  obtain ⟨nn, hnn⟩ : ∃ nn, nn = mid + m := ⟨_, rfl⟩
  obtain ⟨p, hp⟩ : ∃ p, p = mid + m - 1 := ⟨_, rfl⟩
  have HQ : Aside (mid = (a + b) / 2 ∧ ((mid < m ∧ s0 = mid + m - b ∧ r0 = mid) ∨ (m ≤ mid ∧ s0 = a ∧ r0 = m)) ∧ p = mid + m - 1 ∧ nn = mid + m) := ⟨hmid, .inl ⟨hc, hs0, hr0⟩, hp, hnn⟩
  have em : ((a : Int) + (b : Int)) / 2 = (mid : Int) := by omega
  have en : (mid : Int) + (m : Int) = (nn : Int) := by omega
  have ep : (nn : Int) - 1 = (p : Int) := by omega
  have hcz : (mid : Int) < (m : Int) := by omega
  have es : (nn : Int) - (b : Int) = (s0 : Int) := by omega
  have bn : a ≤ s0 ∧ s0 ≤ r0 ∧ r0 ≤ m ∧ r0 ≤ mid ∧ p + 1 - r0 ≥ m ∧ p - s0 < b ∧ mid < b ∧ s0 ≤ p ∧ nn ≤ b + s0 := by omega
  have bs : s0 < r0 ∨ r0 ≤ s0 := by omega
  clear S ha hm hb hX hY hl IH0 hnn hp hmid hs0 hr0 hc
  have hst := store_float
  go_enter Try.func36, Try.ntmps36
  go_wp2
  go_loopg [20, 21, 23] n (fun gk vs vr vc wr => ∃ s r : Nat, vs = .int .i64 (s : Int) ∧ vr = .int .i64 (r : Int) ∧ s0 ≤ s ∧ s ≤ r ∧ r ≤ r0 ∧ r - s ≤ gk ∧ Aside ((s = s0 ∨ ki l (s - 1) ≤ ki l (p - (s - 1))) ∧ (r = r0 ∨ ki l (p - r) < ki l r) ∧ At w0 blk off n l wr))
  case atStart =>
    obtain ⟨t1, t2, t3, t4⟩ := HQ.out
    exact ⟨s0, r0, by first | rfl | (congr 1; omega), by first | rfl | (congr 1; omega), Nat.le_refl _, by omega, Nat.le_refl _, by omega, .inl rfl, .inl rfl, S0.out⟩
  case round =>
    clear S0
    obtain ⟨s, r, rfl, rfl, hs, hsr, hr, hg, HS⟩ := hrel
    by_cases hlt : s < r
    · have hltz : (s : Int) < (r : Int) := by omega
      obtain ⟨c, hcc⟩ : ∃ c, c = (s + r) / 2 := ⟨_, rfl⟩
      obtain ⟨u, hu⟩ : ∃ u, u = p - c := ⟨_, rfl⟩
      have ec : ((s : Int) + (r : Int)) / 2 = (c : Int) := by omega
      have h1 : s ≤ c ∧ c < r := by omega
      have eu : (p : Int) - (c : Int) = (u : Int) := by omega
      have bc : (c : Int) < (n : Int) := by omega
      have bu : (u : Int) < (n : Int) := by omega
      have c1 := HS.out.2.2.cellI R (i := u) (by omega)
      have c2 := HS.out.2.2.cellI R (i := c) (by omega)
      obtain ⟨y, hy⟩ : ∃ y, y = l[u]! := ⟨_, rfl⟩
      obtain ⟨x, hx⟩ : ∃ x, x = l[c]! := ⟨_, rfl⟩
      rw [← hy] at c1
      rw [← hx] at c2
      have CQ := compare_quiet y x wr
      have HY : Aside (ki l (p - c) = y.key ∧ ki l c = x.key) := by rw [← hu, hx, hy]; exact ⟨rfl, rfl⟩
      by_cases hk : y.key < x.key
      · have v1 : cmpN y.v x.v < 0 := cmp_neg.2 hk
        have v2 : decide (cmpN y.v x.v < 0) = true := decide_eq_true v1
        have HK : Aside (y.key < x.key) := hk
        clear hk hy hx hcc hu
        go_wp2_with fail
        go_quiet (first | (go_at_call 12; exact CQ _))
        have H2 : Aside ((s = s0 ∨ ki l (s - 1) ≤ ki l (p - (s - 1))) ∧ At w0 blk off n l (wr.drewN nq)) := ⟨HS.out.1, HS.out.2.2.drewN nq⟩
        clear HS c1 c2 CQ
        generalize wr.drewN nq = w2 at H2 ⊢
        go_wp2
        go_roundg (c - s)
        case measure => omega
        case rel => exact ⟨s, c, rfl, by first | rfl | go_num, by omega, by omega, by omega, by omega, H2.out.1, .inr (by have := HY.out; have := HK.out; omega), H2.out.2⟩
      · have v1 : ¬ cmpN y.v x.v < 0 := fun q => hk (cmp_neg.1 q)
        have v2 : decide (cmpN y.v x.v < 0) = false := decide_eq_false v1
        have HK : Aside (x.key ≤ y.key) := by show x.key ≤ y.key; omega
        clear hk hy hx hcc hu
        go_wp2_with fail
        go_quiet (first | (go_at_call 12; exact CQ _))
        have H2 : Aside ((r = r0 ∨ ki l (p - r) < ki l r) ∧ At w0 blk off n l (wr.drewN nq)) := ⟨HS.out.2.1, HS.out.2.2.drewN nq⟩
        clear HS c1 c2 CQ
        generalize wr.drewN nq = w2 at H2 ⊢
        go_wp2
        go_roundg (r - (c + 1))
        case measure => omega
        case rel => exact ⟨c + 1, r, by go_num, rfl, by omega, by omega, by omega, by omega, .inr (by have := HY.out; have := HK.out; rw [Nat.add_sub_cancel]; omega), H2.out.1, H2.out.2⟩
    · have hltz : ¬ (s : Int) < (r : Int) := by omega
      have hT : ∃ X1 X2 Y1 Y2 : List Mo, Aside (X = X1 ++ X2 ∧ Y = Y1 ++ Y2 ∧ a + X1.length = s ∧ s + Y1.length = mid ∧ (∀ x ∈ X2, ∀ y ∈ Y1, y.key < x.key) ∧ (∀ x ∈ X1, ∀ y ∈ Y2, x.key ≤ y.key) ∧ At w0 blk off n (A ++ X1 ++ X2 ++ Y1 ++ Y2 ++ B) wr) := by
        obtain ⟨q1, q2, q3⟩ := HS.out
        obtain ⟨r1, r2, r3, r4, r5, r6⟩ := HA.out
        obtain ⟨t1, t2, t3, t4⟩ := HQ.out
        obtain rfl : s = r := by omega
        rw [t3] at q1 q2
        obtain ⟨X1, X2, Y1, Y2, e1, e2, e3, e4, e5, e6⟩ := sym_split A X Y B l r6 a m b mid s s0 r0 r1 r2 r3 r4 r5 hX2 hY2 t1 t2 hs hr q1 q2
        refine ⟨X1, X2, Y1, Y2, e1, e2, e3, e4, e5, e6, ?_⟩
        rw [r6, e1, e2] at q3
        simpa using q3
      obtain ⟨X1, X2, Y1, Y2, HT⟩ := hT
      obtain ⟨e, he⟩ : ∃ e, e = nn - s := ⟨_, rfl⟩
      have ee : (nn : Int) - (s : Int) = (e : Int) := by omega
      have LL : s + X2.length ≤ m ∧ m ≤ s + X2.length ∧ e + Y2.length ≤ b ∧ b ≤ e + Y2.length ∧ m + Y1.length ≤ e ∧ e ≤ m + Y1.length ∧ a + X1.length ≤ s ∧ s ≤ a + X1.length ∧ X1.length + X2.length + Y1.length + Y2.length ≤ N := by
        obtain ⟨e1, e2, e3, e4, e5, e6, hS⟩ := HT.out
        obtain ⟨r1, r2, r3, r4, r5, r6⟩ := HA.out
        rw [e1] at r2 hN
        rw [e2] at r3 hN
        simp only [List.length_append] at r2 r3 hN
        omega
      clear he
      by_cases x1 : 0 < X1.length
      · by_cases x2 : 0 < X2.length
        · by_cases y1 : 0 < Y1.length
          · by_cases y2 : 0 < Y2.length
            · have p0 : (s : Int) < (m : Int) := by omega
              have d0 : decide ((s : Int) < (m : Int)) = true := decide_eq_true p0
              have p1 : (m : Int) < (e : Int) := by omega
              have d1 : decide ((m : Int) < (e : Int)) = true := decide_eq_true p1
              have p2 : (a : Int) < (s : Int) := by omega
              have d2 : decide ((a : Int) < (s : Int)) = true := decide_eq_true p2
              have p3 : (s : Int) < (mid : Int) := by omega
              have d3 : decide ((s : Int) < (mid : Int)) = true := decide_eq_true p3
              have p4 : (mid : Int) < (e : Int) := by omega
              have d4 : decide ((mid : Int) < (e : Int)) = true := decide_eq_true p4
              have p5 : (e : Int) < (b : Int) := by omega
              have d5 : decide ((e : Int) < (b : Int)) = true := decide_eq_true p5
              clear HS
              have HC : Hid (Calls Try.prog 37 #[.slice (some ⟨blk, off, none⟩) n cap, .int .i64 (s : Int), .int .i64 (m : Int), .int .i64 (e : Int), .func (.func 12) #[] #[]] wr fun e w' => e = .returned (.tuple #[]) ∧ Aside (At w0 blk off n (A ++ X1 ++ Y1 ++ (X2 ++ Y2 ++ B)) w')) := by
                obtain ⟨e1, e2, e3, e4, e5, e6, hS⟩ := HT.out
                obtain ⟨r1, r2, r3, r4, r5, r6⟩ := HA.out
                refine (rotate w0 wr blk off cap n (A ++ X1) X2 Y1 (Y2 ++ B) _ R s m e (by simp; omega) (by simp; omega) (by simp; omega) (by omega) (by omega) (by simpa using hS)).mono ?_
                rintro e w' ⟨he, hw⟩
                exact ⟨he, by simpa [Aside] using hw⟩
              go_wp2_with fail
              refine HC.out.mono ?_
              rintro _ w1 ⟨rfl, H1⟩
              clear HC
              have HC : Hid (Calls Try.prog 36 #[.slice (some ⟨blk, off, none⟩) n cap, .int .i64 (a : Int), .int .i64 (s : Int), .int .i64 (mid : Int), .func (.func 12) #[] #[]] w1 fun e w' => e = .returned (.tuple #[]) ∧ ∃ Z, Aside (SS (X1 ++ Y1) Z ∧ At w0 blk off n (A ++ Z ++ (X2 ++ Y2 ++ B)) w')) := by
                obtain ⟨e1, e2, e3, e4, e5, e6, hS⟩ := HT.out
                obtain ⟨r1, r2, r3, r4, r5, r6⟩ := HA.out
                refine (IH.out A X1 Y1 (X2 ++ Y2 ++ B) a s mid w1 r1 (by omega) (by omega) (by omega) (by omega) (by omega) (by rw [e1] at r4; exact (List.pairwise_append.1 r4).1) (by rw [e2] at r5; exact (List.pairwise_append.1 r5).1) H1.out).mono ?_
                rintro e w' ⟨he, Z, hz, hw⟩
                exact ⟨he, Z, hz, hw⟩
              clear H1
              go_wp2_with fail
              refine HC.out.mono ?_
              rintro _ w2 ⟨rfl, Z1, H2⟩
              clear HC
              have HC : Hid (Calls Try.prog 36 #[.slice (some ⟨blk, off, none⟩) n cap, .int .i64 (mid : Int), .int .i64 (e : Int), .int .i64 (b : Int), .func (.func 12) #[] #[]] w2 fun e w' => e = .returned (.tuple #[]) ∧ ∃ Z, Aside (SS (X2 ++ Y2) Z ∧ At w0 blk off n (A ++ Z1 ++ Z ++ B) w')) := by
                obtain ⟨e1, e2, e3, e4, e5, e6, hS⟩ := HT.out
                obtain ⟨r1, r2, r3, r4, r5, r6⟩ := HA.out
                obtain ⟨z1, hS2⟩ := H2.out
                have zl := z1.2.1
                rw [List.length_append] at zl
                refine (IH.out (A ++ Z1) X2 Y2 B mid e b w2 (by rw [List.length_append]; omega) (by omega) (by omega) (by omega) (by omega) (by omega) (by rw [e1] at r4; exact (List.pairwise_append.1 r4).2.1) (by rw [e2] at r5; exact (List.pairwise_append.1 r5).2.1) (by simpa using hS2)).mono ?_
                rintro e w' ⟨he, Z, hz, hw⟩
                exact ⟨he, Z, hz, by simpa using hw⟩
              have HZ1 : Aside (SS (X1 ++ Y1) Z1) := H2.out.1
              clear H2
              go_wp2_with fail
              refine HC.out.mono ?_
              rintro _ w3 ⟨rfl, Z2, H3⟩
              clear HC
              go_wp2
              go_end0
              obtain ⟨e1, e2, e3, e4, e5, e6, hS⟩ := HT.out
              obtain ⟨r1, r2, r3, r4, r5, r6⟩ := HA.out
              refine ⟨rfl, Z1 ++ Z2, ?_, by simpa using H3.out.2⟩
              rw [e1, e2]
              rw [e1] at r4
              rw [e2] at r5
              exact merge_of r4 r5 e5 e6 HZ1.out H3.out.1
            · have p0 : (s : Int) < (m : Int) := by omega
              have d0 : decide ((s : Int) < (m : Int)) = true := decide_eq_true p0
              have p1 : (m : Int) < (e : Int) := by omega
              have d1 : decide ((m : Int) < (e : Int)) = true := decide_eq_true p1
              have p2 : (a : Int) < (s : Int) := by omega
              have d2 : decide ((a : Int) < (s : Int)) = true := decide_eq_true p2
              have p3 : (s : Int) < (mid : Int) := by omega
              have d3 : decide ((s : Int) < (mid : Int)) = true := decide_eq_true p3
              have p4 : (mid : Int) < (e : Int) := by omega
              have d4 : decide ((mid : Int) < (e : Int)) = true := decide_eq_true p4
              have p5 : ¬ (e : Int) < (b : Int) := by omega
              have d5 : decide ((e : Int) < (b : Int)) = false := decide_eq_false p5
              clear HS
              have HC : Hid (Calls Try.prog 37 #[.slice (some ⟨blk, off, none⟩) n cap, .int .i64 (s : Int), .int .i64 (m : Int), .int .i64 (e : Int), .func (.func 12) #[] #[]] wr fun e w' => e = .returned (.tuple #[]) ∧ Aside (At w0 blk off n (A ++ X1 ++ Y1 ++ (X2 ++ Y2 ++ B)) w')) := by
                obtain ⟨e1, e2, e3, e4, e5, e6, hS⟩ := HT.out
                obtain ⟨r1, r2, r3, r4, r5, r6⟩ := HA.out
                refine (rotate w0 wr blk off cap n (A ++ X1) X2 Y1 (Y2 ++ B) _ R s m e (by simp; omega) (by simp; omega) (by simp; omega) (by omega) (by omega) (by simpa using hS)).mono ?_
                rintro e w' ⟨he, hw⟩
                exact ⟨he, by simpa [Aside] using hw⟩
              go_wp2_with fail
              refine HC.out.mono ?_
              rintro _ w1 ⟨rfl, H1⟩
              clear HC
              have HC : Hid (Calls Try.prog 36 #[.slice (some ⟨blk, off, none⟩) n cap, .int .i64 (a : Int), .int .i64 (s : Int), .int .i64 (mid : Int), .func (.func 12) #[] #[]] w1 fun e w' => e = .returned (.tuple #[]) ∧ ∃ Z, Aside (SS (X1 ++ Y1) Z ∧ At w0 blk off n (A ++ Z ++ (X2 ++ Y2 ++ B)) w')) := by
                obtain ⟨e1, e2, e3, e4, e5, e6, hS⟩ := HT.out
                obtain ⟨r1, r2, r3, r4, r5, r6⟩ := HA.out
                refine (IH.out A X1 Y1 (X2 ++ Y2 ++ B) a s mid w1 r1 (by omega) (by omega) (by omega) (by omega) (by omega) (by rw [e1] at r4; exact (List.pairwise_append.1 r4).1) (by rw [e2] at r5; exact (List.pairwise_append.1 r5).1) H1.out).mono ?_
                rintro e w' ⟨he, Z, hz, hw⟩
                exact ⟨he, Z, hz, hw⟩
              clear H1
              go_wp2_with fail
              refine HC.out.mono ?_
              rintro _ w2 ⟨rfl, Z1, H2⟩
              clear HC
              have HZ1 : Aside (SS (X1 ++ Y1) Z1) := H2.out.1
              have H3 : ∃ Z, Aside (SS (X2 ++ Y2) Z ∧ At w0 blk off n (A ++ Z1 ++ Z ++ B) w2) := by
                obtain ⟨e1, e2, e3, e4, e5, e6, hS⟩ := HT.out
                obtain ⟨r1, r2, r3, r4, r5, r6⟩ := HA.out
                have sr : Sortd X2 := by rw [e1] at r4; exact (List.pairwise_append.1 r4).2.1
                have : Y2 = [] := List.eq_nil_of_length_eq_zero (by omega)
                have h1 := H2.out.2
                subst this
                exact ⟨X2, ⟨sr, by simpa using Eqv.refl _⟩, by simpa using h1⟩
              clear H2
              obtain ⟨Z2, H3⟩ := H3
              go_wp2
              go_end0
              obtain ⟨e1, e2, e3, e4, e5, e6, hS⟩ := HT.out
              obtain ⟨r1, r2, r3, r4, r5, r6⟩ := HA.out
              refine ⟨rfl, Z1 ++ Z2, ?_, by simpa using H3.out.2⟩
              rw [e1, e2]
              rw [e1] at r4
              rw [e2] at r5
              exact merge_of r4 r5 e5 e6 HZ1.out H3.out.1
          · have p0 : (s : Int) < (m : Int) := by omega
            have d0 : decide ((s : Int) < (m : Int)) = true := decide_eq_true p0
            have p1 : ¬ (m : Int) < (e : Int) := by omega
            have d1 : decide ((m : Int) < (e : Int)) = false := decide_eq_false p1
            have p2 : (a : Int) < (s : Int) := by omega
            have d2 : decide ((a : Int) < (s : Int)) = true := decide_eq_true p2
            have p3 : ¬ (s : Int) < (mid : Int) := by omega
            have d3 : decide ((s : Int) < (mid : Int)) = false := decide_eq_false p3
            have p4 : (mid : Int) < (e : Int) := by omega
            have d4 : decide ((mid : Int) < (e : Int)) = true := decide_eq_true p4
            have p5 : (e : Int) < (b : Int) := by omega
            have d5 : decide ((e : Int) < (b : Int)) = true := decide_eq_true p5
            clear HS
            have H1 : Aside (At w0 blk off n (A ++ X1 ++ Y1 ++ (X2 ++ Y2 ++ B)) wr) := by
              obtain ⟨e1, e2, e3, e4, e5, e6, hS⟩ := HT.out
              have : Y1 = [] := List.eq_nil_of_length_eq_zero (by omega)
              subst this
              simpa [Aside] using hS
            have H2 : ∃ Z, Aside (SS (X1 ++ Y1) Z ∧ At w0 blk off n (A ++ Z ++ (X2 ++ Y2 ++ B)) wr) := by
              obtain ⟨e1, e2, e3, e4, e5, e6, hS⟩ := HT.out
              obtain ⟨r1, r2, r3, r4, r5, r6⟩ := HA.out
              have sr : Sortd X1 := by rw [e1] at r4; exact (List.pairwise_append.1 r4).1
              have : Y1 = [] := List.eq_nil_of_length_eq_zero (by omega)
              have h1 := H1.out
              subst this
              exact ⟨X1, ⟨sr, by simpa using Eqv.refl _⟩, by simpa using h1⟩
            clear H1
            obtain ⟨Z1, H2⟩ := H2
            have HC : Hid (Calls Try.prog 36 #[.slice (some ⟨blk, off, none⟩) n cap, .int .i64 (mid : Int), .int .i64 (e : Int), .int .i64 (b : Int), .func (.func 12) #[] #[]] wr fun e w' => e = .returned (.tuple #[]) ∧ ∃ Z, Aside (SS (X2 ++ Y2) Z ∧ At w0 blk off n (A ++ Z1 ++ Z ++ B) w')) := by
              obtain ⟨e1, e2, e3, e4, e5, e6, hS⟩ := HT.out
              obtain ⟨r1, r2, r3, r4, r5, r6⟩ := HA.out
              obtain ⟨z1, hS2⟩ := H2.out
              have zl := z1.2.1
              rw [List.length_append] at zl
              refine (IH.out (A ++ Z1) X2 Y2 B mid e b wr (by rw [List.length_append]; omega) (by omega) (by omega) (by omega) (by omega) (by omega) (by rw [e1] at r4; exact (List.pairwise_append.1 r4).2.1) (by rw [e2] at r5; exact (List.pairwise_append.1 r5).2.1) (by simpa using hS2)).mono ?_
              rintro e w' ⟨he, Z, hz, hw⟩
              exact ⟨he, Z, hz, by simpa using hw⟩
            have HZ1 : Aside (SS (X1 ++ Y1) Z1) := H2.out.1
            clear H2
            go_wp2_with fail
            refine HC.out.mono ?_
            rintro _ w1 ⟨rfl, Z2, H3⟩
            clear HC
            go_wp2
            go_end0
            obtain ⟨e1, e2, e3, e4, e5, e6, hS⟩ := HT.out
            obtain ⟨r1, r2, r3, r4, r5, r6⟩ := HA.out
            refine ⟨rfl, Z1 ++ Z2, ?_, by simpa using H3.out.2⟩
            rw [e1, e2]
            rw [e1] at r4
            rw [e2] at r5
            exact merge_of r4 r5 e5 e6 HZ1.out H3.out.1
        · by_cases y1 : 0 < Y1.length
          · exfalso
            omega
          · exfalso
            omega
      · by_cases y2 : 0 < Y2.length
        · exfalso
          omega
        · have p0 : (s : Int) < (m : Int) := by omega
          have d0 : decide ((s : Int) < (m : Int)) = true := decide_eq_true p0
          have p1 : (m : Int) < (e : Int) := by omega
          have d1 : decide ((m : Int) < (e : Int)) = true := decide_eq_true p1
          have p2 : ¬ (a : Int) < (s : Int) := by omega
          have d2 : decide ((a : Int) < (s : Int)) = false := decide_eq_false p2
          have p3 : (s : Int) < (mid : Int) := by omega
          have d3 : decide ((s : Int) < (mid : Int)) = true := decide_eq_true p3
          have p4 : (mid : Int) < (e : Int) := by omega
          have d4 : decide ((mid : Int) < (e : Int)) = true := decide_eq_true p4
          have p5 : ¬ (e : Int) < (b : Int) := by omega
          have d5 : decide ((e : Int) < (b : Int)) = false := decide_eq_false p5
          clear HS
          have HC : Hid (Calls Try.prog 37 #[.slice (some ⟨blk, off, none⟩) n cap, .int .i64 (s : Int), .int .i64 (m : Int), .int .i64 (e : Int), .func (.func 12) #[] #[]] wr fun e w' => e = .returned (.tuple #[]) ∧ Aside (At w0 blk off n (A ++ X1 ++ Y1 ++ (X2 ++ Y2 ++ B)) w')) := by
            obtain ⟨e1, e2, e3, e4, e5, e6, hS⟩ := HT.out
            obtain ⟨r1, r2, r3, r4, r5, r6⟩ := HA.out
            refine (rotate w0 wr blk off cap n (A ++ X1) X2 Y1 (Y2 ++ B) _ R s m e (by simp; omega) (by simp; omega) (by simp; omega) (by omega) (by omega) (by simpa using hS)).mono ?_
            rintro e w' ⟨he, hw⟩
            exact ⟨he, by simpa [Aside] using hw⟩
          go_wp2_with fail
          refine HC.out.mono ?_
          rintro _ w1 ⟨rfl, H1⟩
          clear HC
          have H2 : ∃ Z, Aside (SS (X1 ++ Y1) Z ∧ At w0 blk off n (A ++ Z ++ (X2 ++ Y2 ++ B)) w1) := by
            obtain ⟨e1, e2, e3, e4, e5, e6, hS⟩ := HT.out
            obtain ⟨r1, r2, r3, r4, r5, r6⟩ := HA.out
            have sr : Sortd Y1 := by rw [e2] at r5; exact (List.pairwise_append.1 r5).1
            have : X1 = [] := List.eq_nil_of_length_eq_zero (by omega)
            have h1 := H1.out
            subst this
            exact ⟨Y1, ⟨sr, by simpa using Eqv.refl _⟩, by simpa using h1⟩
          clear H1
          obtain ⟨Z1, H2⟩ := H2
          have HZ1 : Aside (SS (X1 ++ Y1) Z1) := H2.out.1
          have H3 : ∃ Z, Aside (SS (X2 ++ Y2) Z ∧ At w0 blk off n (A ++ Z1 ++ Z ++ B) w1) := by
            obtain ⟨e1, e2, e3, e4, e5, e6, hS⟩ := HT.out
            obtain ⟨r1, r2, r3, r4, r5, r6⟩ := HA.out
            have sr : Sortd X2 := by rw [e1] at r4; exact (List.pairwise_append.1 r4).2.1
            have : Y2 = [] := List.eq_nil_of_length_eq_zero (by omega)
            have h1 := H2.out.2
            subst this
            exact ⟨X2, ⟨sr, by simpa using Eqv.refl _⟩, by simpa using h1⟩
          clear H2
          obtain ⟨Z2, H3⟩ := H3
          go_wp2
          go_end0
          obtain ⟨e1, e2, e3, e4, e5, e6, hS⟩ := HT.out
          obtain ⟨r1, r2, r3, r4, r5, r6⟩ := HA.out
          refine ⟨rfl, Z1 ++ Z2, ?_, by simpa using H3.out.2⟩
          rw [e1, e2]
          rw [e1] at r4
          rw [e2] at r5
          exact merge_of r4 r5 e5 e6 HZ1.out H3.out.1
set_option maxHeartbeats 4000000 in
set_option maxRecDepth 100000 in
theorem mergeG2 (w0 w : World) (blk off cap n N : Nat) (A X Y B : List Mo) (R : Ro w0 blk off n) (IH0 : MergeOk w0 blk off cap n N) (a m b mid : Nat) (ha : a = A.length) (hm : m = a + X.length) (hb : b = m + Y.length) (hX : Sortd X) (hY : Sortd Y) (hX2 : 2 ≤ X.length) (hY2 : 2 ≤ Y.length) (hN : X.length + Y.length ≤ N)
    (hmid : mid = (a + b) / 2) (hc : m ≤ mid) (S : At w0 blk off n (A ++ X ++ Y ++ B) w) :
    Calls Try.prog 36 #[.slice (some ⟨blk, off, none⟩) n cap, .int .i64 (a : Int), .int .i64 (m : Int), .int .i64 (b : Int), .func (.func 12) #[] #[]] w
      fun e w' => e = .returned (.tuple #[]) ∧ ∃ Z, SS (X ++ Y) Z ∧ At w0 blk off n (A ++ Z ++ B) w' := by
  have hsm := R.small
  have hn : a + 1 < m ∧ m + 1 < b ∧ b ≤ n := by
    have := S.len
    simp only [List.length_append] at this
    omega
  obtain ⟨l, hl⟩ : ∃ l, l = A ++ X ++ Y ++ B := ⟨_, rfl⟩
  have S0 : Aside (At w0 blk off n l w) := by rw [hl]; exact S
  have HA : Aside (a = A.length ∧ m = a + X.length ∧ b = m + Y.length ∧ Sortd X ∧ Sortd Y ∧ l = A ++ X ++ Y ++ B) := ⟨ha, hm, hb, hX, hY, hl⟩
  have IH : Hid (MergeOk w0 blk off cap n N) := IH0
  have hma : ((m : Int) - (a : Int) == 1) = false := beq_eq_false_iff_ne.2 (by omega)
  have hbm : ((b : Int) - (m : Int) == 1) = false := beq_eq_false_iff_ne.2 (by omega)
  obtain ⟨s0, hs0⟩ : ∃ s0, s0 = a := ⟨_, rfl⟩
  obtain ⟨r0, hr0⟩ : ∃ r0, r0 = m := ⟨_, rfl⟩
  obtain ⟨nn, hnn⟩ : ∃ nn, nn = mid + m := ⟨_, rfl⟩
  obtain ⟨p, hp⟩ : ∃ p, p = mid + m - 1 := ⟨_, rfl⟩
  have HQ : Aside (mid = (a + b) / 2 ∧ ((mid < m ∧ s0 = mid + m - b ∧ r0 = mid) ∨ (m ≤ mid ∧ s0 = a ∧ r0 = m)) ∧ p = mid + m - 1 ∧ nn = mid + m) := ⟨hmid, .inr ⟨hc, hs0, hr0⟩, hp, hnn⟩
  have em : ((a : Int) + (b : Int)) / 2 = (mid : Int) := by omega
  have en : (mid : Int) + (m : Int) = (nn : Int) := by omega
  have ep : (nn : Int) - 1 = (p : Int) := by omega
  have hcz : ¬ (mid : Int) < (m : Int) := by omega
  have bn : a ≤ s0 ∧ s0 ≤ r0 ∧ r0 ≤ m ∧ r0 ≤ mid ∧ p + 1 - r0 ≥ m ∧ p - s0 < b ∧ mid < b ∧ s0 ≤ p ∧ nn ≤ b + s0 := by omega
  have bs : s0 < r0 ∨ r0 ≤ s0 := by omega
  clear S ha hm hb hX hY hl IH0 hnn hp hmid hs0 hr0 hc
  have hst := store_float
  go_enter Try.func36, Try.ntmps36
  go_wp2
  go_loopg [20, 21, 23] n (fun gk vs vr vc wr => ∃ s r : Nat, vs = .int .i64 (s : Int) ∧ vr = .int .i64 (r : Int) ∧ s0 ≤ s ∧ s ≤ r ∧ r ≤ r0 ∧ r - s ≤ gk ∧ Aside ((s = s0 ∨ ki l (s - 1) ≤ ki l (p - (s - 1))) ∧ (r = r0 ∨ ki l (p - r) < ki l r) ∧ At w0 blk off n l wr))
  case atStart =>
    obtain ⟨t1, t2, t3, t4⟩ := HQ.out
    exact ⟨s0, r0, by first | rfl | (congr 1; omega), by first | rfl | (congr 1; omega), Nat.le_refl _, by omega, Nat.le_refl _, by omega, .inl rfl, .inl rfl, S0.out⟩
  case round =>
    clear S0
    obtain ⟨s, r, rfl, rfl, hs, hsr, hr, hg, HS⟩ := hrel
    by_cases hlt : s < r
    · have hltz : (s : Int) < (r : Int) := by omega
      obtain ⟨c, hcc⟩ : ∃ c, c = (s + r) / 2 := ⟨_, rfl⟩
      obtain ⟨u, hu⟩ : ∃ u, u = p - c := ⟨_, rfl⟩
      have ec : ((s : Int) + (r : Int)) / 2 = (c : Int) := by omega
      have h1 : s ≤ c ∧ c < r := by omega
      have eu : (p : Int) - (c : Int) = (u : Int) := by omega
      have bc : (c : Int) < (n : Int) := by omega
      have bu : (u : Int) < (n : Int) := by omega
      have c1 := HS.out.2.2.cellI R (i := u) (by omega)
      have c2 := HS.out.2.2.cellI R (i := c) (by omega)
      obtain ⟨y, hy⟩ : ∃ y, y = l[u]! := ⟨_, rfl⟩
      obtain ⟨x, hx⟩ : ∃ x, x = l[c]! := ⟨_, rfl⟩
      rw [← hy] at c1
      rw [← hx] at c2
      have CQ := compare_quiet y x wr
      have HY : Aside (ki l (p - c) = y.key ∧ ki l c = x.key) := by rw [← hu, hx, hy]; exact ⟨rfl, rfl⟩
      by_cases hk : y.key < x.key
      · have v1 : cmpN y.v x.v < 0 := cmp_neg.2 hk
        have v2 : decide (cmpN y.v x.v < 0) = true := decide_eq_true v1
        have HK : Aside (y.key < x.key) := hk
        clear hk hy hx hcc hu
        go_wp2_with fail
        go_quiet (first | (go_at_call 12; exact CQ _))
        have H2 : Aside ((s = s0 ∨ ki l (s - 1) ≤ ki l (p - (s - 1))) ∧ At w0 blk off n l (wr.drewN nq)) := ⟨HS.out.1, HS.out.2.2.drewN nq⟩
        clear HS c1 c2 CQ
        generalize wr.drewN nq = w2 at H2 ⊢
        go_wp2
        go_roundg (c - s)
        case measure => omega
        case rel => exact ⟨s, c, rfl, by first | rfl | go_num, by omega, by omega, by omega, by omega, H2.out.1, .inr (by have := HY.out; have := HK.out; omega), H2.out.2⟩
      · have v1 : ¬ cmpN y.v x.v < 0 := fun q => hk (cmp_neg.1 q)
        have v2 : decide (cmpN y.v x.v < 0) = false := decide_eq_false v1
        have HK : Aside (x.key ≤ y.key) := by show x.key ≤ y.key; omega
        clear hk hy hx hcc hu
        go_wp2_with fail
        go_quiet (first | (go_at_call 12; exact CQ _))
        have H2 : Aside ((r = r0 ∨ ki l (p - r) < ki l r) ∧ At w0 blk off n l (wr.drewN nq)) := ⟨HS.out.2.1, HS.out.2.2.drewN nq⟩
        clear HS c1 c2 CQ
        generalize wr.drewN nq = w2 at H2 ⊢
        go_wp2
        go_roundg (r - (c + 1))
        case measure => omega
        case rel => exact ⟨c + 1, r, by go_num, rfl, by omega, by omega, by omega, by omega, .inr (by have := HY.out; have := HK.out; rw [Nat.add_sub_cancel]; omega), H2.out.1, H2.out.2⟩
    · have hltz : ¬ (s : Int) < (r : Int) := by omega
      have hT : ∃ X1 X2 Y1 Y2 : List Mo, Aside (X = X1 ++ X2 ∧ Y = Y1 ++ Y2 ∧ a + X1.length = s ∧ s + Y1.length = mid ∧ (∀ x ∈ X2, ∀ y ∈ Y1, y.key < x.key) ∧ (∀ x ∈ X1, ∀ y ∈ Y2, x.key ≤ y.key) ∧ At w0 blk off n (A ++ X1 ++ X2 ++ Y1 ++ Y2 ++ B) wr) := by
        obtain ⟨q1, q2, q3⟩ := HS.out
        obtain ⟨r1, r2, r3, r4, r5, r6⟩ := HA.out
        obtain ⟨t1, t2, t3, t4⟩ := HQ.out
        obtain rfl : s = r := by omega
        rw [t3] at q1 q2
        obtain ⟨X1, X2, Y1, Y2, e1, e2, e3, e4, e5, e6⟩ := sym_split A X Y B l r6 a m b mid s s0 r0 r1 r2 r3 r4 r5 hX2 hY2 t1 t2 hs hr q1 q2
        refine ⟨X1, X2, Y1, Y2, e1, e2, e3, e4, e5, e6, ?_⟩
        rw [r6, e1, e2] at q3
        simpa using q3
      obtain ⟨X1, X2, Y1, Y2, HT⟩ := hT
      obtain ⟨e, he⟩ : ∃ e, e = nn - s := ⟨_, rfl⟩
      have ee : (nn : Int) - (s : Int) = (e : Int) := by omega
      have LL : s + X2.length ≤ m ∧ m ≤ s + X2.length ∧ e + Y2.length ≤ b ∧ b ≤ e + Y2.length ∧ m + Y1.length ≤ e ∧ e ≤ m + Y1.length ∧ a + X1.length ≤ s ∧ s ≤ a + X1.length ∧ X1.length + X2.length + Y1.length + Y2.length ≤ N := by
        obtain ⟨e1, e2, e3, e4, e5, e6, hS⟩ := HT.out
        obtain ⟨r1, r2, r3, r4, r5, r6⟩ := HA.out
        rw [e1] at r2 hN
        rw [e2] at r3 hN
        simp only [List.length_append] at r2 r3 hN
        omega
      clear he
      by_cases x1 : 0 < X1.length
      · by_cases x2 : 0 < X2.length
        · by_cases y1 : 0 < Y1.length
          · by_cases y2 : 0 < Y2.length
            · have p0 : (s : Int) < (m : Int) := by omega
              have d0 : decide ((s : Int) < (m : Int)) = true := decide_eq_true p0
              have p1 : (m : Int) < (e : Int) := by omega
              have d1 : decide ((m : Int) < (e : Int)) = true := decide_eq_true p1
              have p2 : (a : Int) < (s : Int) := by omega
              have d2 : decide ((a : Int) < (s : Int)) = true := decide_eq_true p2
              have p3 : (s : Int) < (mid : Int) := by omega
              have d3 : decide ((s : Int) < (mid : Int)) = true := decide_eq_true p3
              have p4 : (mid : Int) < (e : Int) := by omega
              have d4 : decide ((mid : Int) < (e : Int)) = true := decide_eq_true p4
              have p5 : (e : Int) < (b : Int) := by omega
              have d5 : decide ((e : Int) < (b : Int)) = true := decide_eq_true p5
              clear HS
              have HC : Hid (Calls Try.prog 37 #[.slice (some ⟨blk, off, none⟩) n cap, .int .i64 (s : Int), .int .i64 (m : Int), .int .i64 (e : Int), .func (.func 12) #[] #[]] wr fun e w' => e = .returned (.tuple #[]) ∧ Aside (At w0 blk off n (A ++ X1 ++ Y1 ++ (X2 ++ Y2 ++ B)) w')) := by
                obtain ⟨e1, e2, e3, e4, e5, e6, hS⟩ := HT.out
                obtain ⟨r1, r2, r3, r4, r5, r6⟩ := HA.out
                refine (rotate w0 wr blk off cap n (A ++ X1) X2 Y1 (Y2 ++ B) _ R s m e (by simp; omega) (by simp; omega) (by simp; omega) (by omega) (by omega) (by simpa using hS)).mono ?_
                rintro e w' ⟨he, hw⟩
                exact ⟨he, by simpa [Aside] using hw⟩
              go_wp2_with fail
              refine HC.out.mono ?_
              rintro _ w1 ⟨rfl, H1⟩
              clear HC
              have HC : Hid (Calls Try.prog 36 #[.slice (some ⟨blk, off, none⟩) n cap, .int .i64 (a : Int), .int .i64 (s : Int), .int .i64 (mid : Int), .func (.func 12) #[] #[]] w1 fun e w' => e = .returned (.tuple #[]) ∧ ∃ Z, Aside (SS (X1 ++ Y1) Z ∧ At w0 blk off n (A ++ Z ++ (X2 ++ Y2 ++ B)) w')) := by
                obtain ⟨e1, e2, e3, e4, e5, e6, hS⟩ := HT.out
                obtain ⟨r1, r2, r3, r4, r5, r6⟩ := HA.out
                refine (IH.out A X1 Y1 (X2 ++ Y2 ++ B) a s mid w1 r1 (by omega) (by omega) (by omega) (by omega) (by omega) (by rw [e1] at r4; exact (List.pairwise_append.1 r4).1) (by rw [e2] at r5; exact (List.pairwise_append.1 r5).1) H1.out).mono ?_
                rintro e w' ⟨he, Z, hz, hw⟩
                exact ⟨he, Z, hz, hw⟩
              clear H1
              go_wp2_with fail
              refine HC.out.mono ?_
              rintro _ w2 ⟨rfl, Z1, H2⟩
              clear HC
              have HC : Hid (Calls Try.prog 36 #[.slice (some ⟨blk, off, none⟩) n cap, .int .i64 (mid : Int), .int .i64 (e : Int), .int .i64 (b : Int), .func (.func 12) #[] #[]] w2 fun e w' => e = .returned (.tuple #[]) ∧ ∃ Z, Aside (SS (X2 ++ Y2) Z ∧ At w0 blk off n (A ++ Z1 ++ Z ++ B) w')) := by
                obtain ⟨e1, e2, e3, e4, e5, e6, hS⟩ := HT.out
                obtain ⟨r1, r2, r3, r4, r5, r6⟩ := HA.out
                obtain ⟨z1, hS2⟩ := H2.out
                have zl := z1.2.1
                rw [List.length_append] at zl
                refine (IH.out (A ++ Z1) X2 Y2 B mid e b w2 (by rw [List.length_append]; omega) (by omega) (by omega) (by omega) (by omega) (by omega) (by rw [e1] at r4; exact (List.pairwise_append.1 r4).2.1) (by rw [e2] at r5; exact (List.pairwise_append.1 r5).2.1) (by simpa using hS2)).mono ?_
                rintro e w' ⟨he, Z, hz, hw⟩
                exact ⟨he, Z, hz, by simpa using hw⟩
              have HZ1 : Aside (SS (X1 ++ Y1) Z1) := H2.out.1
              clear H2
              go_wp2_with fail
              refine HC.out.mono ?_
              rintro _ w3 ⟨rfl, Z2, H3⟩
              clear HC
              go_wp2
              go_end0
              obtain ⟨e1, e2, e3, e4, e5, e6, hS⟩ := HT.out
              obtain ⟨r1, r2, r3, r4, r5, r6⟩ := HA.out
              refine ⟨rfl, Z1 ++ Z2, ?_, by simpa using H3.out.2⟩
              rw [e1, e2]
              rw [e1] at r4
              rw [e2] at r5
              exact merge_of r4 r5 e5 e6 HZ1.out H3.out.1
            · exfalso
              omega
          · exfalso
            omega
        · by_cases y1 : 0 < Y1.length
          · have p0 : ¬ (s : Int) < (m : Int) := by omega
            have d0 : decide ((s : Int) < (m : Int)) = false := decide_eq_false p0
            have p1 : (m : Int) < (e : Int) := by omega
            have d1 : decide ((m : Int) < (e : Int)) = true := decide_eq_true p1
            have p2 : (a : Int) < (s : Int) := by omega
            have d2 : decide ((a : Int) < (s : Int)) = true := decide_eq_true p2
            have p3 : (s : Int) < (mid : Int) := by omega
            have d3 : decide ((s : Int) < (mid : Int)) = true := decide_eq_true p3
            have p4 : ¬ (mid : Int) < (e : Int) := by omega
            have d4 : decide ((mid : Int) < (e : Int)) = false := decide_eq_false p4
            have p5 : (e : Int) < (b : Int) := by omega
            have d5 : decide ((e : Int) < (b : Int)) = true := decide_eq_true p5
            clear HS
            have H1 : Aside (At w0 blk off n (A ++ X1 ++ Y1 ++ (X2 ++ Y2 ++ B)) wr) := by
              obtain ⟨e1, e2, e3, e4, e5, e6, hS⟩ := HT.out
              have : X2 = [] := List.eq_nil_of_length_eq_zero (by omega)
              subst this
              simpa [Aside] using hS
            have HC : Hid (Calls Try.prog 36 #[.slice (some ⟨blk, off, none⟩) n cap, .int .i64 (a : Int), .int .i64 (s : Int), .int .i64 (mid : Int), .func (.func 12) #[] #[]] wr fun e w' => e = .returned (.tuple #[]) ∧ ∃ Z, Aside (SS (X1 ++ Y1) Z ∧ At w0 blk off n (A ++ Z ++ (X2 ++ Y2 ++ B)) w')) := by
              obtain ⟨e1, e2, e3, e4, e5, e6, hS⟩ := HT.out
              obtain ⟨r1, r2, r3, r4, r5, r6⟩ := HA.out
              refine (IH.out A X1 Y1 (X2 ++ Y2 ++ B) a s mid wr r1 (by omega) (by omega) (by omega) (by omega) (by omega) (by rw [e1] at r4; exact (List.pairwise_append.1 r4).1) (by rw [e2] at r5; exact (List.pairwise_append.1 r5).1) H1.out).mono ?_
              rintro e w' ⟨he, Z, hz, hw⟩
              exact ⟨he, Z, hz, hw⟩
            clear H1
            go_wp2_with fail
            refine HC.out.mono ?_
            rintro _ w1 ⟨rfl, Z1, H2⟩
            clear HC
            have HZ1 : Aside (SS (X1 ++ Y1) Z1) := H2.out.1
            have H3 : ∃ Z, Aside (SS (X2 ++ Y2) Z ∧ At w0 blk off n (A ++ Z1 ++ Z ++ B) w1) := by
              obtain ⟨e1, e2, e3, e4, e5, e6, hS⟩ := HT.out
              obtain ⟨r1, r2, r3, r4, r5, r6⟩ := HA.out
              have sr : Sortd Y2 := by rw [e2] at r5; exact (List.pairwise_append.1 r5).2.1
              have : X2 = [] := List.eq_nil_of_length_eq_zero (by omega)
              have h1 := H2.out.2
              subst this
              exact ⟨Y2, ⟨sr, by simpa using Eqv.refl _⟩, by simpa using h1⟩
            clear H2
            obtain ⟨Z2, H3⟩ := H3
            go_wp2
            go_end0
            obtain ⟨e1, e2, e3, e4, e5, e6, hS⟩ := HT.out
            obtain ⟨r1, r2, r3, r4, r5, r6⟩ := HA.out
            refine ⟨rfl, Z1 ++ Z2, ?_, by simpa using H3.out.2⟩
            rw [e1, e2]
            rw [e1] at r4
            rw [e2] at r5
            exact merge_of r4 r5 e5 e6 HZ1.out H3.out.1
          · have p0 : ¬ (s : Int) < (m : Int) := by omega
            have d0 : decide ((s : Int) < (m : Int)) = false := decide_eq_false p0
            have p1 : ¬ (m : Int) < (e : Int) := by omega
            have d1 : decide ((m : Int) < (e : Int)) = false := decide_eq_false p1
            have p2 : (a : Int) < (s : Int) := by omega
            have d2 : decide ((a : Int) < (s : Int)) = true := decide_eq_true p2
            have p3 : ¬ (s : Int) < (mid : Int) := by omega
            have d3 : decide ((s : Int) < (mid : Int)) = false := decide_eq_false p3
            have p4 : ¬ (mid : Int) < (e : Int) := by omega
            have d4 : decide ((mid : Int) < (e : Int)) = false := decide_eq_false p4
            have p5 : (e : Int) < (b : Int) := by omega
            have d5 : decide ((e : Int) < (b : Int)) = true := decide_eq_true p5
            clear HS
            have H1 : Aside (At w0 blk off n (A ++ X1 ++ Y1 ++ (X2 ++ Y2 ++ B)) wr) := by
              obtain ⟨e1, e2, e3, e4, e5, e6, hS⟩ := HT.out
              have : X2 = [] := List.eq_nil_of_length_eq_zero (by omega)
              subst this
              simpa [Aside] using hS
            have H2 : ∃ Z, Aside (SS (X1 ++ Y1) Z ∧ At w0 blk off n (A ++ Z ++ (X2 ++ Y2 ++ B)) wr) := by
              obtain ⟨e1, e2, e3, e4, e5, e6, hS⟩ := HT.out
              obtain ⟨r1, r2, r3, r4, r5, r6⟩ := HA.out
              have sr : Sortd X1 := by rw [e1] at r4; exact (List.pairwise_append.1 r4).1
              have : Y1 = [] := List.eq_nil_of_length_eq_zero (by omega)
              have h1 := H1.out
              subst this
              exact ⟨X1, ⟨sr, by simpa using Eqv.refl _⟩, by simpa using h1⟩
            clear H1
            obtain ⟨Z1, H2⟩ := H2
            have HZ1 : Aside (SS (X1 ++ Y1) Z1) := H2.out.1
            have H3 : ∃ Z, Aside (SS (X2 ++ Y2) Z ∧ At w0 blk off n (A ++ Z1 ++ Z ++ B) wr) := by
              obtain ⟨e1, e2, e3, e4, e5, e6, hS⟩ := HT.out
              obtain ⟨r1, r2, r3, r4, r5, r6⟩ := HA.out
              have sr : Sortd Y2 := by rw [e2] at r5; exact (List.pairwise_append.1 r5).2.1
              have : X2 = [] := List.eq_nil_of_length_eq_zero (by omega)
              have h1 := H2.out.2
              subst this
              exact ⟨Y2, ⟨sr, by simpa using Eqv.refl _⟩, by simpa using h1⟩
            clear H2
            obtain ⟨Z2, H3⟩ := H3
            go_wp2
            go_end0
            obtain ⟨e1, e2, e3, e4, e5, e6, hS⟩ := HT.out
            obtain ⟨r1, r2, r3, r4, r5, r6⟩ := HA.out
            refine ⟨rfl, Z1 ++ Z2, ?_, by simpa using H3.out.2⟩
            rw [e1, e2]
            rw [e1] at r4
            rw [e2] at r5
            exact merge_of r4 r5 e5 e6 HZ1.out H3.out.1
      · by_cases y2 : 0 < Y2.length
        · have p0 : (s : Int) < (m : Int) := by omega
          have d0 : decide ((s : Int) < (m : Int)) = true := decide_eq_true p0
          have p1 : (m : Int) < (e : Int) := by omega
          have d1 : decide ((m : Int) < (e : Int)) = true := decide_eq_true p1
          have p2 : ¬ (a : Int) < (s : Int) := by omega
          have d2 : decide ((a : Int) < (s : Int)) = false := decide_eq_false p2
          have p3 : (s : Int) < (mid : Int) := by omega
          have d3 : decide ((s : Int) < (mid : Int)) = true := decide_eq_true p3
          have p4 : (mid : Int) < (e : Int) := by omega
          have d4 : decide ((mid : Int) < (e : Int)) = true := decide_eq_true p4
          have p5 : (e : Int) < (b : Int) := by omega
          have d5 : decide ((e : Int) < (b : Int)) = true := decide_eq_true p5
          clear HS
          have HC : Hid (Calls Try.prog 37 #[.slice (some ⟨blk, off, none⟩) n cap, .int .i64 (s : Int), .int .i64 (m : Int), .int .i64 (e : Int), .func (.func 12) #[] #[]] wr fun e w' => e = .returned (.tuple #[]) ∧ Aside (At w0 blk off n (A ++ X1 ++ Y1 ++ (X2 ++ Y2 ++ B)) w')) := by
            obtain ⟨e1, e2, e3, e4, e5, e6, hS⟩ := HT.out
            obtain ⟨r1, r2, r3, r4, r5, r6⟩ := HA.out
            refine (rotate w0 wr blk off cap n (A ++ X1) X2 Y1 (Y2 ++ B) _ R s m e (by simp; omega) (by simp; omega) (by simp; omega) (by omega) (by omega) (by simpa using hS)).mono ?_
            rintro e w' ⟨he, hw⟩
            exact ⟨he, by simpa [Aside] using hw⟩
          go_wp2_with fail
          refine HC.out.mono ?_
          rintro _ w1 ⟨rfl, H1⟩
          clear HC
          have H2 : ∃ Z, Aside (SS (X1 ++ Y1) Z ∧ At w0 blk off n (A ++ Z ++ (X2 ++ Y2 ++ B)) w1) := by
            obtain ⟨e1, e2, e3, e4, e5, e6, hS⟩ := HT.out
            obtain ⟨r1, r2, r3, r4, r5, r6⟩ := HA.out
            have sr : Sortd Y1 := by rw [e2] at r5; exact (List.pairwise_append.1 r5).1
            have : X1 = [] := List.eq_nil_of_length_eq_zero (by omega)
            have h1 := H1.out
            subst this
            exact ⟨Y1, ⟨sr, by simpa using Eqv.refl _⟩, by simpa using h1⟩
          clear H1
          obtain ⟨Z1, H2⟩ := H2
          have HC : Hid (Calls Try.prog 36 #[.slice (some ⟨blk, off, none⟩) n cap, .int .i64 (mid : Int), .int .i64 (e : Int), .int .i64 (b : Int), .func (.func 12) #[] #[]] w1 fun e w' => e = .returned (.tuple #[]) ∧ ∃ Z, Aside (SS (X2 ++ Y2) Z ∧ At w0 blk off n (A ++ Z1 ++ Z ++ B) w')) := by
            obtain ⟨e1, e2, e3, e4, e5, e6, hS⟩ := HT.out
            obtain ⟨r1, r2, r3, r4, r5, r6⟩ := HA.out
            obtain ⟨z1, hS2⟩ := H2.out
            have zl := z1.2.1
            rw [List.length_append] at zl
            refine (IH.out (A ++ Z1) X2 Y2 B mid e b w1 (by rw [List.length_append]; omega) (by omega) (by omega) (by omega) (by omega) (by omega) (by rw [e1] at r4; exact (List.pairwise_append.1 r4).2.1) (by rw [e2] at r5; exact (List.pairwise_append.1 r5).2.1) (by simpa using hS2)).mono ?_
            rintro e w' ⟨he, Z, hz, hw⟩
            exact ⟨he, Z, hz, by simpa using hw⟩
          have HZ1 : Aside (SS (X1 ++ Y1) Z1) := H2.out.1
          clear H2
          go_wp2_with fail
          refine HC.out.mono ?_
          rintro _ w2 ⟨rfl, Z2, H3⟩
          clear HC
          go_wp2
          go_end0
          obtain ⟨e1, e2, e3, e4, e5, e6, hS⟩ := HT.out
          obtain ⟨r1, r2, r3, r4, r5, r6⟩ := HA.out
          refine ⟨rfl, Z1 ++ Z2, ?_, by simpa using H3.out.2⟩
          rw [e1, e2]
          rw [e1] at r4
          rw [e2] at r5
          exact merge_of r4 r5 e5 e6 HZ1.out H3.out.1
        · have p0 : (s : Int) < (m : Int) := by omega
          have d0 : decide ((s : Int) < (m : Int)) = true := decide_eq_true p0
          have p1 : (m : Int) < (e : Int) := by omega
          have d1 : decide ((m : Int) < (e : Int)) = true := decide_eq_true p1
          have p2 : ¬ (a : Int) < (s : Int) := by omega
          have d2 : decide ((a : Int) < (s : Int)) = false := decide_eq_false p2
          have p3 : (s : Int) < (mid : Int) := by omega
          have d3 : decide ((s : Int) < (mid : Int)) = true := decide_eq_true p3
          have p4 : (mid : Int) < (e : Int) := by omega
          have d4 : decide ((mid : Int) < (e : Int)) = true := decide_eq_true p4
          have p5 : ¬ (e : Int) < (b : Int) := by omega
          have d5 : decide ((e : Int) < (b : Int)) = false := decide_eq_false p5
          clear HS
          have HC : Hid (Calls Try.prog 37 #[.slice (some ⟨blk, off, none⟩) n cap, .int .i64 (s : Int), .int .i64 (m : Int), .int .i64 (e : Int), .func (.func 12) #[] #[]] wr fun e w' => e = .returned (.tuple #[]) ∧ Aside (At w0 blk off n (A ++ X1 ++ Y1 ++ (X2 ++ Y2 ++ B)) w')) := by
            obtain ⟨e1, e2, e3, e4, e5, e6, hS⟩ := HT.out
            obtain ⟨r1, r2, r3, r4, r5, r6⟩ := HA.out
            refine (rotate w0 wr blk off cap n (A ++ X1) X2 Y1 (Y2 ++ B) _ R s m e (by simp; omega) (by simp; omega) (by simp; omega) (by omega) (by omega) (by simpa using hS)).mono ?_
            rintro e w' ⟨he, hw⟩
            exact ⟨he, by simpa [Aside] using hw⟩
          go_wp2_with fail
          refine HC.out.mono ?_
          rintro _ w1 ⟨rfl, H1⟩
          clear HC
          have H2 : ∃ Z, Aside (SS (X1 ++ Y1) Z ∧ At w0 blk off n (A ++ Z ++ (X2 ++ Y2 ++ B)) w1) := by
            obtain ⟨e1, e2, e3, e4, e5, e6, hS⟩ := HT.out
            obtain ⟨r1, r2, r3, r4, r5, r6⟩ := HA.out
            have sr : Sortd Y1 := by rw [e2] at r5; exact (List.pairwise_append.1 r5).1
            have : X1 = [] := List.eq_nil_of_length_eq_zero (by omega)
            have h1 := H1.out
            subst this
            exact ⟨Y1, ⟨sr, by simpa using Eqv.refl _⟩, by simpa using h1⟩
          clear H1
          obtain ⟨Z1, H2⟩ := H2
          have HZ1 : Aside (SS (X1 ++ Y1) Z1) := H2.out.1
          have H3 : ∃ Z, Aside (SS (X2 ++ Y2) Z ∧ At w0 blk off n (A ++ Z1 ++ Z ++ B) w1) := by
            obtain ⟨e1, e2, e3, e4, e5, e6, hS⟩ := HT.out
            obtain ⟨r1, r2, r3, r4, r5, r6⟩ := HA.out
            have sr : Sortd X2 := by rw [e1] at r4; exact (List.pairwise_append.1 r4).2.1
            have : Y2 = [] := List.eq_nil_of_length_eq_zero (by omega)
            have h1 := H2.out.2
            subst this
            exact ⟨X2, ⟨sr, by simpa using Eqv.refl _⟩, by simpa using h1⟩
          clear H2
          obtain ⟨Z2, H3⟩ := H3
          go_wp2
          go_end0
          obtain ⟨e1, e2, e3, e4, e5, e6, hS⟩ := HT.out
          obtain ⟨r1, r2, r3, r4, r5, r6⟩ := HA.out
          refine ⟨rfl, Z1 ++ Z2, ?_, by simpa using H3.out.2⟩
          rw [e1, e2]
          rw [e1] at r4
          rw [e2] at r5
          exact merge_of r4 r5 e5 e6 HZ1.out H3.out.1

theorem merge_all (w0 : World) (blk off cap n : Nat) (R : Ro w0 blk off n) : ∀ N, MergeOk w0 blk off cap n N
  | 0 => fun A X Y B a m b w _ _ _ _ _ h => absurd h (Nat.not_lt_zero _)
  | N + 1 => by
    intro A X Y B a m b w ha hm hb hX0 hY0 hN hX hY S
    by_cases h1 : X.length = 1
    · obtain ⟨x, rfl⟩ : ∃ x, X = [x] := List.length_eq_one_iff.1 h1
      have := mergeA w0 w blk off cap n A Y B x R a b ha (by simp at hm; omega) hY hY0 (by simpa using S)
      rw [show m = a + 1 by simpa using hm]
      simpa using this
    · by_cases h2 : Y.length = 1
      · obtain ⟨y, rfl⟩ : ∃ y, Y = [y] := List.length_eq_one_iff.1 h2
        exact mergeB w0 w blk off cap n A X B y R a b m ha (by omega) (by simpa using hb) hX (by omega) (by simpa using S)
      · by_cases hc : (a + b) / 2 < m
        · exact mergeG1 w0 w blk off cap n N A X Y B R (merge_all w0 blk off cap n R N) a m b _ ha hm hb hX hY (by omega) (by omega) (by omega) rfl hc S
        · exact mergeG2 w0 w blk off cap n N A X Y B R (merge_all w0 blk off cap n R N) a m b _ ha hm hb hX hY (by omega) (by omega) (by omega) rfl (by omega) S
end Go.Proofs.Ytbipkelocbkccaa
