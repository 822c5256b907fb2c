/-
  slices.stableCmpFunc and slices.SortStableFunc at moments, compared by moment.Compare: a row of at most 1000 moments is left in order.
-/
import Derived.Test.YtbipkelocbkccaaMergeG
namespace Go.Proofs.Ytbipkelocbkccaa
open Go.RowKit Go.Lib Go.Sort
set_option linter.unusedVariables false

/-- What stands in the first loop: whole blocks of 20 ahead, in order each. -/
def Pha (w0 : World) (blk off n bs : Nat) (L : List Mo) (a : Nat) (W : World) : Prop :=
  ∃ D T, D.length = a ∧ (∀ R', BlockS bs R' → BlockS bs (D ++ R')) ∧ Eqv L (D ++ T) ∧ At w0 blk off n (D ++ T) W
/-- What stands in a merging pass: whole blocks of 2 * bs ahead, blocks of bs behind. -/
def Phb (w0 : World) (blk off n bs : Nat) (L : List Mo) (a : Nat) (W : World) : Prop :=
  ∃ D T, D.length = a ∧ (∀ R', BlockS (2 * bs) R' → BlockS (2 * bs) (D ++ R')) ∧ BlockS bs T ∧ Eqv L (D ++ T) ∧ At w0 blk off n (D ++ T) W

set_option maxHeartbeats 4000000 in
set_option maxRecDepth 100000 in
theorem stable (w0 w : World) (blk off cap n : Nat) (L : List Mo) (R : Ro w0 blk off n) (hn : n ≤ 1000) (S : At w0 blk off n L w) :
    Calls Try.prog 34 #[.slice (some ⟨blk, off, none⟩) n cap, .int .i64 (n : Int), .func (.func 12) #[] #[]] w
      fun e w' => e = .returned (.tuple #[]) ∧ ∃ Z, SS L Z ∧ At w0 blk off n Z w' := by
  have S0 : Aside (At w0 blk off n L w) := S
  clear S
  go_enter Try.func34, Try.ntmps34
  go_wp2
  go_loopg [7, 8] n (fun gk va vb wr => ∃ a b : Nat, va = .int .i64 (a : Int) ∧ vb = .int .i64 (b : Int) ∧ a + 20 ≤ b ∧ b ≤ a + 20 ∧ a ≤ n ∧ n - a ≤ gk ∧ Aside (Pha w0 blk off n 20 L a wr))
  case atStart => exact ⟨0, 20, rfl, rfl, by omega, by omega, Nat.zero_le _, by omega, [], L, rfl, fun _ h => h, Eqv.refl _, S0.out⟩
  case round =>
    clear S0
    obtain ⟨a, b, rfl, rfl, hab1, hab2, han, hg, HS⟩ := hrel
    by_cases hlt : b ≤ n
    · have hltz : (b : Int) ≤ (n : Int) := by omega
      have HC : Hid (Calls Try.prog 35 #[.slice (some ⟨blk, off, none⟩) n cap, .int .i64 (a : Int), .int .i64 (b : Int), .func (.func 12) #[] #[]] wr
          fun e w' => e = .returned (.tuple #[]) ∧ Aside (Pha w0 blk off n 20 L b w')) := by
        obtain ⟨D, T, e1, e2, e3, hS⟩ := HS.out
        have ll := hS.len
        simp only [List.length_append] at ll
        have et : T = T.take 20 ++ T.drop 20 := (List.take_append_drop _ _).symm
        have l1 : (T.take 20).length = 20 := by rw [List.length_take]; omega
        generalize T.take 20 = T1 at *
        generalize T.drop 20 = T2 at *
        subst et
        refine (insertSort w0 wr blk off cap n D T1 T2 R a b e1.symm (by omega) (by simpa using hS)).mono ?_
        rintro e w' ⟨he, Z, hz, hw⟩
        have zl := hz.2.1
        refine ⟨he, D ++ Z, T2, by rw [List.length_append]; omega, fun R' hR => ?_, ?_, hw⟩
        · rw [List.append_assoc]
          exact e2 _ (BlockS.cons Z R' (by omega) hz.1 hR)
        · refine e3.trans ?_
          rw [List.append_assoc]
          exact (Eqv.refl D).app (hz.2.app (Eqv.refl T2))
      clear HS
      go_wp2_with fail
      refine HC.out.mono ?_
      rintro _ w1 ⟨rfl, H1⟩
      clear HC
      go_wp2
      go_roundg (n - b)
      case measure => omega
      case rel => exact ⟨b, b + 20, by first | rfl | go_num, by go_num, by omega, by omega, by omega, by omega, H1⟩
    · have hltz : ¬ (b : Int) ≤ (n : Int) := by omega
      have HC : Hid (Calls Try.prog 35 #[.slice (some ⟨blk, off, none⟩) n cap, .int .i64 (a : Int), .int .i64 (n : Int), .func (.func 12) #[] #[]] wr
          fun e w' => e = .returned (.tuple #[]) ∧ Aside (∃ l, BlockS 20 l ∧ Eqv L l ∧ At w0 blk off n l w')) := by
        obtain ⟨D, T, e1, e2, e3, hS⟩ := HS.out
        have ll := hS.len
        simp only [List.length_append] at ll
        refine (insertSort w0 wr blk off cap n D T [] R a n e1.symm (by omega) (by simpa using hS)).mono ?_
        rintro e w' ⟨he, Z, hz, hw⟩
        have zl := hz.2.1
        refine ⟨he, D ++ Z, e2 _ (BlockS.last Z (by omega) hz.1), e3.trans ((Eqv.refl D).app hz.2), by simpa using hw⟩
      clear HS
      go_wp2_with fail
      refine HC.out.mono ?_
      rintro _ w1 ⟨rfl, H1⟩
      clear HC
      go_wp2
      go_loopg [6, 7, 8, 9] n (fun gk vbs va vb vm wr => ∃ bs : Nat, vbs = .int .i64 (bs : Int) ∧ 20 ≤ bs ∧ bs ≤ 2000 ∧ n - bs ≤ gk ∧ Aside (∃ l, BlockS bs l ∧ Eqv L l ∧ At w0 blk off n l wr))
      case atStart => exact ⟨20, rfl, by omega, by omega, by omega, H1.out⟩
      case round =>
        clear H1
        obtain ⟨bs, rfl, hb20, hb2, hgb, HB⟩ := hrel
        by_cases hbn : bs < n
        · have hbz : (bs : Int) < (n : Int) := by omega
          have H2 : Aside (Phb w0 blk off n bs L 0 wr) := by
            obtain ⟨l, h1, h2, h3⟩ := HB.out
            exact ⟨[], l, rfl, fun _ h => h, h1, h2, h3⟩
          clear HB
          go_wp2
          go_loopg [7, 8] n (fun gk va vb wr => ∃ a b : Nat, va = .int .i64 (a : Int) ∧ vb = .int .i64 (b : Int) ∧ a + 2 * bs ≤ b ∧ b ≤ a + 2 * bs ∧ a ≤ n ∧ n - a ≤ gk ∧ Aside (Phb w0 blk off n bs L a wr))
          case atStart => exact ⟨0, 2 * bs, rfl, by go_num, by omega, by omega, Nat.zero_le _, by omega, H2⟩
          case round =>
            clear H2
            obtain ⟨a, b, rfl, rfl, hab1, hab2, han, hg, HS⟩ := hrel
            by_cases hlt : b ≤ n
            · have hltz : (b : Int) ≤ (n : Int) := by omega
              have HC : Hid (Calls Try.prog 36 #[.slice (some ⟨blk, off, none⟩) n cap, .int .i64 (a : Int), .int .i64 ((a : Int) + (bs : Int)), .int .i64 (b : Int), .func (.func 12) #[] #[]] wr
                  fun e w' => e = .returned (.tuple #[]) ∧ Aside (Phb w0 blk off n bs L b w')) := by
                obtain ⟨D, T, e1, e2, e3, e4, hS⟩ := HS.out
                have ll := hS.len
                simp only [List.length_append] at ll
                obtain ⟨x, y, r, rfl, lx, ly, sx, sy, hr⟩ := e3.two (by omega) (by omega)
                rw [show (a : Int) + (bs : Int) = ((a + bs : Nat) : Int) by omega]
                refine (merge_all w0 blk off cap n R (n + 1) D x y r a (a + bs) b wr e1.symm (by omega) (by omega) (by omega) (by omega) (by simp only [List.length_append] at ll; omega) sx sy (by simpa using hS)).mono ?_
                rintro e w' ⟨he, Z, hz, hw⟩
                have zl := hz.2.1
                rw [List.length_append] at zl
                refine ⟨he, D ++ Z, r, by rw [List.length_append]; omega, fun R' hR => ?_, hr, ?_, hw⟩
                · rw [List.append_assoc]
                  exact e2 _ (BlockS.cons Z R' (by omega) hz.1 hR)
                · refine e4.trans ?_
                  have := (Eqv.refl D).app (hz.2.app (Eqv.refl r))
                  simpa using this
              clear HS
              go_wp2_with fail
              refine HC.out.mono ?_
              rintro _ w2 ⟨rfl, H2⟩
              clear HC
              go_wp2
              go_roundg (n - b)
              case measure => omega
              case rel => exact ⟨b, b + 2 * bs, by first | rfl | go_num, by go_num, by omega, by omega, by omega, by omega, H2⟩
            · have hltz : ¬ (b : Int) ≤ (n : Int) := by omega
              by_cases hmn : a + bs < n
              · have hmz : (a : Int) + (bs : Int) < (n : Int) := by omega
                have HC : Hid (Calls Try.prog 36 #[.slice (some ⟨blk, off, none⟩) n cap, .int .i64 (a : Int), .int .i64 ((a : Int) + (bs : Int)), .int .i64 (n : Int), .func (.func 12) #[] #[]] wr
                    fun e w' => e = .returned (.tuple #[]) ∧ Aside (∃ l, BlockS (2 * bs) l ∧ Eqv L l ∧ At w0 blk off n l w')) := by
                  obtain ⟨D, T, e1, e2, e3, e4, hS⟩ := HS.out
                  have ll := hS.len
                  simp only [List.length_append] at ll
                  rcases e3.less (by omega) with ⟨h1, _⟩ | ⟨x, r, rfl, lx, sx, sr⟩
                  · omega
                  · simp only [List.length_append] at ll
                    rw [show (a : Int) + (bs : Int) = ((a + bs : Nat) : Int) by omega]
                    refine (merge_all w0 blk off cap n R (n + 1) D x r [] a (a + bs) n wr e1.symm (by omega) (by omega) (by omega) (by omega) (by omega) sx sr (by simpa using hS)).mono ?_
                    rintro e w' ⟨he, Z, hz, hw⟩
                    have zl := hz.2.1
                    rw [List.length_append] at zl
                    exact ⟨he, D ++ Z, e2 _ (BlockS.last Z (by omega) hz.1), e4.trans ((Eqv.refl D).app hz.2), by simpa using hw⟩
                clear HS
                go_wp2_with fail
                refine HC.out.mono ?_
                rintro _ w2 ⟨rfl, H2⟩
                clear HC
                go_wp2
                go_roundg (n - 2 * bs)
                case measure => omega
                case rel => exact ⟨2 * bs, by first | rfl | go_num | (congr 1; omega), by omega, by omega, by omega, H2.out⟩
              · have hmz : ¬ (a : Int) + (bs : Int) < (n : Int) := by omega
                have H2 : Aside (∃ l, BlockS (2 * bs) l ∧ Eqv L l ∧ At w0 blk off n l wr) := by
                  obtain ⟨D, T, e1, e2, e3, e4, hS⟩ := HS.out
                  have ll := hS.len
                  simp only [List.length_append] at ll
                  exact ⟨D ++ T, e2 _ (BlockS.last T (by omega) (e3.sorted (by omega))), e4, hS⟩
                clear HS
                go_wp2
                go_roundg (n - 2 * bs)
                case measure => omega
                case rel => exact ⟨2 * bs, by first | rfl | go_num | (congr 1; omega), by omega, by omega, by omega, H2.out⟩
        · have hbz : ¬ (bs : Int) < (n : Int) := by omega
          go_wp2
          go_end0
          obtain ⟨l, h1, h2, h3⟩ := HB.out
          exact ⟨rfl, l, ⟨h1.sorted (by have := h3.len; omega), h2⟩, h3⟩

theorem sortStable (w0 w : World) (blk off cap n : Nat) (L : List Mo) (R : Ro w0 blk off n) (hn : n ≤ 1000) (S : At w0 blk off n L w) :
    Calls Try.prog 30 #[.slice (some ⟨blk, off, none⟩) n cap, .func (.func 12) #[] #[]] w
      fun e w' => e = .returned (.tuple #[]) ∧ ∃ Z, SS L Z ∧ At w0 blk off n Z w' := by
  have HC := Lib.hid (stable w0 w blk off cap n L R hn S)
  clear S R
  go_enter Try.func30, Try.ntmps30
  go_wp2_with fail
  refine HC.out.mono ?_
  rintro _ w1 ⟨rfl, H1⟩
  have H1 := Lib.hid H1
  clear HC
  go_wp2
  go_end0
  exact ⟨rfl, H1.out⟩

/-! ### Of no moment -/
theorem insertSort0 (v g : Value) (w : World) : Calls Try.prog 35 #[v, .int .i64 0, .int .i64 0, g] w fun e w' => e = .returned (.tuple #[]) ∧ w' = w := by
  go_enter Try.func35, Try.ntmps35
  go_wp2
  refine wp_loop_rounds 1 ?_
  rw [rounds_succ]
  go_wp2
  go_end0
  exact ⟨rfl, rfl⟩
theorem stable0 (v g : Value) (w : World) : Calls Try.prog 34 #[v, .int .i64 0, g] w fun e w' => e = .returned (.tuple #[]) ∧ w' = w := by
  have HC := Lib.hid (insertSort0 v g)
  go_enter Try.func34, Try.ntmps34
  go_wp2
  refine wp_loop_rounds 1 ?_
  rw [rounds_succ]
  go_wp2_with fail
  refine (HC.out _).mono ?_
  rintro _ w1 ⟨rfl, rfl⟩
  go_wp2
  refine wp_loop_rounds 1 ?_
  rw [rounds_succ]
  go_wp2
  go_end0
  exact ⟨rfl, rfl⟩
theorem sortStable0 (w : World) : Calls Try.prog 30 #[.slice none 0 0, .func (.func 12) #[] #[]] w fun e w' => e = .returned (.tuple #[]) ∧ w' = w := by
  have HC := Lib.hid (stable0 (.slice none 0 0) (.func (.func 12) #[] #[]))
  go_enter Try.func30, Try.ntmps30
  go_wp2_with fail
  refine (HC.out _).mono ?_
  rintro _ w1 ⟨rfl, rfl⟩
  go_wp2
  go_end0
  exact ⟨rfl, rfl⟩
end Go.Proofs.Ytbipkelocbkccaa
