/-
  slices.insertionSortCmpFunc at moments, compared by moment.Compare: a part of a row is left in order.
-/
import Derived.Test.YtbipkelocbkccaaRow
namespace Go.Proofs.Ytbipkelocbkccaa
open Go.RowKit Go.Lib Go.Sort
set_option linter.unusedVariables false

theorem snoc_of {S : List Mo} (h : 0 < S.length) : ∃ S' s, S = S' ++ [s] := ⟨S.dropLast, S.getLast (by intro e; rw [e] at h; simp at h), (List.dropLast_concat_getLast _).symm⟩

/-- What stands in the inner loop: the one that is put in its place has come over S2. -/
def Ins (w0 : World) (blk off n a : Nat) (A S R : List Mo) (t : Mo) (j : Nat) (W : World) : Prop :=
  ∃ S1 S2, S = S1 ++ S2 ∧ a + S1.length = j ∧ (∀ x ∈ S2, t.key < x.key) ∧ At w0 blk off n (A ++ S1 ++ t :: (S2 ++ R)) W

set_option maxHeartbeats 2000000 in
set_option maxRecDepth 100000 in
theorem insertSort (w0 w : World) (blk off cap n : Nat) (A X B : List Mo) (R : Ro w0 blk off n) (a b : Nat) (ha : a = A.length) (hb : b = A.length + X.length)
    (S : At w0 blk off n (A ++ X ++ B) w) :
    Calls Try.prog 35 #[.slice (some ⟨blk, off, none⟩) n cap, .int .i64 (a : Int), .int .i64 (b : Int), .func (.func 12) #[] #[]] w
      fun e w' => e = .returned (.tuple #[]) ∧ ∃ Z, SS X Z ∧ At w0 blk off n (A ++ Z ++ B) w' := by
  have hsm := R.small
  have hn : a ≤ b ∧ b ≤ n := by
    have := S.len
    simp only [List.length_append] at this
    omega
  have S0 : Aside (At w0 blk off n (A ++ X ++ B) w) := S
  have HA : Aside (a = A.length ∧ b = A.length + X.length) := ⟨ha, hb⟩
  clear S ha hb
  have hst := store_float
  go_enter Try.func35, Try.ntmps35
  go_wp2
  go_loopg [8] (b + 1) (fun gk vi wr => ∃ i : Nat, vi = .int .i64 (i : Int) ∧ a < i ∧ (i ≤ b ∨ i = a + 1) ∧ b + 1 - i ≤ gk ∧ Aside ((i ≤ b ∧ ∃ S T, a + S.length = i ∧ Sortd S ∧ Eqv X (S ++ T) ∧ At w0 blk off n (A ++ S ++ T ++ B) wr) ∨ (b ≤ a ∧ At w0 blk off n (A ++ X ++ B) wr)))
  case atStart =>
    refine ⟨a + 1, by go_num, by omega, .inr rfl, by omega, ?_⟩
    obtain ⟨h1, h2⟩ := HA.out
    by_cases h : a < b
    · refine .inl ⟨h, ?_⟩
      cases hX : X with
      | nil => rw [hX] at h2; simp at h2; omega
      | cons x T => exact ⟨[x], T, rfl, by unfold Sortd; simp, by simpa using Eqv.refl _, by have := S0.out; rw [hX] at this; simpa using this⟩
    · exact .inr ⟨by omega, S0.out⟩
  case round =>
    clear S0
    obtain ⟨i, rfl, hai, hib, hg1, HS⟩ := hrel
    by_cases hlt : i < b
    · have hltz : (i : Int) < (b : Int) := by omega
      have hx : ∃ (S T : List Mo) (t : Mo), Aside (a + S.length = i ∧ Sortd S ∧ Eqv X (S ++ t :: T) ∧ At w0 blk off n (A ++ S ++ t :: (T ++ B)) wr) := by
        rcases HS.out with ⟨_, S, T, e1, e2, e3, hS⟩ | ⟨h, _⟩
        · cases T with
          | nil =>
            exfalso
            have h4 := e3.1
            obtain ⟨h1, h2⟩ := HA.out
            simp at h4
            omega
          | cons t T => exact ⟨S, T, t, e1, e2, e3, by simpa using hS⟩
        · omega
      clear HS
      obtain ⟨SS0, T, t, HS⟩ := hx
      have HI : Aside (Ins w0 blk off n a A SS0 (T ++ B) t i wr) := ⟨SS0, [], by simp, HS.out.1, by simp, by simpa using HS.out.2.2.2⟩
      have HS2 : Aside (a + SS0.length = i ∧ Sortd SS0 ∧ Eqv X (SS0 ++ t :: T)) := ⟨HS.out.1, HS.out.2.1, HS.out.2.2.1⟩
      clear HS
      go_wp2
      go_loopg [9] i (fun g2 vj wr2 => ∃ j : Nat, vj = .int .i64 (j : Int) ∧ a ≤ j ∧ j ≤ i ∧ j ≤ g2 ∧ Aside (Ins w0 blk off n a A SS0 (T ++ B) t j wr2))
      case atStart => exact ⟨i, rfl, by omega, Nat.le_refl _, Nat.le_refl _, HI⟩
      case round =>
        clear HI
        obtain ⟨j, rfl, haj, hji, hg2, HI⟩ := hrel
        have out : ∀ W, (j ≤ a ∨ ∃ S1 S2 s, SS0 = S1 ++ s :: S2 ∧ a + S1.length + 1 = j ∧ s.key ≤ t.key) → Ins w0 blk off n a A SS0 (T ++ B) t j W →
            (i + 1 ≤ b ∧ ∃ S T, a + S.length = i + 1 ∧ Sortd S ∧ Eqv X (S ++ T) ∧ At w0 blk off n (A ++ S ++ T ++ B) W) := by
          intro W hc hI
          refine ⟨by omega, ?_⟩
          obtain ⟨S1, S2, e1, e2, e3, hS⟩ := hI
          obtain ⟨q1, q2, q3⟩ := HS2.out
          have hle : ∀ x ∈ S1, x.key ≤ t.key := by
            rcases hc with hc | ⟨U1, U2, s, u1, u2, u3⟩
            · have : S1 = [] := List.eq_nil_of_length_eq_zero (by omega)
              rw [this]
              simp
            · have hlen : S1.length = (U1 ++ [s]).length := by simp; omega
              have : S1 = U1 ++ [s] := by
                have : S1 ++ S2 = (U1 ++ [s]) ++ U2 := by rw [← e1, u1]; simp
                exact (List.append_inj this hlen).1
              rw [u1] at q2
              intro x hx
              rw [this] at hx
              rcases List.mem_append.1 hx with hx | hx
              · exact Nat.le_trans (sorted_before q2 x hx) u3
              · have : x = s := by simpa using hx
                rw [this]; exact u3
          have hi := insert_of (S1 := S1) (S2 := S2) (t := t) (by rw [← e1]; exact q2) hle e3
          refine ⟨S1 ++ t :: S2, T, by rw [e1] at q1; simp at q1 ⊢; omega, hi.1, ?_, by simpa using hS⟩
          refine q3.trans ?_
          rw [show SS0 ++ t :: T = (S1 ++ S2 ++ [t]) ++ T by rw [e1]; simp]
          exact hi.2.app (Eqv.refl T)
        have OUT : Aside _ := out
        clear out
        by_cases hja : a < j
        · obtain ⟨jp, rfl⟩ : ∃ q, j = q + 1 := ⟨j - 1, by omega⟩
          have hx : ∃ (S1 S2 : List Mo) (s : Mo), Aside (SS0 = S1 ++ s :: S2 ∧ a + S1.length = jp ∧ (∀ x ∈ S2, t.key < x.key) ∧ At w0 blk off n (A ++ S1 ++ s :: ([] ++ t :: (S2 ++ (T ++ B)))) wr) := by
            obtain ⟨S1, S2, e1, e2, e3, hS⟩ := HI.out
            obtain ⟨S1', s, rfl⟩ := snoc_of (S := S1) (by omega)
            exact ⟨S1', S2, s, by rw [e1]; simp, by simp at e2; omega, e3, by simpa using hS⟩
          obtain ⟨S1, S2, s, HX⟩ := hx
          have zj : ((jp + 1 : Nat) : Int) = (jp : Int) + 1 := by omega
          have g1 : decide ((jp : Int) + 1 > (a : Int)) = true := decide_eq_true (by omega)
          have g2 : (a : Int) < (jp : Int) + 1 := by omega
          obtain ⟨p, hp⟩ : ∃ p, p = jp := ⟨_, rfl⟩
          obtain ⟨q, hq⟩ : ∃ q, q = jp + 1 := ⟨_, rfl⟩
          have ea : ((jp : Int)).toNat = p := by omega
          have pa : (0 : Int) ≤ (jp : Int) := by omega
          have ba : (jp : Int) < (n : Int) := by omega
          have eb : ((jp : Int) + 1).toNat = q := by omega
          have pb : (0 : Int) ≤ (jp : Int) + 1 := by omega
          have bb : (jp : Int) + 1 < (n : Int) := by omega
          have rb : IntKind.i64.wrap ((jp : Int) + 1) = (jp : Int) + 1 := by rw [IntKind.wrap_i64]; omega
          have ra : IntKind.i64.wrap (jp : Int) = (jp : Int) := by rw [IntKind.wrap_i64]; omega
          have hpP : p = (A ++ S1).length ∧ q = (A ++ S1).length + 1 + ([] : List Mo).length := by
            obtain ⟨e1, e2, e3, hS⟩ := HX.out
            obtain ⟨h1, h2⟩ := HA.out
            simp
            omega
          have c1 : wr.cell? ⟨blk, off + p, none⟩ = some (.float .f64 s.v) := by
            rw [hpP.1]
            exact HX.out.2.2.2.cell R rfl
          have hq2 : (A ++ S1 ++ [s]).length = q := by rw [hpP.2]; simp; omega
          have c2 : wr.cell? ⟨blk, off + q, none⟩ = some (.float .f64 t.v) := by
            have := HX.out.2.2.2.cell R (P := A ++ S1 ++ [s]) (x := t) (S := S2 ++ (T ++ B)) (by simp)
            rw [hq2] at this
            exact this
          have CQ := compare_quiet t s wr
          by_cases hk : t.key < s.key
          · have v1 : cmpN t.v s.v < 0 := cmp_neg.2 hk
            have v2 : decide (cmpN t.v s.v < 0) = true := decide_eq_true v1
            have HK : Aside (t.key < s.key) := hk
            have HP : Aside (p = (A ++ S1).length ∧ q = (A ++ S1).length + 1 + ([] : List Mo).length ∧ (A ++ S1 ++ [s]).length = q ∧ p = jp) := ⟨hpP.1, hpP.2, hq2, hp⟩
            clear hk hp hq hpP hq2 HI
            go_wp2_with fail
            go_quiet (first | (go_at_call 12; exact CQ _))
            have HY : Aside (SS0 = S1 ++ s :: S2 ∧ a + S1.length = jp ∧ (∀ x ∈ S2, t.key < x.key) ∧ At w0 blk off n (A ++ S1 ++ s :: ([] ++ t :: (S2 ++ (T ++ B)))) (wr.drewN nq)) := ⟨HX.out.1, HX.out.2.1, HX.out.2.2.1, HX.out.2.2.2.drewN nq⟩
            clear HX c1 c2 CQ
            generalize wr.drewN nq = w2 at HY ⊢
            have c1 : w2.cell? ⟨blk, off + p, none⟩ = some (.float .f64 s.v) := by
              rw [HP.out.1]
              exact HY.out.2.2.2.cell R rfl
            have c2 : w2.cell? ⟨blk, off + q, none⟩ = some (.float .f64 t.v) := by
              have := HY.out.2.2.2.cell R (P := A ++ S1 ++ [s]) (x := t) (S := S2 ++ (T ++ B)) (by simp)
              rw [HP.out.2.2.1] at this
              exact this
            have f1 : w2.frozen? ⟨blk, off + p, none⟩ = false := HY.out.2.2.2.free R (by have := HP.out.2.2.2; omega)
            have f2 : w2.frozen? ⟨blk, off + q, none⟩ = false := HY.out.2.2.2.free R (by omega)
            have c3 : (w2.setCell ⟨blk, off + q, none⟩ (.float .f64 s.v)).cell? ⟨blk, off + p, none⟩ = some (.float .f64 s.v) := by
              have := HY.out.2.2.2.second R (P := A ++ S1) (x := s) rfl (i := q) (by rw [HP.out.2.1]; simp) (.float .f64 s.v)
              rw [← HP.out.1] at this
              exact this
            have S3 : Aside (At w0 blk off n (A ++ S1 ++ t :: ([] ++ s :: (S2 ++ (T ++ B)))) ((w2.setCell ⟨blk, off + q, none⟩ (.float .f64 s.v)).setCell ⟨blk, off + p, none⟩ (.float .f64 t.v)).drew) :=
              (HY.out.2.2.2.swapR R (P := A ++ S1) (M := []) (S := S2 ++ (T ++ B)) rfl HP.out.1 HP.out.2.1).drew
            have HY2 : Aside (SS0 = S1 ++ s :: S2 ∧ a + S1.length = jp ∧ (∀ x ∈ S2, t.key < x.key)) := ⟨HY.out.1, HY.out.2.1, HY.out.2.2.1⟩
            clear HY
            go_wp2_with fail
            go_region
            all_goals
              clear c1 c2 c3 f1 f2 ea eb
              generalize ((w2.setCell ⟨blk, off + q, none⟩ (.float .f64 s.v)).setCell ⟨blk, off + p, none⟩ (.float .f64 t.v)).drew = w3 at S3 ⊢
              go_wp2
              go_roundg jp
              case measure => omega
              case rel =>
                obtain ⟨e1, e2, e3⟩ := HY2.out
                exact ⟨jp, by first | rfl | go_num, by omega, by omega, Nat.le_refl _, S1, s :: S2, e1, e2, fun x hx => by
                  rcases List.mem_cons.1 hx with e | e
                  · rw [e]; exact HK.out
                  · exact e3 x e, by simpa using S3.out⟩
          · have v1 : ¬ cmpN t.v s.v < 0 := fun h => hk (cmp_neg.1 h)
            have v2 : decide (cmpN t.v s.v < 0) = false := decide_eq_false v1
            have HK : Aside (s.key ≤ t.key) := by show s.key ≤ t.key; omega
            clear hk hp hq hpP hq2
            go_wp2_with fail
            go_quiet (first | (go_at_call 12; exact CQ _))
            have HY : Aside (Ins w0 blk off n a A SS0 (T ++ B) t (jp + 1) (wr.drewN nq)) := by
              obtain ⟨S1, S2, e1, e2, e3, hS⟩ := HI.out
              exact ⟨S1, S2, e1, e2, e3, hS.drewN nq⟩
            have HX2 : Aside (SS0 = S1 ++ s :: S2 ∧ a + S1.length = jp) := ⟨HX.out.1, HX.out.2.1⟩
            clear HX HI c1 c2 CQ
            generalize wr.drewN nq = w2 at HY ⊢
            go_wp2
            go_roundg (b + 1 - (i + 1))
            case measure => omega
            case rel => exact ⟨i + 1, by go_num, by omega, .inl (by omega), by omega, .inl (OUT.out w2 (.inr ⟨S1, S2, s, HX2.out.1, by have := HX2.out.2; omega, HK.out⟩) HY.out)⟩
        · have g1 : decide ((j : Int) > (a : Int)) = false := decide_eq_false (by omega)
          have g2 : ¬ (a : Int) < (j : Int) := by omega
          go_wp2_with fail
          go_region
          all_goals
            have HY : Aside (Ins w0 blk off n a A SS0 (T ++ B) t j wr.drew) := by
              obtain ⟨S1, S2, e1, e2, e3, hS⟩ := HI.out
              exact ⟨S1, S2, e1, e2, e3, hS.drew⟩
            clear HI
            generalize wr.drew = w2 at HY ⊢
            go_wp2
            go_roundg (b + 1 - (i + 1))
            case measure => omega
            case rel => exact ⟨i + 1, by go_num, by omega, .inl (by omega), by omega, .inl (OUT.out w2 (.inl (by omega)) HY.out)⟩
    · have hltz : ¬ (i : Int) < (b : Int) := by omega
      go_wp2
      go_end0
      refine ⟨rfl, ?_⟩
      obtain ⟨h1, h2⟩ := HA.out
      rcases HS.out with ⟨_, S, T, e1, e2, e3, hS⟩ | ⟨h, hS⟩
      · have h4 := e3.1
        simp at h4
        have : T = [] := List.eq_nil_of_length_eq_zero (by omega)
        subst this
        exact ⟨S, ⟨e2, by simpa using e3⟩, by simpa using hS⟩
      · have : X = [] := List.eq_nil_of_length_eq_zero (by omega)
        subst this
        exact ⟨[], ⟨by unfold Sortd; simp, Eqv.refl _⟩, by simpa using hS⟩
end Go.Proofs.Ytbipkelocbkccaa
