/-
  The document's Sort at moments: of at most 1000 moments those in order, in a row of the call's own.
-/
import Derived.Test.YtbipkelocbkccaaSort
import Derived.Test.YtbipkelocbkccaaInsert
namespace Go.Proofs.Ytbipkelocbkccaa
open Go.RowKit Go.Lib
set_option linter.unusedVariables false

theorem refCompare_quiet (x y : Mo) (w : World) (q : Nat) : Calls Try.prog 13 #[.float .f64 x.v, .float .f64 y.v] (w.drewN q) fun e w' => e = .returned (.int .i64 (cmpN x.v y.v)) ∧ ∃ n, w' = w.drewN n :=
  (refCompare_any x.v y.v x.lt y.lt (w.drewN q)).mono fun e w' ⟨he, hw⟩ => ⟨he, q, hw⟩

theorem own_at {w : World} {base : Nat} {v : Value} {l : List Mo} (h : Own w base v l) (hl : l.length ≤ 1000) (hne : l ≠ []) :
    ∃ g off cap, v = .slice (some ⟨g, off, none⟩) l.length cap ∧ Ro w g off l.length ∧ At w g off l.length l w ∧ base ≤ g ∧ g < w.heap.size := by
  rcases h.form with ⟨_, rfl⟩ | ⟨g, cap, rfl⟩
  · exact absurd rfl hne
  · obtain ⟨h1, h2, h3, h4, h5⟩ := h.cell
    have hH : Sort.Holds encM w g 0 l.toArray := by
      intro j hj
      have hj' : j < l.length := by simpa using hj
      rw [Nat.zero_add]
      have := h5 j hj'
      rw [show l.toArray[j]! = l[j]! by simp]
      exact this
    exact ⟨g, 0, cap, rfl, ⟨⟨l.toArray, by simp, encM_one, hH, h2⟩, by omega⟩, ⟨rfl, SW.start hH⟩, h1, h2⟩

set_option maxHeartbeats 4000000 in
set_option maxRecDepth 100000 in
theorem refSort_any (a : Option Addr) (c : Nat) (l : List Mo) (w : World) (h : Ms w a l) (hc : a = none → c = 0) (hl : l.length ≤ 1000) : Calls Try.prog 21 #[.slice a l.length c] w (Made (SS l) w) := by
  have hB0 : Below w.heap.size w (w.alloc (.cells #[] 23)) := (Below.refl _ _).alloc (Nat.le_refl _) _
  have Q0 := Lib.hid (own_new w)
  have H0 := Lib.hid h
  have HC := Lib.hid hc
  clear h hc
  have hst := store_float
  go_enter Try.func21, Try.ntmps21
  go_wp2_with (first
    | (at_builtin
       refine wpList_app rfl (.tmp 7) (.tmp 8) rfl w.heap.size (.slice (some ⟨w.heap.size, 0, none⟩) 0 0) [] rfl Q0.out a c l rfl (H0.out.below hB0) HC.out (by simp; omega) hB0.size ?_
       intro y1 w1 hown1 hg1 hat1
       have hC1 : Below w.heap.size w w1 := hB0.grown hg1 hB0.size (fun k hk => by simp [Value.ownBlock] at hk; omega)))
  rw [List.nil_append] at hown1
  have HB := Lib.hid hC1
  clear hg1 hat1 Q0 H0 HC hC1 hB0
  by_cases hne : l = []
  · subst hne
    obtain ⟨a', cap', rfl, hm, hz⟩ := hown1.ms
    have HM := Lib.hid (And.intro hm hz)
    clear hown1 hm hz
    refine wp_loop_rounds 1 ?_
    rw [rounds_succ]
    go_wp2
    go_ret
    exact ⟨a', cap', [], rfl, ⟨by unfold Sortd; simp, Eqv.refl _⟩, HM.out.1, HM.out.2, HB.out⟩
  · obtain ⟨g, off, cap, rfl, R, S0, hg, hgl⟩ := own_at hown1 hl hne
    have S0 : Aside (At w1 g off l.length l w1) := S0
    have HL : Aside (l ≠ []) := hne
    obtain ⟨n, hn⟩ : ∃ n, n = l.length := ⟨_, rfl⟩
    rw [← hn] at S0 R hl ⊢
    have HN : Aside (n = l.length) := hn
    have hn0 : 0 < n := by rw [hn]; exact List.length_pos_iff.2 hne
    clear hown1 hne hn
    go_loopg [4, 5, 6] (n + 1) (fun gk vi vk vx wr => ∃ i : Nat, vi = .int .i64 (i : Int) ∧ 0 < i ∧ i ≤ n ∧ n - i ≤ gk ∧ Aside (∃ S T, S.length = i ∧ Sortd S ∧ Eqv l (S ++ T) ∧ At w1 g off n (S ++ T) wr))
    case atStart =>
      refine ⟨1, rfl, by omega, by omega, by omega, ?_⟩
      cases hX : l with
      | nil => exact absurd hX HL.out
      | cons x T => exact ⟨[x], T, rfl, by unfold Sortd; simp, Eqv.refl _, by have := S0.out; rw [hX] at this; exact this⟩
    case round =>
      clear S0 HL
      obtain ⟨i, rfl, hi0, hin, hg1, HS⟩ := hrel
      by_cases hlt : i < n
      · have hltz : (i : Int) < (n : Int) := by omega
        have hx : ∃ (S T : List Mo) (t : Mo), Aside (S.length = i ∧ Sortd S ∧ Eqv l (S ++ t :: T) ∧ At w1 g off n (S ++ t :: T) wr) := by
          obtain ⟨S, T, e1, e2, e3, hS⟩ := HS.out
          cases T with
          | nil =>
            exfalso
            have h4 := hS.len
            simp at h4
            omega
          | cons t T => exact ⟨S, T, t, e1, e2, e3, hS⟩
        clear HS
        obtain ⟨SS0, T, t, HS⟩ := hx
        have HI : Aside (Ins w1 g off n 0 [] SS0 T t i wr) := ⟨SS0, [], by simp, by rw [Nat.zero_add]; exact HS.out.1, by simp, by simpa using HS.out.2.2.2⟩
        have HS2 : Aside (SS0.length = i ∧ Sortd SS0 ∧ Eqv l (SS0 ++ t :: T)) := ⟨HS.out.1, HS.out.2.1, HS.out.2.2.1⟩
        clear HS
        go_wp2
        go_loopg [5, 6] i (fun g2 vj vx wr2 => ∃ j : Nat, vj = .int .i64 (j : Int) ∧ j ≤ i ∧ j ≤ g2 ∧ Aside (Ins w1 g off n 0 [] SS0 T t j wr2))
        case atStart => exact ⟨i, rfl, Nat.le_refl _, Nat.le_refl _, HI⟩
        case round =>
          clear HI
          obtain ⟨j, rfl, hji, hg2, HI⟩ := hrel
          have out : ∀ W, (j = 0 ∨ ∃ S1 S2 s, SS0 = S1 ++ s :: S2 ∧ S1.length + 1 = j ∧ s.key ≤ t.key) → Ins w1 g off n 0 [] SS0 T t j W →
              (∃ S T, S.length = i + 1 ∧ Sortd S ∧ Eqv l (S ++ T) ∧ At w1 g off n (S ++ T) W) := by
            intro W hc hI
            obtain ⟨S1, S2, e1, e2, e3, hS⟩ := hI
            obtain ⟨q1, q2, q3⟩ := HS2.out
            have hle : ∀ x ∈ S1, x.key ≤ t.key := by
              rcases hc with hc | ⟨U1, U2, s, u1, u2, u3⟩
              · have : S1 = [] := List.eq_nil_of_length_eq_zero (by omega)
                rw [this]
                simp
              · have hlen : S1.length = (U1 ++ [s]).length := by simp; omega
                have : S1 = U1 ++ [s] := by
                  have : S1 ++ S2 = (U1 ++ [s]) ++ U2 := by rw [← e1, u1]; simp
                  exact (List.append_inj this hlen).1
                rw [u1] at q2
                intro x hx
                rw [this] at hx
                rcases List.mem_append.1 hx with hx | hx
                · exact Nat.le_trans (sorted_before q2 x hx) u3
                · have : x = s := by simpa using hx
                  rw [this]; exact u3
            have hi := insert_of (S1 := S1) (S2 := S2) (t := t) (by rw [← e1]; exact q2) hle e3
            refine ⟨S1 ++ t :: S2, T, by rw [e1] at q1; simp at q1 ⊢; omega, hi.1, ?_, by simpa using hS⟩
            refine q3.trans ?_
            rw [show SS0 ++ t :: T = (S1 ++ S2 ++ [t]) ++ T by rw [e1]; simp]
            exact hi.2.app (Eqv.refl T)
          have OUT : Aside _ := out
          clear out
          by_cases hja : 0 < j
          · obtain ⟨jp, rfl⟩ : ∃ q, j = q + 1 := ⟨j - 1, by omega⟩
            have hx : ∃ (S1 S2 : List Mo) (s : Mo), Aside (SS0 = S1 ++ s :: S2 ∧ S1.length = jp ∧ (∀ x ∈ S2, t.key < x.key) ∧ At w1 g off n (S1 ++ s :: ([] ++ t :: (S2 ++ T))) wr) := by
              obtain ⟨S1, S2, e1, e2, e3, hS⟩ := HI.out
              obtain ⟨S1', s, rfl⟩ := snoc_of (S := S1) (by omega)
              exact ⟨S1', S2, s, by rw [e1]; simp, by simp at e2; omega, e3, by simpa using hS⟩
            obtain ⟨S1, S2, s, HX⟩ := hx
            have zj : ((jp + 1 : Nat) : Int) = (jp : Int) + 1 := by omega
            have g1 : decide ((jp : Int) + 1 > 0) = true := decide_eq_true (by omega)
            have g2 : (0 : Int) < (jp : Int) + 1 := by omega
            obtain ⟨p, hp⟩ : ∃ p, p = jp := ⟨_, rfl⟩
            obtain ⟨q, hq⟩ : ∃ q, q = jp + 1 := ⟨_, rfl⟩
            have ea : ((jp : Int)).toNat = p := by omega
            have pa : (0 : Int) ≤ (jp : Int) := by omega
            have ba : (jp : Int) < (n : Int) := by omega
            have eb : ((jp : Int) + 1).toNat = q := by omega
            have pb : (0 : Int) ≤ (jp : Int) + 1 := by omega
            have bb : (jp : Int) + 1 < (n : Int) := by omega
            have rb : IntKind.i64.wrap ((jp : Int) + 1) = (jp : Int) + 1 := by rw [IntKind.wrap_i64]; omega
            have ra : IntKind.i64.wrap (jp : Int) = (jp : Int) := by rw [IntKind.wrap_i64]; omega
            have hpP : p = S1.length ∧ q = S1.length + 1 + ([] : List Mo).length := by
              obtain ⟨e1, e2, e3, hS⟩ := HX.out
              simp
              omega
            have c1 : wr.cell? ⟨g, off + p, none⟩ = some (.float .f64 s.v) := by
              rw [hpP.1]
              exact HX.out.2.2.2.cell R rfl
            have hq2 : (S1 ++ [s]).length = q := by rw [hpP.2]; simp
            have c2 : wr.cell? ⟨g, off + q, none⟩ = some (.float .f64 t.v) := by
              have := HX.out.2.2.2.cell R (P := S1 ++ [s]) (x := t) (S := S2 ++ T) (by simp)
              rw [hq2] at this
              exact this
            have CQ := refCompare_quiet t s wr
            by_cases hk : t.key < s.key
            · have v1 : cmpN t.v s.v < 0 := cmp_neg.2 hk
              have v2 : decide (cmpN t.v s.v < 0) = true := decide_eq_true v1
              have HK : Aside (t.key < s.key) := hk
              have HP : Aside (p = S1.length ∧ q = S1.length + 1 + ([] : List Mo).length ∧ (S1 ++ [s]).length = q ∧ p = jp) := ⟨hpP.1, hpP.2, hq2, hp⟩
              clear hk hp hq hpP hq2 HI
              go_wp2_with fail
              go_quiet (first | (go_at_call 13; exact CQ _))
              have HY : Aside (SS0 = S1 ++ s :: S2 ∧ S1.length = jp ∧ (∀ x ∈ S2, t.key < x.key) ∧ At w1 g off n (S1 ++ s :: ([] ++ t :: (S2 ++ T))) (wr.drewN nq)) := ⟨HX.out.1, HX.out.2.1, HX.out.2.2.1, HX.out.2.2.2.drewN nq⟩
              clear HX c1 c2 CQ
              generalize wr.drewN nq = w2 at HY ⊢
              have c1 : w2.cell? ⟨g, off + p, none⟩ = some (.float .f64 s.v) := by
                rw [HP.out.1]
                exact HY.out.2.2.2.cell R rfl
              have c2 : w2.cell? ⟨g, off + q, none⟩ = some (.float .f64 t.v) := by
                have := HY.out.2.2.2.cell R (P := S1 ++ [s]) (x := t) (S := S2 ++ T) (by simp)
                rw [HP.out.2.2.1] at this
                exact this
              have f1 : w2.frozen? ⟨g, off + p, none⟩ = false := HY.out.2.2.2.free R (by have := HP.out.2.2.2; omega)
              have f2 : w2.frozen? ⟨g, off + q, none⟩ = false := HY.out.2.2.2.free R (by omega)
              have c3 : (w2.setCell ⟨g, off + q, none⟩ (.float .f64 s.v)).cell? ⟨g, off + p, none⟩ = some (.float .f64 s.v) := by
                have := HY.out.2.2.2.second R (P := S1) (x := s) rfl (i := q) (by rw [HP.out.2.1]; simp) (.float .f64 s.v)
                rw [← HP.out.1] at this
                exact this
              have S3 : Aside (At w1 g off n (S1 ++ t :: ([] ++ s :: (S2 ++ T))) ((w2.setCell ⟨g, off + q, none⟩ (.float .f64 s.v)).setCell ⟨g, off + p, none⟩ (.float .f64 t.v))) :=
                (HY.out.2.2.2.swapR R (P := S1) (M := []) (S := S2 ++ T) rfl HP.out.1 HP.out.2.1)
              have HY2 : Aside (SS0 = S1 ++ s :: S2 ∧ S1.length = jp ∧ (∀ x ∈ S2, t.key < x.key)) := ⟨HY.out.1, HY.out.2.1, HY.out.2.2.1⟩
              clear HY
              go_wp2
              go_roundg jp
              case measure => omega
              case rel =>
                obtain ⟨e1, e2, e3⟩ := HY2.out
                exact ⟨jp, by first | rfl | go_num, by omega, Nat.le_refl _, S1, s :: S2, e1, by omega, fun x hx => by
                  rcases List.mem_cons.1 hx with e | e
                  · rw [e]; exact HK.out
                  · exact e3 x e, by simpa using S3.out⟩
            · have v1 : ¬ cmpN t.v s.v < 0 := fun h => hk (cmp_neg.1 h)
              have v2 : decide (cmpN t.v s.v < 0) = false := decide_eq_false v1
              have HK : Aside (s.key ≤ t.key) := by show s.key ≤ t.key; omega
              clear hk hp hq hpP hq2
              go_wp2_with fail
              go_quiet (first | (go_at_call 13; exact CQ _))
              have HY : Aside (Ins w1 g off n 0 [] SS0 T t (jp + 1) (wr.drewN nq)) := by
                obtain ⟨S1, S2, e1, e2, e3, hS⟩ := HI.out
                exact ⟨S1, S2, e1, e2, e3, hS.drewN nq⟩
              have HX2 : Aside (SS0 = S1 ++ s :: S2 ∧ S1.length = jp) := ⟨HX.out.1, HX.out.2.1⟩
              clear HX HI c1 c2 CQ
              generalize wr.drewN nq = w2 at HY ⊢
              go_wp2
              go_roundg (n - (i + 1))
              case measure => omega
              case rel => exact ⟨i + 1, by go_num, by omega, by omega, by omega, OUT.out w2 (.inr ⟨S1, S2, s, HX2.out.1, by have := HX2.out.2; omega, HK.out⟩) HY.out⟩
          · have g1 : decide ((j : Int) > 0) = false := decide_eq_false (by omega)
            have g2 : ¬ (0 : Int) < (j : Int) := by omega
            go_wp2_with fail
            go_region
            all_goals
              have HY : Aside (Ins w1 g off n 0 [] SS0 T t j wr.drew) := by
                obtain ⟨S1, S2, e1, e2, e3, hS⟩ := HI.out
                exact ⟨S1, S2, e1, e2, e3, hS.drew⟩
              clear HI
              generalize wr.drew = w2 at HY ⊢
              go_wp2
              go_roundg (n - (i + 1))
              case measure => omega
              case rel => exact ⟨i + 1, by go_num, by omega, by omega, by omega, OUT.out w2 (.inl (by omega)) HY.out⟩
      · have hltz : ¬ (i : Int) < (n : Int) := by omega
        go_wp2
        go_ret
        obtain ⟨S, T, e1, e2, e3, hS⟩ := HS.out
        have h4 := hS.len
        simp at h4
        have : T = [] := List.eq_nil_of_length_eq_zero (by omega)
        subst this
        rw [List.append_nil] at e3 hS
        exact ⟨some ⟨g, off, none⟩, cap, S, by rw [show S.length = n by omega]; rfl, ⟨e2, e3⟩, fun _ => ⟨g, off, rfl, hg, hS.sw.lt hgl, fun i hi => hS.cellI R (by omega)⟩, (fun h => by cases h), HB.out.trans (sw_below hS.sw hg hgl)⟩
end Go.Proofs.Ytbipkelocbkccaa
