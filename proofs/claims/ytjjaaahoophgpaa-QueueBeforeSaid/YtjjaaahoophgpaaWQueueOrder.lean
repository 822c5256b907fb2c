/-
  QueueOrder returns true for every slice of words.
-/
import Derived.Test.YtjjaaahoophgpaaPushed
namespace Go.Proofs.Ytjjaaahoophgpaa
open Go.RowKit Go.Lib
set_option linter.unusedVariables false

theorem inf_neg (w : World) : Calls Try.prog 22 #[.int .i64 (-1)] w (Gives (.float .f64 18442240474082181120) w) := by
  have hb : ∀ w, (callFunc 12 #[.int .u64 18442240474082181120]).run Try.prog w = .ok (.value (.float .f64 18442240474082181120)) w := from_run 18442240474082181120
  go_enter Try.func22, Try.ntmps22
  go_wp2
  go_ret
  exact ⟨rfl, rfl⟩
/-- What was popped last, ahead of a place. -/
def Last (s : List Ent) (j : Nat) (a : Nat) (z : Int) : Prop := (j = 0 ∧ a = 18442240474082181120 ∧ z = -1) ∨ (0 < j ∧ a = (s[j - 1]!).m.v ∧ z = (s[j - 1]!).n)
theorem inf_least (a : Nat) (ha : a < 2 ^ 64) : cmpN 18442240474082181120 a ≤ 0 := by
  have h1 : keyN 18442240474082181120 = 4503599627370495 := by decide
  have h2 : 4503599627370495 ≤ keyN a := by
    rcases kinds a ha with ⟨_, _, h⟩ | ⟨_, _, _, h, _⟩ | ⟨_, _, h', h'', h, _⟩ | ⟨_, _, _, h, _⟩ | ⟨_, _, _, h, _⟩ | ⟨_, _, _, _, h, _⟩ | ⟨_, _, _, h, _⟩ <;> omega
  unfold cmpN cmpK
  rw [h1]
  (repeat' split) <;> omega
theorem pushed_ordd (l : List Mo) : ∀ k, k < 1000000 → Ordd (pushed l k)
  | 0, _ => List.Pairwise.nil
  | k + 1, hk => by
    refine ins_ordd _ _ (pushed_ordd l k (by omega)) (fun y hy => ?_)
    obtain ⟨j, hj, rfl⟩ := pushed_mem l k y hy
    rw [mkE_t (by omega), mkE_t (by omega)]
    exact hj
/-- One of them. -/
theorem pushed_at (l : List Mo) {n j : Nat} (hj : j < n) (hn : n < 1000000) : ∃ k, k < n ∧ ((pushed l n)[j]!).m = l[k]! ∧ ((pushed l n)[j]!).n = (k : Int) ∧ ((pushed l n)[j]!).t = k := by
  have h : (pushed l n)[j]! ∈ pushed l n := by
    rw [getElem!_pos _ j (by rw [pushed_length]; exact hj)]
    exact List.getElem_mem _
  obtain ⟨k, hk, e⟩ := pushed_mem l n _ h
  rw [e]
  exact ⟨k, hk, mkE_m (by omega), mkE_n (by omega), mkE_t (by omega)⟩
theorem order_next (l : List Mo) {n j k a : Nat} {z : Int} (hj : j < n) (hn : n < 1000000) (h : Last (pushed l n) j a z) (hk : ((pushed l n)[j]!).n = (k : Int)) (ht : ((pushed l n)[j]!).t = k) :
    a < 2 ^ 64 ∧ cmpN a ((pushed l n)[j]!).m.v ≤ 0 ∧ (cmpN a ((pushed l n)[j]!).m.v = 0 → (k : Int) ≤ z → 0 ≤ z → False) := by
  rcases h with ⟨rfl, rfl, rfl⟩ | ⟨h0, rfl, rfl⟩
  · exact ⟨by omega, inf_least _ ((pushed l n)[0]!).m.lt, fun _ _ h => by omega⟩
  · have ho := pushed_ordd l n hn
    have hl := pushed_length l n
    have hlt : ((pushed l n)[j - 1]!).rk < ((pushed l n)[j]!).rk := by
      rw [getElem!_pos _ j (by omega), getElem!_pos _ (j - 1) (by omega)]
      exact List.pairwise_iff_getElem.1 ho (j - 1) j (by omega) (by omega) (by omega)
    obtain ⟨k', hk', e1, e2, e3⟩ := pushed_at l (n := n) (j := j - 1) (by omega) hn
    refine ⟨((pushed l n)[j - 1]!).m.lt, cmpN_le.2 (key_le_of_rk hlt), fun h0 h1 _ => ?_⟩
    have := cmpN_zero.1 h0
    unfold Ent.rk at hlt
    omega

theorem order_long (a : Option Addr) (cap n : Nat) (w : World) (hn : 400 < n) (hl : n ≤ 9223372036854775807) : Calls Try.prog 5 #[.slice a n cap] w (Truth w) := by
  have KN := Lib.hid (new_run w)
  have KA := Lib.hid alive_run
  have hx : (400 : Int) < (n : Int) := by omega
  go_enter Try.func5, Try.ntmps5
  go_wp2_with fail
  refine KN.out.mono ?_
  rintro _ w0 ⟨rfl, q0, s0⟩
  have H0 := Lib.hid s0
  clear KN q0 s0
  go_wp2_with fail
  refine (KA.out _).mono ?_
  rintro _ w1 ⟨rfl, s1⟩
  have H1 := Lib.hid (H0.out.none.trans s1)
  clear H0 s1
  go_wp2_with fail
  refine (KA.out _).mono ?_
  rintro _ w2 ⟨rfl, s2⟩
  have H2 := Lib.hid (H1.out.trans s2)
  clear H1 s2
  go_wp2
  go_ret
  exact ⟨rfl, H2.out.under⟩

set_option maxHeartbeats 2000000 in
set_option maxRecDepth 100000 in
theorem order_short (a : Option Addr) (cap n : Nat) (l : List Mo) (w : World) (hU : Us w a l) (hn : n = l.length) (hl : n ≤ 400) : Calls Try.prog 5 #[.slice a n cap] w (Truth w) := by
  have KN := Lib.hid (new_run w)
  have KA := Lib.hid alive_run
  have hx : ¬ (400 : Int) < (n : Int) := by omega
  have HU : Aside (Us w a l ∧ n = l.length) := ⟨hU, hn⟩
  clear hU hn
  go_enter Try.func5, Try.ntmps5
  go_wp2_with fail
  refine KN.out.mono ?_
  rintro _ w0 ⟨rfl, q0, s0⟩
  have H0 := Lib.hid (And.intro q0 s0)
  clear KN q0 s0
  generalize w.heap.size = b at *
  go_wp2_with fail
  refine (KA.out _).mono ?_
  rintro _ w1 ⟨rfl, s1⟩
  have H1 : Aside (Qs w1 [b] b [] 0 ∧ Stp [] w [b] w1) := ⟨H0.out.1.stays s1, H0.out.2.trans (s1.widen (fun k h => .inl h))⟩
  clear H0 s1 KA
  go_wp2
  go_loopg [30] n (fun gk vi wr => ∃ i : Nat, vi = .int .i64 (i : Int) ∧ i ≤ n ∧ n - i ≤ gk ∧ Aside (∃ F, Qs wr F b (pushed l i) i ∧ Stp [] w F wr))
  case atStart => exact ⟨0, rfl, by omega, by omega, [b], H1.out.1, H1.out.2⟩
  case round =>
    clear H1
    obtain ⟨i, rfl, hi, hg, HS⟩ := hrel
    obtain ⟨F, HS⟩ : ∃ F, Aside (Qs wr F b (pushed l i) i ∧ Stp [] w F wr) := HS.out
    by_cases hlt : i < n
    · have hltz : (i : Int) < (n : Int) := by omega
      obtain ⟨ab, off, rfl, hc⟩ := HU.out.1.cell HS.out.2 (i := i) (by have := HU.out.2; omega)
      have K := Lib.hid (qpush_run HS.out.1 (by rw [pushed_length]; omega) (l[i]!) (i : Int) (by omega) (mkE (l[i]!) (i : Int) i) (mkE_all (by omega)))
      generalize hm : l[i]! = m at *
      have HM : Aside (l[i]! = m) := hm
      clear hm
      have fm := from_run m.v
      go_wp2_with fail
      refine K.out.mono ?_
      rintro _ w2 ⟨rfl, F2, q2, s2⟩
      have H2 : Aside (Qs w2 F2 b (pushed l (i + 1)) (i + 1) ∧ Stp [] w F2 w2) := ⟨by unfold pushed; rw [HM.out]; exact q2, HS.out.2.trans s2⟩
      clear K q2 s2 hc
      go_wp2
      go_roundg (n - (i + 1))
      case measure => omega
      case rel => exact ⟨i + 1, by go_num, by omega, by omega, F2, H2.out⟩
    · have hltz : ¬ (i : Int) < (n : Int) := by omega
      obtain rfl : i = n := by omega
      have KI := Lib.hid inf_neg
      go_wp2_with fail
      refine (KI.out _).mono ?_
      rintro _ _ ⟨rfl, rfl⟩
      clear KI
      go_wp2
      go_loopg [45, 6, 7] i (fun gk vi v6 v7 wr => ∃ (j a' : Nat) (z : Int), vi = .int .i64 (j : Int) ∧ v6 = .float .f64 a' ∧ v7 = .int .i64 z ∧ j ≤ i ∧ i - j ≤ gk ∧ Aside (Qs wr F b ((pushed l i).drop j) i ∧ Stp [] w F wr ∧ Last (pushed l i) j a' z))
      case atStart => exact ⟨0, _, _, rfl, rfl, rfl, by omega, by omega, HS.out.1, HS.out.2, .inl ⟨rfl, rfl, rfl⟩⟩
      case round =>
        clear HS
        obtain ⟨j, a', z, rfl, rfl, rfl, hj, hgj, HS⟩ := hrel
        by_cases hlt : j < i
        · have hltz : (j : Int) < (i : Int) := by omega
          have hq := HS.out.1.next (by rw [pushed_length]; omega)
          have hrl : ((pushed l i).drop (j + 1)).length = i - (j + 1) := by rw [List.length_drop, pushed_length]
          have KO := Lib.hid (qpop_run hq (by omega))
          obtain ⟨k, hk, em, en, et⟩ := pushed_at l (n := i) (j := j) hlt (by omega)
          obtain ⟨o1, o2, o3⟩ := order_next l hlt (by omega) HS.out.2.2 en et
          obtain ⟨ab, off, rfl, hc⟩ := HU.out.1.cell HS.out.2.1 (i := k) (by have := HU.out.2; omega)
          rw [en, em] at KO
          rw [em] at o2 o3
          have HX : Aside (l[k]! = ((pushed l i)[j]!).m ∧ (k : Int) = ((pushed l i)[j]!).n) := ⟨em.symm, en.symm⟩
          have hc4 : Aside (∀ W, Stp [] w F W → W.cell? ⟨ab, off + k, none⟩ = some (.int .u64 ((l[k]!).v : Int))) := fun W hW => by
            obtain ⟨ab', off', e, h⟩ := HU.out.1.cell hW (i := k) (by have := HU.out.2; omega)
            cases e
            exact h
          generalize l[k]! = m at *
          have CQ := compare_any a' m.v o1 m.lt
          generalize cmpN a' m.v = c at *
          have fx := bits_run m.v
          have g1 : decide ((k : Int) < 0) = false := decide_eq_false (by omega)
          have g2 : decide ((k : Int) ≥ (i : Int)) = false := decide_eq_false (by omega)
          have g3 : (0 : Int) ≤ (k : Int) := by omega
          have g4 : (k : Int) < (i : Int) := by omega
          clear hq em en et hc
          go_wp2_with fail
          refine KO.out.mono ?_
          rintro _ w4 ⟨rfl, q4, s4⟩
          have H4 : Aside (Qs w4 F b ((pushed l i).drop (j + 1)) i ∧ Stp [] w F w4) := ⟨q4, HS.out.2.1.trans s4⟩
          have hc := hc4.out w4 H4.out.2
          clear KO q4 s4 hc4
          go_wp2_with fail
          go_quiet (fail)
          have H5 : Aside (Qs (w4.drewN nq) F b ((pushed l i).drop (j + 1)) i ∧ Stp [] w F (w4.drewN nq)) := ⟨H4.out.1.stays (Stp.drewN [] w4 nq), H4.out.2.trans (Stp.drewN F w4 nq)⟩
          generalize w4.drewN nq = w5 at *
          have KC := Lib.hid CQ
          clear H4 CQ hc
          have hle : ¬ 0 < c := by omega
          have HL : Aside (Last (pushed l i) (j + 1) m.v (k : Int)) := .inr ⟨by omega, by rw [Nat.add_sub_cancel, ← HX.out.1], by rw [Nat.add_sub_cancel]; exact HX.out.2⟩
          by_cases c0 : c = 0
          · subst c0
            by_cases h1 : (k : Int) ≤ z
            · exact (o3 rfl h1 (by omega)).elim
            · clear o3
              go_wp2_with fail
              refine (KC.out _).mono ?_
              rintro _ _ ⟨rfl, rfl⟩
              clear KC
              go_wp2
              go_roundg (i - (j + 1))
              case measure => omega
              case rel => exact ⟨j + 1, _, _, by go_num, rfl, rfl, by omega, by omega, H5.out.1, H5.out.2, HL.out⟩
          · clear o3
            go_wp2_with fail
            refine (KC.out _).mono ?_
            rintro _ _ ⟨rfl, rfl⟩
            clear KC
            go_wp2
            go_roundg (i - (j + 1))
            case measure => omega
            case rel => exact ⟨j + 1, _, _, by go_num, rfl, rfl, by omega, by omega, H5.out.1, H5.out.2, HL.out⟩
        · have hltz : ¬ (j : Int) < (i : Int) := by omega
          obtain rfl : j = i := by omega
          have hq : Qs wr F b [] j := by
            have := HS.out.1
            rwa [List.drop_of_length_le (by rw [pushed_length]; omega)] at this
          have KP := Lib.hid (qpop_none hq)
          have KL := Lib.hid (qlen_run hq)
          clear hq
          go_wp2_with fail
          refine KP.out.mono ?_
          rintro _ _ ⟨rfl, rfl⟩
          clear KP
          go_wp2_with fail
          refine KL.out.mono ?_
          rintro _ _ ⟨rfl, rfl⟩
          clear KL
          go_wp2
          go_ret
          exact ⟨rfl, HS.out.2.1.under⟩
theorem order_walk (a : Option Addr) (cap : Nat) (l : List Mo) (w : World) (hU : Us w a l) (hl : l.length ≤ 9223372036854775807) : Calls Try.prog 5 #[.slice a l.length cap] w (Truth w) := by
  by_cases h : 400 < l.length
  · exact order_long a cap l.length w h hl
  · exact order_short a cap l.length l w hU rfl (by omega)
end Go.Proofs.Ytjjaaahoophgpaa
