/-
  The walk of EscseqBehind.
-/
import Derived.Test.YtndofkjmbipagaaAliveE
import Derived.Deep.DeepCutAuto
import Derived.Deep.CutBlock
namespace Go.Proofs.Ytndofkjmbipagaa
open Go.RowKit Go.Lib
set_option linter.unusedVariables false

theorem kns_ln : ∀ p ∈ kns, (ln p.1).2 = true := by decide
theorem kk_short {s : List UInt8} (h : (ln s).2 = false) : kk s = 15 := by
  rcases kk_cases s with ⟨_, e⟩ | ⟨z, _, _, hm⟩
  · exact e
  · have h2 : (ln s).2 = true := kns_ln _ hm
    rw [h] at h2
    cases h2
/-- What stands behind a sequence plays no part. -/
theorem nx_app {l : List UInt8} (m : List UInt8) (h : (nx l).e = 0) : nx (l ++ m) = nx l := by
  rcases nx_cases l with ⟨_, e⟩ | ⟨c, r, _, _, e⟩ | ⟨r, _, _, e⟩ | ⟨r, rfl, hs, e⟩
  · rw [e] at h; cases h
  · rw [e] at h; cases h
  · rw [e] at h; cases h
  · have ha := ln_app (27 :: r) m hs
    rw [List.cons_append] at ha ⊢
    rw [nx_over (by rw [ha]; exact hs), e, ha]
    have hle := (ln_le (l := 27 :: r) (by simp)).2.1
    rw [← List.cons_append, List.take_append_of_le_length hle]
/-- What it has alone. -/
theorem nx_take {l : List UInt8} (h : (nx l).e = 0) : nx (l.take (nx l).n) = nx l ∨ (nx (l.take (nx l).n) = ⟨0, (nx l).n, 7⟩ ∧ (nx l).k = 15) := by
  rcases nx_cases l with ⟨_, e⟩ | ⟨c, r, _, _, e⟩ | ⟨r, _, _, e⟩ | ⟨r, rfl, hs, e⟩
  · rw [e] at h; cases h
  · rw [e] at h; cases h
  · rw [e] at h; cases h
  · rw [e]
    show nx ((27 :: r).take (ln (27 :: r)).1) = _ ∨ (nx ((27 :: r).take (ln (27 :: r)).1) = ⟨0, (ln (27 :: r)).1, 7⟩ ∧ kk ((27 :: r).take (ln (27 :: r)).1) = 15)
    have h1 := (ln_le (l := 27 :: r) (by simp)).1
    have ht := ln_take (27 :: r) hs
    obtain ⟨n, hn⟩ : ∃ n, (ln (27 :: r)).1 = n + 1 := ⟨(ln (27 :: r)).1 - 1, by omega⟩
    rw [hn] at ht ⊢
    rw [List.take_succ_cons] at ht ⊢
    rcases ht with ht | ht
    · left
      rw [nx_over (by rw [ht]; exact hs), ht, hn, List.take_succ_cons, List.take_take, Nat.min_self]
    · right
      exact ⟨by rw [nx_short (by rw [ht]), ht], kk_short (by rw [ht])⟩
theorem nx_le {l : List UInt8} (h : (nx l).e = 0) : 1 ≤ (nx l).n ∧ (nx l).n ≤ l.length ∧ (nx l).n ≤ 35 := by
  rcases nx_cases l with ⟨_, e⟩ | ⟨c, r, _, _, e⟩ | ⟨r, _, _, e⟩ | ⟨r, rfl, hs, e⟩
  · rw [e] at h; cases h
  · rw [e] at h; cases h
  · rw [e] at h; cases h
  · rw [e]
    exact ln_le (by simp)
set_option maxHeartbeats 8000000 in
set_option maxRecDepth 100000 in
theorem behind_walk (a : Option Addr) (cap : Nat) (l : List UInt8) (a1 : Option Addr) (cap1 : Nat) (m : List UInt8) (w : World) (hb : Bts w a l) (hc : l.length ≤ cap) (hz : a = none → cap = 0)
    (hb1 : Bts w a1 m) (hc1 : m.length ≤ cap1) (hz1 : a1 = none → cap1 = 0) : Calls Try.prog 5 #[.slice a l.length cap, .slice a1 m.length cap1] w (Truth w) := by
  have KA := Lib.hid alive_run
  by_cases hl : 500 < l.length ∨ 500 < m.length
  · have hz2 : (500 : Int) < (l.length : Int) ∨ (decide ((500 : Int) < (l.length : Int)) = false ∧ (500 : Int) < (m.length : Int)) := by simp only [decide_eq_false_iff_not]; omega
    clear hb hc hl hb1 hc1 hz hz1
    generalize l.length = n at *
    generalize m.length = n1 at *
    rcases hz2 with h | ⟨h, h2⟩
    all_goals
      go_enter Try.func5, Try.ntmps5
      go_wp2_with fail
      refine (KA.out _).mono ?_
      rintro _ w1 ⟨rfl, s1⟩
      go_wp2
      go_ret
      exact ⟨rfl, s1.under⟩
  · have q1 : decide ((500 : Int) < (l.length : Int)) = false := decide_eq_false (by omega)
    have q2 : decide ((500 : Int) < (m.length : Int)) = false := decide_eq_false (by omega)
    have HB : Aside (Bts w a l ∧ Bts w a1 m ∧ (a = none → cap = 0) ∧ (a1 = none → cap1 = 0)) := ⟨hb, hb1, hz, hz1⟩
    have KN : Hid (∀ W, Bts W a l → Calls Try.prog 9 #[.slice a l.length cap] W (Tells (nxv (nx l)) W)) := Lib.hid (fun W h => next_run a l.length cap l W h rfl hc (by omega))
    have KX : Hid (∀ W a' c', Bts W a' (([] ++ l) ++ m) → (([] ++ l) ++ m).length ≤ c' → Calls Try.prog 9 #[.slice a' (([] ++ l) ++ m).length c'] W (Tells (nxv (nx (([] ++ l) ++ m))) W)) := Lib.hid (fun W a' c' h hc => next_run a' _ c' _ W h rfl hc (by simp; omega))
    have hlm : l.length ≤ 500 ∧ m.length ≤ 500 := by omega
    rcases nx_cases l with ⟨rfl, e⟩ | ⟨c, r, rfl, hne, e⟩ | ⟨r, rfl, hs, e⟩ | ⟨r, rfl, hs, e⟩
    · rw [e] at KN
      unfold nxv kv at KN
      clear KX hb hb1 hz hz1 hc hc1 hl hlm e
      generalize m.length = n1 at *
      go_enter Try.func5, Try.ntmps5
      go_wp2_with fail
      refine (KN.out _ HB.out.1).mono ?_
      rintro _ w1 ⟨rfl, s1⟩
      have HS1 : Aside (Stp [] w [] w1) := s1
      clear s1
      go_wp2_with fail
      refine (KA.out _).mono ?_
      rintro _ w2 ⟨rfl, s2⟩
      go_wp2
      go_ret
      exact ⟨rfl, (HS1.out.trans ((Stp.alloc [] w1 _).trans s2)).under⟩
    · rw [e] at KN
      unfold nxv kv at KN
      have hx0 : ∀ W, Stp [] w [] W → ∃ b off, a = some ⟨b, off, none⟩ ∧ W.cell? ⟨b, off, none⟩ = some (.int .u8 (c.toNat : Int)) := fun W hs => by
        obtain ⟨b, off, e1, e2⟩ := hb (by simp)
        refine ⟨b, off, e1, ?_⟩
        have := hs.keeps rfl (e2 0 (by simp))
        rw [Nat.add_zero] at this
        exact this
      obtain ⟨b, off, e1, hx⟩ := hx0 w (Stp.refl [] w)
      subst e1
      have HX : Aside (w.cell? ⟨b, off, none⟩ = some (.int .u8 (c.toNat : Int))) := hx
      have hz0 : (((c.toNat : Nat) : Int) != 27) = true := bne_iff_ne.2 (u8_ne (n := 27) (by omega) hne)
      have hn0 : (((c :: r).length : Nat) : Int) ≠ 0 := by simp only [List.length_cons]; omega
      have hn1 : ((((c :: r).length : Nat) : Int) == 0) = false := beq_eq_false_iff_ne.2 hn0
      have hn2 : (0 : Int) < (((c :: r).length : Nat) : Int) := by simp only [List.length_cons]; omega
      clear KX hb hb1 hz hz1 hc hc1 hl hlm e hx0 hx hne hn0
      generalize m.length = n1 at *
      generalize (c :: r).length = n at *
      generalize ((c.toNat : Nat) : Int) = z at *
      go_enter Try.func5, Try.ntmps5
      go_wp2_with fail
      refine (KN.out _ HB.out.1).mono ?_
      rintro _ w1 ⟨rfl, s1⟩
      have HS1 : Aside (Stp [] w [] w1) := s1
      clear s1
      go_wp2_with fail
      refine (KA.out _).mono ?_
      rintro _ w2 ⟨rfl, s2⟩
      have HS2 : Aside (Stp [] w [] w2) := HS1.out.trans ((Stp.alloc [] w1 _).trans s2)
      have hx0 := HS2.out.keeps rfl HX.out
      clear s2
      go_wp2
      go_ret
      exact ⟨rfl, HS2.out.under⟩
    · rw [e] at KN
      unfold nxv kv at KN
      have hsh := ln_short (l := 27 :: r) (by simp) hs
      rw [hsh.1] at KN hsh
      have h34 : (((27 :: r).length : Nat) : Int) ≤ 34 := by omega
      clear KX hb hb1 hz hz1 hc hc1 hl hlm e hs hsh
      generalize m.length = n1 at *
      generalize (27 :: r).length = n at *
      go_enter Try.func5, Try.ntmps5
      go_wp2_with fail
      refine (KN.out _ HB.out.1).mono ?_
      rintro _ w1 ⟨rfl, s1⟩
      have HS1 : Aside (Stp [] w [] w1) := s1
      clear s1
      go_wp2_with fail
      refine (KA.out _).mono ?_
      rintro _ w2 ⟨rfl, s2⟩
      have HS2 : Aside (Stp [] w [] w2 ∧ At2 w2 w1.heap.size 0 0) := ⟨HS1.out.trans ((Stp.alloc [] w1 _).trans s2), (At2.new w1 0 0).stays s2⟩
      obtain ⟨c0, c1, f0, f1⟩ := HS2.out.2.cells
      clear s2
      go_wp2
      go_ret
      exact ⟨rfl, HS2.out.1.under⟩
    · have h0 : (nx (27 :: r)).e = 0 := by rw [e]
      have hle := nx_le h0
      have happ := nx_app m h0
      have htk := nx_take h0
      have hlen : (((([] : List UInt8) ++ (27 :: r)) ++ m)).length ≤ 1000 := by simp only [List.nil_append, List.length_append]; omega
      have HLM : Aside (([] : List UInt8) ++ (27 :: r) ++ m = (27 :: r) ++ m) := by show _ = _; rw [List.nil_append]
      rw [HLM.out, happ, ← HLM.out] at KX
      have KT : Hid (∀ W, Bts W a ((27 :: r).take (nx (27 :: r)).n) → Calls Try.prog 9 #[.slice a (nx (27 :: r)).n cap] W (Tells (nxv (nx ((27 :: r).take (nx (27 :: r)).n))) W)) :=
        Lib.hid (fun W h => next_run a (nx (27 :: r)).n cap _ W h (by rw [List.length_take]; omega) (by omega) (by rw [List.length_take]; omega))
      have HTB : Aside (Bts w a ((27 :: r).take (nx (27 :: r)).n)) := take_bts hb _ hle.2.1
      obtain ⟨k, n, x, hx⟩ : ∃ k n x, nx (27 :: r) = ⟨k, n, x⟩ := ⟨_, _, _, rfl⟩
      have hx0 : x = 0 := by rw [hx] at h0; exact h0
      subst hx0
      rw [hx] at KN KX KT HTB htk hle
      simp only at KN KX KT HTB htk hle
      generalize (27 :: r).take n = lt at *
      unfold nxv kv at KN KX
      simp only at KN KX
      have HM : Aside ((27 :: r).length ≤ 500 ∧ m.length ≤ 500) := hlm
      have hcut := fun W => cut_h a (27 :: r).length cap n (by omega) W
      have y1 : decide ((n : Int) < 1) = false := decide_eq_false (by omega)
      have y2 : decide ((((27 :: r).length : Nat) : Int) < (n : Int)) = false := decide_eq_false (by omega)
      have y4 : n ≤ (27 :: r).length := by omega
      have y3 : decide ((35 : Int) < (n : Int)) = false := decide_eq_false (by omega)
      generalize hLM : ([] : List UInt8) ++ (27 :: r) ++ m = lm at *
      have HLM2 : Aside (([] : List UInt8) ++ (27 :: r) ++ m = lm) := hLM
      clear hb hb1 hz hz1 hc hc1 hl hlm e hs hle happ h0 hx hLM
      generalize 27 :: r = L at *
      obtain ⟨nl, hnl⟩ : ∃ nl, nl = L.length := ⟨_, rfl⟩
      obtain ⟨nm, hnm⟩ : ∃ nm, nm = m.length := ⟨_, rfl⟩
      have HNL : Aside (nl = L.length ∧ nm = m.length) := ⟨hnl, hnm⟩
      rw [← hnl] at KN hcut q1 y2 y4
      rw [← hnl, ← hnm]
      rw [← hnm] at q2
      clear hnl hnm HLM
      go_enter Try.func5, Try.ntmps5
      go_wp2_with fail
      refine (KN.out _ HB.out.1).mono ?_
      rintro _ w1 ⟨rfl, s1⟩
      have HS1 : Aside (Stp [] w [] (w1.alloc (.cells #[.int .i64 k, .int .i64 0] 25)) ∧ At2 (w1.alloc (.cells #[.int .i64 k, .int .i64 0] 25)) w1.heap.size k 0) := ⟨s1.trans (Stp.alloc [] _ _), At2.new w1 k 0⟩
      clear s1
      go_upto_region 4 with fail
      generalize w1.alloc (.cells #[.int .i64 k, .int .i64 0] 25) = w2 at *
      generalize w1.heap.size = g1 at *
      clear KN
      go_wp2_with (first
        | (at_builtin
           refine wpList_app rfl (.tmp 78) (.tmp 79) rfl w2.heap.size (.slice (some ⟨w2.heap.size, 0, none⟩) 0 0) [] rfl (Own.new w2) a cap nl L HNL.out.1 rfl ((HB.out.1.stays HS1.out.1).stays (Stp.alloc [] _ _)) HB.out.2.2.1 (by have := HM.out; simp; omega) (by simp) ?_
           intro v3 w3 ho3 hg3
           have H3 : Aside (Own w3 w2.heap.size v3 ([] ++ L) ∧ Stp [] w2 [] w3) := ⟨ho3, (Stp.alloc [] w2 _).app hg3 (fun q hq => by cases hq; exact Nat.le_refl _)⟩
           clear ho3 hg3)
        | (at_builtin
           refine wpList_app rfl (.tmp 80) (.tmp 81) rfl w2.heap.size v3 ([] ++ L) rfl H3.out.1 a1 cap1 nm m HNL.out.2 rfl ((HB.out.2.1.stays HS1.out.1).stays H3.out.2) HB.out.2.2.2 (by have := HM.out; simp; omega) (H3.out.2.size) ?_
           intro v4 w4 ho4 hg4
           rw [HLM2.out] at ho4
           obtain ⟨a4, c4, rfl, hb4, hn4, hle4, _⟩ := ho4.bts
           have H4 : Aside (Bts w4 a4 lm ∧ lm.length ≤ c4 ∧ Stp [] w2 [] w4) := ⟨hb4, hle4, H3.out.2.app hg4 (fun q hq => (H3.out.1.lt q hq).1)⟩
           clear ho4 hg4 hb4 hle4 hn4))
      refine (KX.out _ _ _ H4.out.1 H4.out.2.1).mono ?_
      rintro _ w5 ⟨rfl, s5⟩
      have HS5 : Aside (Stp [] w [] (w5.alloc (.cells #[.int .i64 k, .int .i64 0] 25)) ∧ At2 (w5.alloc (.cells #[.int .i64 k, .int .i64 0] 25)) g1 k 0 ∧ At2 (w5.alloc (.cells #[.int .i64 k, .int .i64 0] 25)) w5.heap.size k 0) :=
        ⟨HS1.out.1.trans ((H4.out.2.2.trans s5).trans (Stp.alloc [] _ _)), ((HS1.out.2.stays H4.out.2.2).stays s5).stays (Stp.alloc [] _ _), At2.new w5 k 0⟩
      clear s5 KX
      go_upto_region 11 with fail
      generalize w5.alloc (.cells #[.int .i64 k, .int .i64 0] 25) = w6 at *
      generalize w5.heap.size = g2 at *
      obtain ⟨c0, c1, f0, f1⟩ := HS5.out.2.1.cells
      obtain ⟨d0, d1, h0, h1⟩ := HS5.out.2.2.cells
      have HTK : Aside (nx lt = ⟨k, n, 0⟩ ∨ (nx lt = ⟨0, n, 7⟩ ∧ k = 15)) := htk
      clear htk
      go_wp2_with fail
      clear c0 c1 f0 f1 d0 d1 h0 h1
      rcases HTK.out with e | ⟨e, hk⟩
      · rw [e] at KT
        unfold nxv kv at KT
        simp only at KT
        clear HTK e
        refine (KT.out _ (HTB.out.stays HS5.out.1)).mono ?_
        rintro _ w7 ⟨rfl, s7⟩
        have HS7 : Aside (Stp [] w [] (w7.alloc (.cells #[.int .i64 k, .int .i64 0] 25)) ∧ At2 (w7.alloc (.cells #[.int .i64 k, .int .i64 0] 25)) g1 k 0 ∧ At2 (w7.alloc (.cells #[.int .i64 k, .int .i64 0] 25)) w7.heap.size k 0) :=
          ⟨HS5.out.1.trans (s7.trans (Stp.alloc [] _ _)), (HS5.out.2.1.stays s7).stays (Stp.alloc [] _ _), At2.new w7 k 0⟩
        clear s7 KT
        go_upto_region 14 with fail
        generalize w7.alloc (.cells #[.int .i64 k, .int .i64 0] 25) = w8 at *
        generalize w7.heap.size = g3 at *
        go_wp2_with fail
        refine (KA.out _).mono ?_
        rintro _ w9 ⟨rfl, s9⟩
        have HS9 : Aside (Stp [] w [] w9 ∧ At2 w9 g1 k 0 ∧ At2 w9 g3 k 0) := ⟨HS7.out.1.trans s9, HS7.out.2.1.stays s9, HS7.out.2.2.stays s9⟩
        clear s9
        obtain ⟨c0, c1, f0, f1⟩ := HS9.out.2.1.cells
        obtain ⟨d0, d1, h0, h1⟩ := HS9.out.2.2.cells
        go_wp2
        go_ret
        exact ⟨rfl, HS9.out.1.under⟩
      · subst hk
        rw [e] at KT
        unfold nxv kv at KT
        simp only at KT
        clear HTK e
        refine (KT.out _ (HTB.out.stays HS5.out.1)).mono ?_
        rintro _ w7 ⟨rfl, s7⟩
        have HS7 : Aside (Stp [] w [] (w7.alloc (.cells #[.int .i64 0, .int .i64 0] 25)) ∧ At2 (w7.alloc (.cells #[.int .i64 0, .int .i64 0] 25)) g1 15 0 ∧ At2 (w7.alloc (.cells #[.int .i64 0, .int .i64 0] 25)) w7.heap.size 0 0) :=
          ⟨HS5.out.1.trans (s7.trans (Stp.alloc [] _ _)), (HS5.out.2.1.stays s7).stays (Stp.alloc [] _ _), At2.new w7 0 0⟩
        clear s7 KT
        go_upto_region 14 with fail
        generalize w7.alloc (.cells #[.int .i64 0, .int .i64 0] 25) = w8 at *
        generalize w7.heap.size = g3 at *
        go_wp2_with fail
        refine (KA.out _).mono ?_
        rintro _ w9 ⟨rfl, s9⟩
        have HS9 : Aside (Stp [] w [] w9 ∧ At2 w9 g1 15 0 ∧ At2 w9 g3 0 0) := ⟨HS7.out.1.trans s9, HS7.out.2.1.stays s9, HS7.out.2.2.stays s9⟩
        clear s9
        obtain ⟨c0, c1, f0, f1⟩ := HS9.out.2.1.cells
        obtain ⟨d0, d1, h0, h1⟩ := HS9.out.2.2.cells
        go_wp2
        go_ret
        exact ⟨rfl, HS9.out.1.under⟩
end Go.Proofs.Ytndofkjmbipagaa
