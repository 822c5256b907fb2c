/-
  The walk of EscseqBytes.
-/
import Derived.Test.YtndofkjmbipagaaDoorKby
import Derived.Deep.DeepCutAuto
import Derived.Deep.CutBlock
namespace Go.Proofs.YtndofkjmbipagaaDoor
open Go.RowKit Go.Lib
set_option linter.unusedVariables false

/-- What stands behind a sequence plays no part. -/
theorem nx_app {l : List UInt8} (m : List UInt8) (h : (nx l).e = 0) : nx (l ++ m) = nx l := by
  rcases nx_cases l with ⟨_, e⟩ | ⟨c, r, _, _, e⟩ | ⟨r, _, _, e⟩ | ⟨r, rfl, hs, e⟩
  · rw [e] at h; cases h
  · rw [e] at h; cases h
  · rw [e] at h; cases h
  · have ha := ln_app (27 :: r) m hs
    rw [List.cons_append] at ha ⊢
    rw [nx_over (by rw [ha]; exact hs), e, ha]
    have hle := (ln_le (l := 27 :: r) (by simp)).2.1
    rw [← List.cons_append, List.take_append_of_le_length hle]
theorem ktd_tab : ∀ k, k < 16 → (k = 0 ∨ k = 3 ∨ k = 13 ∨ k = 14) ∨ ((ktd k).length = 1 ∧ ¬ (ktd k)[0]! = 27) := by decide
theorem ktd_one (k : Nat) (h : k < 16) (h0 : k ≠ 0) (h3 : k ≠ 3) (h13 : k ≠ 13) (h14 : k ≠ 14) : (ktd k).length = 1 ∧ (ktd k)[0]! ≠ 27 := by
  rcases ktd_tab k h with h | h
  · omega
  · exact h
theorem ktd_esc : ∀ k, k < 16 → (k = 3 ∨ k = 13 ∨ k = 14) → 1 ≤ (ktd k).length ∧ (ktd k)[0]! = 27 ∧ nx (ktd k) = ⟨(k : Int), (ktd k).length, 0⟩ := by decide
set_option maxHeartbeats 4000000 in
set_option maxRecDepth 100000 in
theorem bytes_walk (n : Nat) (hn : n < 256) (a1 : Option Addr) (cap1 : Nat) (m : List UInt8) (w : World) (hb1 : Bts w a1 m) (hc1 : m.length ≤ cap1) (hz1 : a1 = none → cap1 = 0) (hT : Kinds w) :
    Calls Tryd.prog 3 #[.int .u8 (n : Int), .slice a1 m.length cap1] w (Truth w) := by
  have KA := Lib.hid alive_run
  obtain ⟨k, hk⟩ : ∃ k, k = n % 16 := ⟨_, rfl⟩
  have er1 : (n : Int).tmod 16 = (k : Int) := by rw [Int.tmod_eq_emod_of_nonneg (by omega)]; omega
  have hk16 : k < 16 := by omega
  clear hk
  have HS : Aside (Stp [] w [] (w.alloc (.cells #[.int .i64 (k : Int), .int .i64 0] 24)) ∧ At2 (w.alloc (.cells #[.int .i64 (k : Int), .int .i64 0] 24)) w.heap.size (k : Int) 0) := ⟨Stp.alloc [] w _, At2.new w _ 0⟩
  have HB : Aside (Bts w a1 m ∧ (a1 = none → cap1 = 0) ∧ m.length ≤ cap1 ∧ Kinds w) := ⟨hb1, hz1, hc1, hT⟩
  obtain ⟨nm, hnm⟩ : ∃ nm, nm = m.length := ⟨_, rfl⟩
  have HNM : Aside (nm = m.length) := hnm
  rw [← hnm]
  clear hb1 hz1 hc1 hT hnm
  go_enter Tryd.func3, Tryd.ntmps3
  go_upto_region 2 with fail
  generalize w.alloc (.cells #[.int .i64 (k : Int), .int .i64 0] 24) = w0 at *
  generalize w.heap.size = g0 at *
  obtain ⟨c0, c1, f0, f1⟩ := HS.out.2.cells
  by_cases h0 : k = 0
  · subst h0
    have K := Lib.hid (bytes0_run w0)
    go_wp2_with fail
    refine K.out.mono ?_
    rintro _ w1 ⟨a, cap, rfl, _, _, _, s1⟩
    have H1 : Aside (Stp [] w [] w1) := HS.out.1.trans s1
    clear s1 K
    go_wp2_with fail
    refine (KA.out _).mono ?_
    rintro _ w2 ⟨rfl, s2⟩
    go_wp2
    go_ret
    exact ⟨rfl, (H1.out.trans s2).under⟩
  · have K := Lib.hid (bytes_run k (by omega) hk16 w0 (HB.out.2.2.2.stays HS.out.1))
    go_wp2_with fail
    refine K.out.mono ?_
    rintro _ w1 ⟨a, cap, rfl, hb2, hz2, hc2, s1⟩
    have H1 : Aside (Bts w1 a (ktd k) ∧ (a = none → cap = 0) ∧ (ktd k).length ≤ cap ∧ Stp [] w [] w1 ∧ At2 w1 g0 (k : Int) 0) := ⟨hb2, hz2, hc2, HS.out.1.trans s1, HS.out.2.stays s1⟩
    clear s1 K hb2 hz2 hc2 c0 c1 f0 f1
    have hl1 : 1 ≤ (ktd k).length := by
      by_cases h : k = 3 ∨ k = 13 ∨ k = 14
      · exact (ktd_esc k hk16 h).1
      · rw [(ktd_one k hk16 h0 (by omega) (by omega) (by omega)).1]
        exact Nat.le_refl _
    obtain ⟨b, off, rfl, hcell⟩ := H1.out.1 (by intro e; rw [e] at hl1; simp at hl1)
    have hx0 := hcell 0 (by omega)
    rw [Nat.add_zero] at hx0
    unfold bval at hx0
    have hn1 : ((((ktd k).length : Nat) : Int) == 0) = false := beq_eq_false_iff_ne.2 (by omega)
    have hn2 : (0 : Int) < (((ktd k).length : Nat) : Int) := by omega
    clear hcell hl1
    obtain ⟨L, hL⟩ : ∃ L, L = (ktd k).length := ⟨_, rfl⟩
    have HL : Aside (L = (ktd k).length) := hL
    rw [← hL] at hn1 hn2 ⊢
    clear hL
    by_cases h : k = 3 ∨ k = 13 ∨ k = 14
    · obtain ⟨_, e27, enx⟩ := ktd_esc k hk16 h
      rw [e27] at hx0
      rw [show (UInt8.toNat 27 : Int) = 27 from rfl] at hx0
      by_cases h500 : 500 < nm
      · have hz : (500 : Int) < (nm : Int) := by omega
        go_wp2_with fail
        refine (KA.out _).mono ?_
        rintro _ w2 ⟨rfl, s2⟩
        go_wp2
        go_ret
        exact ⟨rfl, (H1.out.2.2.2.1.trans s2).under⟩
      · have hz : decide ((500 : Int) < (nm : Int)) = false := decide_eq_false (by omega)
        have h6 := ktd_len k hk16
        have hM : Aside ((ktd k).length ≤ 6 ∧ m.length ≤ 500) := ⟨h6, by rw [← HNM.out]; omega⟩
        have hnx : nx ((ktd k) ++ m) = ⟨(k : Int), (ktd k).length, 0⟩ := by rw [nx_app m (by rw [enx]), enx]
        obtain ⟨lm, HLM⟩ : ∃ lm, Aside (([] ++ ktd k) ++ m = lm) := ⟨([] ++ ktd k) ++ m, show ([] ++ ktd k) ++ m = ([] ++ ktd k) ++ m from rfl⟩
        have KX : Hid (∀ W a' c', Bts W a' lm → lm.length ≤ c' → Calls Tryd.prog 6 #[.slice a' lm.length c'] W (Tells (.tuple #[.agg #[.int .i64 (k : Int), .int .i64 0], .int .i64 (L : Int), .int .i64 0]) W)) := Lib.hid (fun W a' c' h hc => by
          have h1 := next_run a' _ c' _ W h rfl hc (by rw [← HLM.out]; have := hM.out; simp; omega)
          rw [← HLM.out, List.nil_append, hnx, ← HL.out] at h1
          rw [← HLM.out, List.nil_append]
          exact h1)
        clear hnx enx e27 h6
        go_wp2_with (first
          | (at_builtin
             refine wpList_app rfl (.tmp 40) (.tmp 41) rfl w1.heap.size (.slice (some ⟨w1.heap.size, 0, none⟩) 0 0) [] rfl (Own.new w1) (some ⟨b, off, none⟩) cap L (ktd k) HL.out rfl (H1.out.1.stays (Stp.alloc [] _ _)) (fun h => by cases h) (by have := hM.out; simp; omega) (by simp) ?_
             intro v3 w3 ho3 hg3
             have H3 : Aside (Own w3 w1.heap.size v3 ([] ++ ktd k) ∧ Stp [] w1 [] w3) := ⟨ho3, (Stp.alloc [] w1 _).app hg3 (fun j hj => by cases hj; exact Nat.le_refl _)⟩
             clear ho3 hg3)
          | (at_builtin
             refine wpList_app rfl (.tmp 42) (.tmp 43) rfl w1.heap.size v3 ([] ++ ktd k) rfl H3.out.1 a1 cap1 nm m HNM.out rfl ((HB.out.1.stays H1.out.2.2.2.1).stays H3.out.2) HB.out.2.1 (by have := hM.out; simp; omega) (H3.out.2.size) ?_
             intro v4 w4 ho4 hg4
             rw [HLM.out] at ho4
             obtain ⟨a4, c4, rfl, hb4, _, hle4, _⟩ := ho4.bts
             have hs4 : Stp [] w1 [] w4 := H3.out.2.app hg4 (fun j hj => (H3.out.1.lt j hj).1)
             have H4 : Aside (Bts w4 a4 lm ∧ lm.length ≤ c4 ∧ Stp [] w [] w4 ∧ At2 w4 g0 (k : Int) 0) := ⟨hb4, hle4, H1.out.2.2.2.1.trans hs4, H1.out.2.2.2.2.stays hs4⟩
             clear ho4 hg4 hb4 hle4 hs4))
        refine (KX.out _ _ _ H4.out.1 H4.out.2.1).mono ?_
        rintro _ w5 ⟨rfl, s5⟩
        have H5 : Aside (Stp [] w [] w5 ∧ At2 w5 g0 (k : Int) 0) := ⟨H4.out.2.2.1.trans s5, H4.out.2.2.2.stays s5⟩
        clear s5 KX
        go_wp2_with fail
        refine (KA.out _).mono ?_
        rintro _ w6 ⟨rfl, s6⟩
        have H6 : Aside (Stp [] w [] w6 ∧ At2 w6 g0 (k : Int) 0 ∧ At2 w6 w5.heap.size (k : Int) 0) := ⟨H5.out.1.trans ((Stp.alloc [] w5 _).trans s6), (H5.out.2.stays (Stp.alloc [] _ _)).stays s6, (At2.new w5 _ 0).stays s6⟩
        clear s6
        generalize w5.heap.size = g5 at *
        obtain ⟨d0, d1, _, _⟩ := H6.out.2.1.cells
        obtain ⟨e0, e1, _, _⟩ := H6.out.2.2.cells
        go_wp2
        go_ret
        exact ⟨rfl, H6.out.1.under⟩
    · obtain ⟨_, e27⟩ := ktd_one k hk16 h0 (by omega) (by omega) (by omega)
      have hz : (((((ktd k)[0]!).toNat : Nat) : Int) != 27) = true := bne_iff_ne.2 (u8_ne (n := 27) (by omega) e27)
      clear e27
      generalize ((((ktd k)[0]!).toNat : Nat) : Int) = z at *
      go_wp2_with fail
      refine (KA.out _).mono ?_
      rintro _ w2 ⟨rfl, s2⟩
      go_wp2
      go_ret
      exact ⟨rfl, (H1.out.2.2.2.1.trans s2).under⟩
end Go.Proofs.YtndofkjmbipagaaDoor
