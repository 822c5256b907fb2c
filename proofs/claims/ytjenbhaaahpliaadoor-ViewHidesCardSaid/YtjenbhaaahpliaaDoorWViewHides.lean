/-
  The walk of ViewHides.
-/
import Derived.Test.YtjenbhaaahpliaaDoorHid
namespace Go.Proofs.YtjenbhaaahpliaaDoor
open Go.RowKit Go.Lib
set_option linter.unusedVariables false

theorem wlet {P : Program} {C : Code} {Q : Exit → Act → World → Prop} {a : Act} {W : World} (h : ∀ w2, w2 = W → C.wp P Q a w2) : C.wp P Q a W := h W rfl
/-- What the plain facts say of two lines. -/
def HidF (k E n p m q : Nat) (X Y : List UInt8) : Prop := (0 < E → X = [] ∧ Y = []) ∧ (k = 0 → X = Y) ∧ (k = 1 → n = m → p = q → X = Y) ∧ (k = 2 → (0 < n ↔ 0 < m) → X = Y) ∧ (E = 0 → k = 1 → n ≠ m ∨ p ≠ q → X ≠ Y)
theorem HidF.out {k E n p m q : Nat} {X Y : List UInt8} (h : HidF k E n p m q X Y) : (0 < E → X = [] ∧ Y = []) ∧ (k = 0 → X = Y) ∧ (k = 1 → n = m → p = q → X = Y) ∧ (k = 2 → (0 < n ↔ 0 < m) → X = Y) ∧ (E = 0 → k = 1 → n ≠ m ∨ p ≠ q → X ≠ Y) := h
/-- Bytes lie in no block that holds none. -/
theorem bts_apart {w : World} {a : Option Addr} {X : List UInt8} (h : Bts w a X) {A : Nat} {C : Array Value} {t : TypeId} {fr : Nat × Nat} (hA : w.heap[A]? = some (.cells C t fr)) (hC : ∀ (i : Nat) x, C[i]? ≠ some (bval x)) : X ≠ [] → ∀ ad, a = some ad → ad.block ∉ [A] := by
  intro hX ad e
  obtain ⟨b, off, h1, h2⟩ := h hX
  rw [h1] at e
  cases e
  simp only [List.mem_singleton]
  intro hb
  have h3 := h2 0 (List.length_pos_iff.2 hX)
  rw [hb, cell_of_row _ _ _ _ _ _ hA] at h3
  exact hC _ _ h3
theorem ask_no (t : ByteArray) (a b : Int) (i : Nat) (x : UInt8) : (#[Value.string t, .int .i64 a, .int .i64 b] : Array Value)[i]? ≠ some (bval x) := by
  match i with
  | 0 => simp [bval]
  | 1 => simp [bval]
  | 2 => simp [bval]
  | i + 3 => simp
set_option maxHeartbeats 1000000 in
set_option maxRecDepth 100000 in
theorem hides_long (l : List UInt8) (x1 y1 x2 y2 : Int) (w : World) (hl : 2000 < l.length) (hm : l.length ≤ maxLen) (hT : Tabs w) : Calls Tryd.prog 5 #[.string (st l), .agg #[.int .i64 x1, .int .i64 y1], .agg #[.int .i64 x2, .int .i64 y2]] w (Truth w) := by
  have hsz := st_size l
  have KA : Hid (∀ W, Stp [] w [] W → Calls Tryd.prog 8 #[] W (Tells (.bool true) W)) := Lib.hid fun W hs => alive_run W (hT.stays hs)
  have hz : (2000 : Int) < (l.length : Int) := by omega
  have s0 : Stp [] w [] ((w.alloc (.cells #[.int .i64 x1, .int .i64 y1] 40)).alloc (.cells #[.int .i64 x2, .int .i64 y2] 40)) := (Stp.alloc [] _ _).trans (Stp.alloc _ _ _)
  have S0 := Lib.hid s0
  clear hT s0
  go_enter Tryd.func5, Tryd.ntmps5
  go_wp2_with fail
  refine (KA.out _ S0.out).mono ?_
  rintro _ w1 ⟨rfl, s1⟩
  have S1 := Lib.hid (S0.out.trans s1)
  clear s1
  go_wp2_with fail
  go_ret
  exact ⟨rfl, S1.out.under⟩
set_option maxHeartbeats 2000000 in
set_option maxRecDepth 100000 in
theorem hides_short (l : List UInt8) (x1 y1 x2 y2 : Int) (w : World) (hl : l.length ≤ 2000) (hT : Tabs w) : Calls Tryd.prog 5 #[.string (st l), .agg #[.int .i64 x1, .int .i64 y1], .agg #[.int .i64 x2, .int .i64 y2]] w (Truth w) := by
  obtain ⟨n, hn⟩ : ∃ n, n = modN x1 1024 := ⟨_, rfl⟩
  obtain ⟨m, hm⟩ : ∃ n, n = modN x2 1024 := ⟨_, rfl⟩
  obtain ⟨p, hp⟩ : ∃ p, p = modN y1 n := ⟨_, rfl⟩
  obtain ⟨q, hq⟩ : ∃ p, p = modN y2 m := ⟨_, rfl⟩
  have hn1 : n ≤ 1024 := by rw [hn]; exact modN_le _ _
  have hm1 : m ≤ 1024 := by rw [hm]; exact modN_le _ _
  have hp1 : p ≤ n := by rw [hp]; exact modN_le _ _
  have hq1 : q ≤ m := by rw [hq]; exact modN_le _ _
  obtain ⟨z1, e1, a1, b1, f1⟩ := word x1
  obtain ⟨z2, e2, a2, b2, f2⟩ := word x2
  obtain ⟨z3, e3, a3, b3, f3⟩ := word y1
  obtain ⟨z4, e4, a4, b4, f4⟩ := word y2
  have g1 : z1 % 1025 = (n : Int) := by rw [f1, hn]; exact modN_cast x1 1024
  have g2 : z2 % 1025 = (m : Int) := by rw [f2, hm]; exact modN_cast x2 1024
  have g3 : z3 % ((n : Int) + 1) = (p : Int) := by rw [f3, hp]; exact modN_cast y1 n
  have g4 : z4 % ((m : Int) + 1) = (q : Int) := by rw [f4, hq]; exact modN_cast y2 m
  have hsz := st_size l
  have hz : ¬ (2000 : Int) < (l.length : Int) := by omega
  have HT := Lib.hid hT
  have hb1 := heap_alloc_new w (.cells #[.int .i64 x1, .int .i64 y1] 40)
  have hb2 := heap_alloc_new (w.alloc (.cells #[.int .i64 x1, .int .i64 y1] 40)) (.cells #[.int .i64 x2, .int .i64 y2] 40)
  rw [World.size_alloc] at hb2
  have hb1 := ((Stp.alloc [] (w.alloc (.cells #[.int .i64 x1, .int .i64 y1] 40)) (.cells #[.int .i64 x2, .int .i64 y2] 40)).block w.heap.size (by simp) (by simp)).trans hb1
  have s0 : Stp [] w [] ((w.alloc (.cells #[.int .i64 x1, .int .i64 y1] 40)).alloc (.cells #[.int .i64 x2, .int .i64 y2] 40)) := (Stp.alloc [] _ _).trans (Stp.alloc _ _ _)
  have c0 := cell_of_row _ w.heap.size 0 _ _ _ hb1
  have c1 := cell_of_row _ w.heap.size 1 _ _ _ hb1
  have d0 := cell_of_row _ (w.heap.size + 1) 0 _ _ _ hb2
  have d1 := cell_of_row _ (w.heap.size + 1) 1 _ _ _ hb2
  simp only [List.getElem?_toArray, List.getElem?_cons_zero, List.getElem?_cons_succ] at c0 c1 d0 d1
  have S0 := Lib.hid s0
  clear hT hb1 hb2 s0 f1 f2 f3 f4 hn hm hp hq
  go_enter Tryd.func5, Tryd.ntmps5
  go_wp2_with fail
  generalize (w.alloc (.cells #[.int .i64 x1, .int .i64 y1] 40)).alloc (.cells #[.int .i64 x2, .int .i64 y2] 40) = w0 at *
  generalize w.heap.size = B at *
  go_region
  have c1 := (Stp.drew [] w0).keeps rfl c1
  have d1 := (Stp.drew [] w0).keeps rfl d1
  have S0 := Lib.hid (S0.out.trans (Stp.drew [] w0))
  clear c0 d0
  generalize w0.drew = w1 at *
  have g5 : IntKind.u64.wrap ((n : Int) + 1) = (n : Int) + 1 := by rw [IntKind.wrap_u64]; omega
  have g6 : IntKind.u64.wrap ((m : Int) + 1) = (m : Int) + 1 := by rw [IntKind.wrap_u64]; omega
  go_wp2_with fail
  go_region
  go_wp2_with fail
  -- LOOP
  refine wlet fun w2 hw2 => ?_
  have hG : w2.heap[w1.heap.size]? = some (.cells #[.int .i64 0, .int .i64 1, .int .i64 2] 3 (0, 0)) := by rw [hw2]; exact heap_alloc_new w1 _
  have S2 := Lib.hid (S0.out.trans (show Stp [] w1 [] w2 by rw [hw2]; exact (Stp.alloc [] _ _).trans (Stp.drew _ _)))
  have HG : Aside (∀ W, Stp [] w2 [] W → W.heap[w1.heap.size]? = some (.cells #[.int .i64 0, .int .i64 1, .int .i64 2] 3 (0, 0))) := fun W hs => (hs.block _ (Array.getElem?_eq_some_iff.1 hG).1 (by simp)).trans hG
  have KA : Hid (∀ W, Stp [] w [] W → Calls Tryd.prog 8 #[] W (Tells (.bool true) W)) := Lib.hid fun W hs => alive_run W (HT.out.stays hs)
  clear hw2 hG S0 c1 d1 e1 e2 e3 e4 g1 g2 g3 g4 g5 g6
  generalize w1.heap.size = G at *
  go_loopg [51] 4 (fun gk v51 wr => ∃ j : Nat, v51 = .int .i64 (j : Int) ∧ j ≤ 3 ∧ 3 - j < gk ∧ Aside (Stp [] w2 [] wr))
  case atStart => exact ⟨0, rfl, by omega, by omega, Stp.refl _ _⟩
  case round =>
    obtain ⟨j, rfl, hj, hg, HS⟩ := hrel
    rcases (by omega : j = 0 ∨ j = 1 ∨ j = 2 ∨ j = 3) with rfl | rfl | rfl | rfl
    · skip
      have cG : wr.cell? ⟨G, 0, none⟩ = some (.int .i64 0) := by rw [cell_of_row _ _ _ _ _ _ (HG.out wr HS.out)]; rfl
      obtain ⟨E, s, X, Y, r1, r2, r3, r4, r5, hs1, hl1, hl2, hF⟩ := hid_facts l 0 n p m q (by omega) hn1 hm1 hp1 hq1
      have KX : Hid (∀ W, Stp [] w [] W → Calls Tryd.prog 9 #[.agg #[.string (st l), .int .i64 0, .int .i64 (n : Int)], .int .i64 (n : Int), .int .i64 (p : Int)] W (Rend W X E)) := Lib.hid fun W hs => by
        rw [← r1, ← r3]
        exact render_run l 0 n n p W (by omega) (HT.out.stays hs)
      have KY : Hid (∀ W, Stp [] w [] W → Calls Tryd.prog 9 #[.agg #[.string (st l), .int .i64 0, .int .i64 (m : Int)], .int .i64 (m : Int), .int .i64 (q : Int)] W (Rend W Y E)) := Lib.hid fun W hs => by
        rw [← r2, ← r4]
        exact render_run l 0 m m q W (by omega) (HT.out.stays hs)
      have KS : Hid (∀ W, Calls Tryd.prog 13 #[.int .i64 0, .int .i64 (n : Int)] W (Tells (.int .i64 (s : Int)) W)) := Lib.hid fun W => by
        rw [← r5]
        exact stars_run 0 n W
      obtain ⟨N1, hN1⟩ : ∃ N, N = X.length := ⟨_, rfl⟩
      obtain ⟨N2, hN2⟩ : ∃ N, N = Y.length := ⟨_, rfl⟩
      have HF := Lib.hid (show HidF 0 E n p m q X Y from hF)
      have HN := Lib.hid (And.intro hN1 hN2)
      have HL := Lib.hid (show N1 ≤ l.length + s + 20 by rw [hN1]; exact hl1)
      have hb := heap_alloc_new wr (.cells #[.string (st l), .int .i64 0, .int .i64 (n : Int)] 23)
      have s1 : Stp [] wr [] (wr.alloc (.cells #[.string (st l), .int .i64 0, .int .i64 (n : Int)] 23)) := Stp.alloc _ _ _
      have k0 := cell_of_row _ wr.heap.size 0 _ _ _ hb
      have k1 := cell_of_row _ wr.heap.size 1 _ _ _ hb
      have k2 := cell_of_row _ wr.heap.size 2 _ _ _ hb
      simp only [List.getElem?_toArray, List.getElem?_cons_zero, List.getElem?_cons_succ] at k0 k1 k2
      have HB := Lib.hid (And.intro hb s1)
      have hA : wr.heap.size < (wr.alloc (.cells #[.string (st l), .int .i64 0, .int .i64 (n : Int)] 23)).heap.size := by simp
      have hA0 : w2.heap.size ≤ wr.heap.size := HS.out.size
      clear hb s1 r1 r2 r3 r4 r5 hl1 hl2 hF hN1 hN2
      go_wp2_with fail
      generalize wr.alloc (.cells #[.string (st l), .int .i64 0, .int .i64 (n : Int)] 23) = wa at *
      obtain ⟨A, hAA⟩ : ∃ A, A = wr.heap.size := ⟨_, rfl⟩
      rw [← hAA] at HB hA hA0 ⊢
      clear hAA
      refine (KX.out _ (S2.out.trans (HS.out.trans HB.out.2))).mono ?_
      rintro _ w3 ⟨a1, p1, rfl, hb1, hc1, hm1, s3⟩
      have hA3 := (s3.block A hA (by simp)).trans HB.out.1
      rw [← HN.out.1]
      have k0 := cell_of_row _ A 0 _ _ _ hA3
      have k1 := cell_of_row _ A 1 _ _ _ hA3
      have k2 := cell_of_row _ A 2 _ _ _ hA3
      simp only [List.getElem?_toArray, List.getElem?_cons_zero, List.getElem?_cons_succ] at k0 k1 k2
      have kf := frozen_of_row _ A 2 _ _ hA3
      have hA4 := heap_setCell_same w3 A 2 _ _ (.int .i64 (m : Int)) hA3
      have hA4 : (w3.setCell ⟨A, 2, none⟩ (.int .i64 (m : Int))).heap[A]? = some (.cells #[.string (st l), .int .i64 0, .int .i64 (m : Int)] 23 (0, 0)) := hA4
      have s4 : Stp [A] w3 [A] (w3.setCell ⟨A, 2, none⟩ (.int .i64 (m : Int))) := Stp.setCell (a := ⟨A, 2, none⟩) _ _ (by simp)
      have hb4 := hb1.other s4 (bts_apart hb1 hA3 (ask_no _ _ _))
      have S3 : Aside (Stp [] w2 [] (w3.setCell ⟨A, 2, none⟩ (.int .i64 (m : Int)))) := (((HS.out.trans HB.out.2).trans s3).fresh s4 (by simpa using hA0)).none
      have j0 := cell_of_row _ A 0 _ _ _ hA4
      have j1 := cell_of_row _ A 1 _ _ _ hA4
      have j2 := cell_of_row _ A 2 _ _ _ hA4
      simp only [List.getElem?_toArray, List.getElem?_cons_zero, List.getElem?_cons_succ] at j0 j1 j2
      clear hA3 hA4 s4 s3 hb1 HB KX hA hA0
      go_wp2_with fail
      generalize w3.setCell ⟨A, 2, none⟩ (.int .i64 (m : Int)) = w4 at *
      refine (KY.out _ (S2.out.trans S3.out)).mono ?_
      rintro _ w5 ⟨a2, p2, rfl, hb2, hc2, hm2, s5⟩
      rw [← HN.out.2]
      have hv1 := conv_bts p1 N1 (hb4.stays s5) HN.out.1
      have hv2 := conv_bts p2 N2 hb2 HN.out.2
      have S5 := Lib.hid (S3.out.trans s5)
      have HBt := Lib.hid (And.intro (And.intro (hb4.stays s5) HN.out.1) (And.intro hb2 HN.out.2))
      clear hb4 hb2 s5 S3 KY k0 k1 k2 kf j0 j1 j2 cG hc1 hm1 hc2 hm2
      by_cases hE : 0 < E
      · skip
        obtain ⟨hX0, hY0⟩ := (HidF.out HF.out).1 hE
        have hN1 : N1 = 0 := by rw [HN.out.1, hX0]; rfl
        have hN2 : N2 = 0 := by rw [HN.out.2, hY0]; rfl
        subst hX0 hY0 hN1 hN2
        have zE : ((E : Int) != 0) = true := by rw [bne_iff_ne]; omega
        have zF : ((E : Int) == 0) = false := beq_eq_false_iff_ne.2 (by omega)
        have zL : ¬ ((l.length : Int) + (s : Int) + 20 < 0) := by omega
        clear HF HN hE
        go_wp2_with fail
        refine (KS.out _).mono ?_
        rintro _ w6 ⟨rfl, s6⟩
        have S6 := Lib.hid (S5.out.trans s6)
        clear s6
        go_wp2_with fail
        go_roundg (3 - (0 + 1) + 1)
        case measure => omega
        case rel => exact ⟨0 + 1, rfl, by omega, by omega, S6.out⟩
      · obtain rfl : E = 0 := by omega
        clear hE
        have hXY : X = Y := (HidF.out HF.out).2.1 rfl
        subst hXY
        have hNN : N2 = N1 := by rw [HN.out.1, HN.out.2]
        subst hNN
        have zL : ¬ ((l.length : Int) + (s : Int) + 20 < (N2 : Int)) := by have := HL.out; omega
        clear HF HN HL
        go_wp2_with fail
        refine (KS.out _).mono ?_
        rintro _ w6 ⟨rfl, s6⟩
        have S6 := Lib.hid (S5.out.trans s6)
        clear s6
        go_wp2_with fail
        go_roundg (3 - (0 + 1) + 1)
        case measure => omega
        case rel => exact ⟨0 + 1, rfl, by omega, by omega, S6.out⟩
    · skip
      have cG : wr.cell? ⟨G, 1, none⟩ = some (.int .i64 1) := by rw [cell_of_row _ _ _ _ _ _ (HG.out wr HS.out)]; rfl
      obtain ⟨E, s, X, Y, r1, r2, r3, r4, r5, hs1, hl1, hl2, hF⟩ := hid_facts l 1 n p m q (by omega) hn1 hm1 hp1 hq1
      have KX : Hid (∀ W, Stp [] w [] W → Calls Tryd.prog 9 #[.agg #[.string (st l), .int .i64 1, .int .i64 (n : Int)], .int .i64 (n : Int), .int .i64 (p : Int)] W (Rend W X E)) := Lib.hid fun W hs => by
        rw [← r1, ← r3]
        exact render_run l 1 n n p W (by omega) (HT.out.stays hs)
      have KY : Hid (∀ W, Stp [] w [] W → Calls Tryd.prog 9 #[.agg #[.string (st l), .int .i64 1, .int .i64 (m : Int)], .int .i64 (m : Int), .int .i64 (q : Int)] W (Rend W Y E)) := Lib.hid fun W hs => by
        rw [← r2, ← r4]
        exact render_run l 1 m m q W (by omega) (HT.out.stays hs)
      have KS : Hid (∀ W, Calls Tryd.prog 13 #[.int .i64 1, .int .i64 (n : Int)] W (Tells (.int .i64 (s : Int)) W)) := Lib.hid fun W => by
        rw [← r5]
        exact stars_run 1 n W
      obtain ⟨N1, hN1⟩ : ∃ N, N = X.length := ⟨_, rfl⟩
      obtain ⟨N2, hN2⟩ : ∃ N, N = Y.length := ⟨_, rfl⟩
      have HF := Lib.hid (show HidF 1 E n p m q X Y from hF)
      have HN := Lib.hid (And.intro hN1 hN2)
      have HL := Lib.hid (show N1 ≤ l.length + s + 20 by rw [hN1]; exact hl1)
      have hb := heap_alloc_new wr (.cells #[.string (st l), .int .i64 1, .int .i64 (n : Int)] 23)
      have s1 : Stp [] wr [] (wr.alloc (.cells #[.string (st l), .int .i64 1, .int .i64 (n : Int)] 23)) := Stp.alloc _ _ _
      have k0 := cell_of_row _ wr.heap.size 0 _ _ _ hb
      have k1 := cell_of_row _ wr.heap.size 1 _ _ _ hb
      have k2 := cell_of_row _ wr.heap.size 2 _ _ _ hb
      simp only [List.getElem?_toArray, List.getElem?_cons_zero, List.getElem?_cons_succ] at k0 k1 k2
      have HB := Lib.hid (And.intro hb s1)
      have hA : wr.heap.size < (wr.alloc (.cells #[.string (st l), .int .i64 1, .int .i64 (n : Int)] 23)).heap.size := by simp
      have hA0 : w2.heap.size ≤ wr.heap.size := HS.out.size
      clear hb s1 r1 r2 r3 r4 r5 hl1 hl2 hF hN1 hN2
      go_wp2_with fail
      generalize wr.alloc (.cells #[.string (st l), .int .i64 1, .int .i64 (n : Int)] 23) = wa at *
      obtain ⟨A, hAA⟩ : ∃ A, A = wr.heap.size := ⟨_, rfl⟩
      rw [← hAA] at HB hA hA0 ⊢
      clear hAA
      refine (KX.out _ (S2.out.trans (HS.out.trans HB.out.2))).mono ?_
      rintro _ w3 ⟨a1, p1, rfl, hb1, hc1, hm1, s3⟩
      have hA3 := (s3.block A hA (by simp)).trans HB.out.1
      rw [← HN.out.1]
      have k0 := cell_of_row _ A 0 _ _ _ hA3
      have k1 := cell_of_row _ A 1 _ _ _ hA3
      have k2 := cell_of_row _ A 2 _ _ _ hA3
      simp only [List.getElem?_toArray, List.getElem?_cons_zero, List.getElem?_cons_succ] at k0 k1 k2
      have kf := frozen_of_row _ A 2 _ _ hA3
      have hA4 := heap_setCell_same w3 A 2 _ _ (.int .i64 (m : Int)) hA3
      have hA4 : (w3.setCell ⟨A, 2, none⟩ (.int .i64 (m : Int))).heap[A]? = some (.cells #[.string (st l), .int .i64 1, .int .i64 (m : Int)] 23 (0, 0)) := hA4
      have s4 : Stp [A] w3 [A] (w3.setCell ⟨A, 2, none⟩ (.int .i64 (m : Int))) := Stp.setCell (a := ⟨A, 2, none⟩) _ _ (by simp)
      have hb4 := hb1.other s4 (bts_apart hb1 hA3 (ask_no _ _ _))
      have S3 : Aside (Stp [] w2 [] (w3.setCell ⟨A, 2, none⟩ (.int .i64 (m : Int)))) := (((HS.out.trans HB.out.2).trans s3).fresh s4 (by simpa using hA0)).none
      have j0 := cell_of_row _ A 0 _ _ _ hA4
      have j1 := cell_of_row _ A 1 _ _ _ hA4
      have j2 := cell_of_row _ A 2 _ _ _ hA4
      simp only [List.getElem?_toArray, List.getElem?_cons_zero, List.getElem?_cons_succ] at j0 j1 j2
      clear hA3 hA4 s4 s3 hb1 HB KX hA hA0
      go_wp2_with fail
      generalize w3.setCell ⟨A, 2, none⟩ (.int .i64 (m : Int)) = w4 at *
      refine (KY.out _ (S2.out.trans S3.out)).mono ?_
      rintro _ w5 ⟨a2, p2, rfl, hb2, hc2, hm2, s5⟩
      rw [← HN.out.2]
      have hv1 := conv_bts p1 N1 (hb4.stays s5) HN.out.1
      have hv2 := conv_bts p2 N2 hb2 HN.out.2
      have S5 := Lib.hid (S3.out.trans s5)
      have HBt := Lib.hid (And.intro (And.intro (hb4.stays s5) HN.out.1) (And.intro hb2 HN.out.2))
      clear hb4 hb2 s5 S3 KY k0 k1 k2 kf j0 j1 j2 cG hc1 hm1 hc2 hm2
      by_cases hE : 0 < E
      · skip
        obtain ⟨hX0, hY0⟩ := (HidF.out HF.out).1 hE
        have hN1 : N1 = 0 := by rw [HN.out.1, hX0]; rfl
        have hN2 : N2 = 0 := by rw [HN.out.2, hY0]; rfl
        subst hX0 hY0 hN1 hN2
        have zE : ((E : Int) != 0) = true := by rw [bne_iff_ne]; omega
        have zF : ((E : Int) == 0) = false := beq_eq_false_iff_ne.2 (by omega)
        have zL : ¬ ((l.length : Int) + (s : Int) + 20 < 0) := by omega
        clear HF HN hE
        by_cases h1 : n = m
        · subst h1
          by_cases h2 : p = q
          · subst h2
            go_wp2_with fail
            refine (KS.out _).mono ?_
            rintro _ w6 ⟨rfl, s6⟩
            have S6 := Lib.hid (S5.out.trans s6)
            clear s6
            go_wp2_with fail
            go_roundg (3 - (1 + 1) + 1)
            case measure => omega
            case rel => exact ⟨1 + 1, rfl, by omega, by omega, S6.out⟩
          · have y2 : ((p : Int) == (q : Int)) = false := beq_eq_false_iff_ne.2 (by omega)
            have y3 : ((p : Int) != (q : Int)) = true := by rw [bne_iff_ne]; omega
            go_wp2_with fail
            refine (KS.out _).mono ?_
            rintro _ w6 ⟨rfl, s6⟩
            have S6 := Lib.hid (S5.out.trans s6)
            clear s6
            go_wp2_with fail
            go_roundg (3 - (1 + 1) + 1)
            case measure => omega
            case rel => exact ⟨1 + 1, rfl, by omega, by omega, S6.out⟩
        · have y1 : ((n : Int) == (m : Int)) = false := beq_eq_false_iff_ne.2 (by omega)
          have y3 : ((n : Int) != (m : Int)) = true := by rw [bne_iff_ne]; omega
          go_wp2_with fail
          refine (KS.out _).mono ?_
          rintro _ w6 ⟨rfl, s6⟩
          have S6 := Lib.hid (S5.out.trans s6)
          clear s6
          go_wp2_with fail
          go_roundg (3 - (1 + 1) + 1)
          case measure => omega
          case rel => exact ⟨1 + 1, rfl, by omega, by omega, S6.out⟩
      · obtain rfl : E = 0 := by omega
        clear hE
        by_cases h1 : n = m
        · subst h1
          by_cases h2 : p = q
          · subst h2
            have hXY : X = Y := (HidF.out HF.out).2.2.1 rfl rfl rfl
            subst hXY
            have hNN : N2 = N1 := by rw [HN.out.1, HN.out.2]
            subst hNN
            have zL : ¬ ((l.length : Int) + (s : Int) + 20 < (N2 : Int)) := by have := HL.out; omega
            clear HF HN HL
            go_wp2_with fail
            refine (KS.out _).mono ?_
            rintro _ w6 ⟨rfl, s6⟩
            have S6 := Lib.hid (S5.out.trans s6)
            clear s6
            go_wp2_with fail
            go_roundg (3 - (1 + 1) + 1)
            case measure => omega
            case rel => exact ⟨1 + 1, rfl, by omega, by omega, S6.out⟩
          · have y2 : ((p : Int) == (q : Int)) = false := beq_eq_false_iff_ne.2 (by omega)
            have y3 : ((p : Int) != (q : Int)) = true := by rw [bne_iff_ne]; omega
            have zL : ¬ ((l.length : Int) + (s : Int) + 20 < (N1 : Int)) := by have := HL.out; omega
            have y4 : ((st X).toList == (st Y).toList) = false := st_no (fun e => (HidF.out HF.out).2.2.2.2 rfl rfl (.inr h2) (st_inj e))
            clear HF HN HL
            go_wp2_with fail
            refine (KS.out _).mono ?_
            rintro _ w6 ⟨rfl, s6⟩
            have hw1 := conv_bts p1 N1 (HBt.out.1.1.stays s6) HBt.out.1.2
            have hw2 := conv_bts p2 N2 (HBt.out.2.1.stays s6) HBt.out.2.2
            have S6 := Lib.hid (S5.out.trans s6)
            clear s6
            go_wp2_with fail
            go_roundg (3 - (1 + 1) + 1)
            case measure => omega
            case rel => exact ⟨1 + 1, rfl, by omega, by omega, S6.out⟩
        · have y1 : ((n : Int) == (m : Int)) = false := beq_eq_false_iff_ne.2 (by omega)
          have y3 : ((n : Int) != (m : Int)) = true := by rw [bne_iff_ne]; omega
          have zL : ¬ ((l.length : Int) + (s : Int) + 20 < (N1 : Int)) := by have := HL.out; omega
          have y4 : ((st X).toList == (st Y).toList) = false := st_no (fun e => (HidF.out HF.out).2.2.2.2 rfl rfl (.inl h1) (st_inj e))
          clear HF HN HL
          go_wp2_with fail
          refine (KS.out _).mono ?_
          rintro _ w6 ⟨rfl, s6⟩
          have hw1 := conv_bts p1 N1 (HBt.out.1.1.stays s6) HBt.out.1.2
          have hw2 := conv_bts p2 N2 (HBt.out.2.1.stays s6) HBt.out.2.2
          have S6 := Lib.hid (S5.out.trans s6)
          clear s6
          go_wp2_with fail
          go_roundg (3 - (1 + 1) + 1)
          case measure => omega
          case rel => exact ⟨1 + 1, rfl, by omega, by omega, S6.out⟩
    · skip
      have cG : wr.cell? ⟨G, 2, none⟩ = some (.int .i64 2) := by rw [cell_of_row _ _ _ _ _ _ (HG.out wr HS.out)]; rfl
      obtain ⟨E, s, X, Y, r1, r2, r3, r4, r5, hs1, hl1, hl2, hF⟩ := hid_facts l 2 n p m q (by omega) hn1 hm1 hp1 hq1
      have KX : Hid (∀ W, Stp [] w [] W → Calls Tryd.prog 9 #[.agg #[.string (st l), .int .i64 2, .int .i64 (n : Int)], .int .i64 (n : Int), .int .i64 (p : Int)] W (Rend W X E)) := Lib.hid fun W hs => by
        rw [← r1, ← r3]
        exact render_run l 2 n n p W (by omega) (HT.out.stays hs)
      have KY : Hid (∀ W, Stp [] w [] W → Calls Tryd.prog 9 #[.agg #[.string (st l), .int .i64 2, .int .i64 (m : Int)], .int .i64 (m : Int), .int .i64 (q : Int)] W (Rend W Y E)) := Lib.hid fun W hs => by
        rw [← r2, ← r4]
        exact render_run l 2 m m q W (by omega) (HT.out.stays hs)
      have KS : Hid (∀ W, Calls Tryd.prog 13 #[.int .i64 2, .int .i64 (n : Int)] W (Tells (.int .i64 (s : Int)) W)) := Lib.hid fun W => by
        rw [← r5]
        exact stars_run 2 n W
      obtain ⟨N1, hN1⟩ : ∃ N, N = X.length := ⟨_, rfl⟩
      obtain ⟨N2, hN2⟩ : ∃ N, N = Y.length := ⟨_, rfl⟩
      have HF := Lib.hid (show HidF 2 E n p m q X Y from hF)
      have HN := Lib.hid (And.intro hN1 hN2)
      have HL := Lib.hid (show N1 ≤ l.length + s + 20 by rw [hN1]; exact hl1)
      have hb := heap_alloc_new wr (.cells #[.string (st l), .int .i64 2, .int .i64 (n : Int)] 23)
      have s1 : Stp [] wr [] (wr.alloc (.cells #[.string (st l), .int .i64 2, .int .i64 (n : Int)] 23)) := Stp.alloc _ _ _
      have k0 := cell_of_row _ wr.heap.size 0 _ _ _ hb
      have k1 := cell_of_row _ wr.heap.size 1 _ _ _ hb
      have k2 := cell_of_row _ wr.heap.size 2 _ _ _ hb
      simp only [List.getElem?_toArray, List.getElem?_cons_zero, List.getElem?_cons_succ] at k0 k1 k2
      have HB := Lib.hid (And.intro hb s1)
      have hA : wr.heap.size < (wr.alloc (.cells #[.string (st l), .int .i64 2, .int .i64 (n : Int)] 23)).heap.size := by simp
      have hA0 : w2.heap.size ≤ wr.heap.size := HS.out.size
      clear hb s1 r1 r2 r3 r4 r5 hl1 hl2 hF hN1 hN2
      go_wp2_with fail
      generalize wr.alloc (.cells #[.string (st l), .int .i64 2, .int .i64 (n : Int)] 23) = wa at *
      obtain ⟨A, hAA⟩ : ∃ A, A = wr.heap.size := ⟨_, rfl⟩
      rw [← hAA] at HB hA hA0 ⊢
      clear hAA
      refine (KX.out _ (S2.out.trans (HS.out.trans HB.out.2))).mono ?_
      rintro _ w3 ⟨a1, p1, rfl, hb1, hc1, hm1, s3⟩
      have hA3 := (s3.block A hA (by simp)).trans HB.out.1
      rw [← HN.out.1]
      have k0 := cell_of_row _ A 0 _ _ _ hA3
      have k1 := cell_of_row _ A 1 _ _ _ hA3
      have k2 := cell_of_row _ A 2 _ _ _ hA3
      simp only [List.getElem?_toArray, List.getElem?_cons_zero, List.getElem?_cons_succ] at k0 k1 k2
      have kf := frozen_of_row _ A 2 _ _ hA3
      have hA4 := heap_setCell_same w3 A 2 _ _ (.int .i64 (m : Int)) hA3
      have hA4 : (w3.setCell ⟨A, 2, none⟩ (.int .i64 (m : Int))).heap[A]? = some (.cells #[.string (st l), .int .i64 2, .int .i64 (m : Int)] 23 (0, 0)) := hA4
      have s4 : Stp [A] w3 [A] (w3.setCell ⟨A, 2, none⟩ (.int .i64 (m : Int))) := Stp.setCell (a := ⟨A, 2, none⟩) _ _ (by simp)
      have hb4 := hb1.other s4 (bts_apart hb1 hA3 (ask_no _ _ _))
      have S3 : Aside (Stp [] w2 [] (w3.setCell ⟨A, 2, none⟩ (.int .i64 (m : Int)))) := (((HS.out.trans HB.out.2).trans s3).fresh s4 (by simpa using hA0)).none
      have j0 := cell_of_row _ A 0 _ _ _ hA4
      have j1 := cell_of_row _ A 1 _ _ _ hA4
      have j2 := cell_of_row _ A 2 _ _ _ hA4
      simp only [List.getElem?_toArray, List.getElem?_cons_zero, List.getElem?_cons_succ] at j0 j1 j2
      clear hA3 hA4 s4 s3 hb1 HB KX hA hA0
      go_wp2_with fail
      generalize w3.setCell ⟨A, 2, none⟩ (.int .i64 (m : Int)) = w4 at *
      refine (KY.out _ (S2.out.trans S3.out)).mono ?_
      rintro _ w5 ⟨a2, p2, rfl, hb2, hc2, hm2, s5⟩
      rw [← HN.out.2]
      have hv1 := conv_bts p1 N1 (hb4.stays s5) HN.out.1
      have hv2 := conv_bts p2 N2 hb2 HN.out.2
      have S5 := Lib.hid (S3.out.trans s5)
      have HBt := Lib.hid (And.intro (And.intro (hb4.stays s5) HN.out.1) (And.intro hb2 HN.out.2))
      clear hb4 hb2 s5 S3 KY k0 k1 k2 kf j0 j1 j2 cG hc1 hm1 hc2 hm2
      by_cases hE : 0 < E
      · skip
        obtain ⟨hX0, hY0⟩ := (HidF.out HF.out).1 hE
        have hN1 : N1 = 0 := by rw [HN.out.1, hX0]; rfl
        have hN2 : N2 = 0 := by rw [HN.out.2, hY0]; rfl
        subst hX0 hY0 hN1 hN2
        have zE : ((E : Int) != 0) = true := by rw [bne_iff_ne]; omega
        have zF : ((E : Int) == 0) = false := beq_eq_false_iff_ne.2 (by omega)
        have zL : ¬ ((l.length : Int) + (s : Int) + 20 < 0) := by omega
        clear HF HN hE
        by_cases h1 : 0 < n
        · have y1 : (0 : Int) < (n : Int) := by omega
          by_cases h2 : 0 < m
          · have y2 : (0 : Int) < (m : Int) := by omega
            go_wp2_with fail
            refine (KS.out _).mono ?_
            rintro _ w6 ⟨rfl, s6⟩
            have S6 := Lib.hid (S5.out.trans s6)
            clear s6
            go_wp2_with fail
            go_roundg (3 - (2 + 1) + 1)
            case measure => omega
            case rel => exact ⟨2 + 1, rfl, by omega, by omega, S6.out⟩
          · have y2 : ¬ (0 : Int) < (m : Int) := by omega
            go_wp2_with fail
            refine (KS.out _).mono ?_
            rintro _ w6 ⟨rfl, s6⟩
            have S6 := Lib.hid (S5.out.trans s6)
            clear s6
            go_wp2_with fail
            go_roundg (3 - (2 + 1) + 1)
            case measure => omega
            case rel => exact ⟨2 + 1, rfl, by omega, by omega, S6.out⟩
        · have y1 : ¬ (0 : Int) < (n : Int) := by omega
          by_cases h2 : 0 < m
          · have y2 : (0 : Int) < (m : Int) := by omega
            go_wp2_with fail
            refine (KS.out _).mono ?_
            rintro _ w6 ⟨rfl, s6⟩
            have S6 := Lib.hid (S5.out.trans s6)
            clear s6
            go_wp2_with fail
            go_roundg (3 - (2 + 1) + 1)
            case measure => omega
            case rel => exact ⟨2 + 1, rfl, by omega, by omega, S6.out⟩
          · have y2 : ¬ (0 : Int) < (m : Int) := by omega
            go_wp2_with fail
            refine (KS.out _).mono ?_
            rintro _ w6 ⟨rfl, s6⟩
            have S6 := Lib.hid (S5.out.trans s6)
            clear s6
            go_wp2_with fail
            go_roundg (3 - (2 + 1) + 1)
            case measure => omega
            case rel => exact ⟨2 + 1, rfl, by omega, by omega, S6.out⟩
      · obtain rfl : E = 0 := by omega
        clear hE
        by_cases h1 : 0 < n
        · have y1 : (0 : Int) < (n : Int) := by omega
          by_cases h2 : 0 < m
          · have y2 : (0 : Int) < (m : Int) := by omega
            have hXY : X = Y := (HidF.out HF.out).2.2.2.1 rfl (by omega)
            subst hXY
            have hNN : N2 = N1 := by rw [HN.out.1, HN.out.2]
            subst hNN
            have zL : ¬ ((l.length : Int) + (s : Int) + 20 < (N2 : Int)) := by have := HL.out; omega
            clear HF HN HL
            go_wp2_with fail
            refine (KS.out _).mono ?_
            rintro _ w6 ⟨rfl, s6⟩
            have S6 := Lib.hid (S5.out.trans s6)
            clear s6
            go_wp2_with fail
            go_roundg (3 - (2 + 1) + 1)
            case measure => omega
            case rel => exact ⟨2 + 1, rfl, by omega, by omega, S6.out⟩
          · have y2 : ¬ (0 : Int) < (m : Int) := by omega
            have zL : ¬ ((l.length : Int) + (s : Int) + 20 < (N1 : Int)) := by have := HL.out; omega
            clear HF HN HL
            go_wp2_with fail
            refine (KS.out _).mono ?_
            rintro _ w6 ⟨rfl, s6⟩
            have S6 := Lib.hid (S5.out.trans s6)
            clear s6
            go_wp2_with fail
            go_roundg (3 - (2 + 1) + 1)
            case measure => omega
            case rel => exact ⟨2 + 1, rfl, by omega, by omega, S6.out⟩
        · have y1 : ¬ (0 : Int) < (n : Int) := by omega
          by_cases h2 : 0 < m
          · have y2 : (0 : Int) < (m : Int) := by omega
            have zL : ¬ ((l.length : Int) + (s : Int) + 20 < (N1 : Int)) := by have := HL.out; omega
            clear HF HN HL
            go_wp2_with fail
            refine (KS.out _).mono ?_
            rintro _ w6 ⟨rfl, s6⟩
            have S6 := Lib.hid (S5.out.trans s6)
            clear s6
            go_wp2_with fail
            go_roundg (3 - (2 + 1) + 1)
            case measure => omega
            case rel => exact ⟨2 + 1, rfl, by omega, by omega, S6.out⟩
          · have y2 : ¬ (0 : Int) < (m : Int) := by omega
            have hXY : X = Y := (HidF.out HF.out).2.2.2.1 rfl (by omega)
            subst hXY
            have hNN : N2 = N1 := by rw [HN.out.1, HN.out.2]
            subst hNN
            have zL : ¬ ((l.length : Int) + (s : Int) + 20 < (N2 : Int)) := by have := HL.out; omega
            clear HF HN HL
            go_wp2_with fail
            refine (KS.out _).mono ?_
            rintro _ w6 ⟨rfl, s6⟩
            have S6 := Lib.hid (S5.out.trans s6)
            clear s6
            go_wp2_with fail
            go_roundg (3 - (2 + 1) + 1)
            case measure => omega
            case rel => exact ⟨2 + 1, rfl, by omega, by omega, S6.out⟩
    · skip
      go_wp2_with fail
      refine (KA.out _ (S2.out.trans HS.out)).mono ?_
      rintro _ w3 ⟨rfl, s3⟩
      go_wp2_with fail
      go_ret
      exact ⟨rfl, ((S2.out.trans HS.out).trans s3).under⟩
theorem hides_walk (t : ByteArray) (x1 y1 x2 y2 : Int) (w : World) (hm : t.size ≤ maxLen) (hT : Tabs w) : Calls Tryd.prog 5 #[.string t, .agg #[.int .i64 x1, .int .i64 y1], .agg #[.int .i64 x2, .int .i64 y2]] w (Truth w) := by
  have hl : t.data.toList.length = t.size := by rw [Array.length_toList]; rfl
  rcases Nat.lt_or_ge 2000 t.size with h | h
  · have := hides_long t.data.toList x1 y1 x2 y2 w (by omega) (by omega) hT
    rw [st_of] at this
    exact this
  · have := hides_short t.data.toList x1 y1 x2 y2 w (by omega) hT
    rw [st_of] at this
    exact this
end Go.Proofs.YtjenbhaaahpliaaDoor
