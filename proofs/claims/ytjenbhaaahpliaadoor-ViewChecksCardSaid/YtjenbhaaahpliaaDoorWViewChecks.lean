/-
  The walk of ViewChecks.
-/
import Derived.Test.YtjenbhaaahpliaaDoorAlV
namespace Go.Proofs.YtjenbhaaahpliaaDoor
open Go.RowKit Go.Lib
set_option linter.unusedVariables false

theorem lineL_head (l : List UInt8) (s b : Nat) : ∃ t, lineL l s b = 13 :: t := ⟨_, rfl⟩
set_option maxHeartbeats 1000000 in
set_option maxRecDepth 100000 in
theorem checks_long (l : List UInt8) (m r : Int) (x y : Nat) (w : World) (hl : 2000 < l.length) (hm : l.length ≤ maxLen) (hT : Tabs w) : Calls Tryd.prog 7 #[askv l m r, .agg #[.int .u16 (x : Int), .int .u16 (y : Int)]] w (Truth w) := by
  have hsz := st_size l
  have KA : Hid (∀ W, Stp [] w [] W → Calls Tryd.prog 8 #[] W (Tells (.bool true) W)) := Lib.hid fun W hs => alive_run W (hT.stays hs)
  have hb := heap_alloc_new w (.cells #[.string (st l), .int .i64 m, .int .i64 r] 23)
  have s0 : Stp [] w [] ((w.alloc (.cells #[.string (st l), .int .i64 m, .int .i64 r] 23)).alloc (.cells #[.int .u16 (x : Int), .int .u16 (y : Int)] 46)) := (Stp.alloc [] _ _).trans (Stp.alloc _ _ _)
  have c0 : ((w.alloc (.cells #[.string (st l), .int .i64 m, .int .i64 r] 23)).alloc (.cells #[.int .u16 (x : Int), .int .u16 (y : Int)] 46)).cell? ⟨w.heap.size, 0, none⟩ = some (.string (st l)) := (Stp.alloc [] _ _).keeps rfl (by rw [cell_of_row _ _ 0 _ _ _ hb]; rfl)
  have hz : (2000 : Int) < (l.length : Int) := by omega
  have S0 := Lib.hid s0
  clear hT hb s0
  unfold askv
  go_enter Tryd.func7, Tryd.ntmps7
  go_wp2_with fail
  refine (KA.out _ S0.out).mono ?_
  rintro _ w1 ⟨rfl, s1⟩
  have S1 := Lib.hid (S0.out.trans s1)
  clear s1
  go_wp2_with fail
  go_ret
  exact ⟨rfl, S1.out.under⟩
set_option maxHeartbeats 2000000 in
set_option maxRecDepth 100000 in
theorem checks_short (l : List UInt8) (m r : Int) (x y : Nat) (w : World) (hl : l.length ≤ 2000) (bx : x < 65536) (bY : y < 65536) (hT : Tabs w) : Calls Tryd.prog 7 #[askv l m r, .agg #[.int .u16 (x : Int), .int .u16 (y : Int)]] w (Truth w) := by
  obtain ⟨n, hn⟩ : ∃ n, n = x % 1025 := ⟨_, rfl⟩
  obtain ⟨p, hp⟩ : ∃ p, p = y % (n + 1) := ⟨_, rfl⟩
  have hn1 : n ≤ 1024 := by omega
  have hp1 : p ≤ n := by have := Nat.mod_lt y (show 0 < n + 1 by omega); omega
  have en : (x : Int) % 1025 = (n : Int) := by omega
  have ep : (y : Int) % ((n : Int) + 1) = (p : Int) := by rw [hp]; rfl
  have hsz := st_size l
  have hz : ¬ (2000 : Int) < (l.length : Int) := by omega
  have KA : Hid (∀ W, Stp [] w [] W → Calls Tryd.prog 8 #[] W (Tells (.bool true) W)) := Lib.hid fun W hs => alive_run W (hT.stays hs)
  have KC : Hid (∀ W, Stp [] w [] W → Calls Tryd.prog 11 #[.agg #[.string (st l), .int .i64 m, .int .i64 r]] W (Tells (.int .i64 (chkN l m r : Int)) W)) := Lib.hid fun W hs => check_run l m r W (by omega) (hT.stays hs).utf
  have KR : Hid (∀ W, Stp [] w [] W → Calls Tryd.prog 9 #[.agg #[.string (st l), .int .i64 m, .int .i64 r], .int .i64 (n : Int), .int .i64 (p : Int)] W (Rend W (renL l m r n p) (renN l m r n p))) := Lib.hid fun W hs => render_run l m r n p W (by omega) (hT.stays hs)
  have KQ : Hid (∀ W, Stp [] w [] W → Calls Tryd.prog 9 #[.agg #[.string (st l), .int .i64 m, .int .i64 r], .int .i64 (n : Int), .int .i64 ((n : Int) + 1)] W (Rend W (renL l m r n ((n : Int) + 1)) (renN l m r n ((n : Int) + 1)))) := Lib.hid fun W hs => render_run l m r n ((n : Int) + 1) W (by omega) (hT.stays hs)
  have hr1 : rng (n : Int) (p : Int) = true := decide_eq_true (by omega)
  have hr2 : rng (n : Int) ((n : Int) + 1) = false := decide_eq_false (by omega)
  obtain ⟨k, hk⟩ : ∃ k, k = chkN l m r := ⟨_, rfl⟩
  have e1 : renN l m r n p = k := by unfold renN; rw [hr1, hk]; simp; exact fun h => h.symm
  obtain ⟨L1, hL1⟩ : ∃ L, L = renL l m r n p := ⟨_, rfl⟩
  obtain ⟨N2, hN2⟩ : ∃ N, N = renN l m r n ((n : Int) + 1) := ⟨_, rfl⟩
  rw [e1, ← hL1] at KR
  rw [← hN2] at KQ
  rw [← hk] at KC
  generalize renL l m r n ((n : Int) + 1) = L2 at *
  have hcase : (k = 0 ∧ N2 = 3 ∧ ∃ t, L1 = 13 :: t) ∨ (0 < k ∧ N2 = k ∧ L1 = []) := by
    rw [hL1, hN2]
    unfold renL renN
    rw [hr1, hr2, ← hk]
    by_cases h0 : k = 0
    · exact .inl ⟨h0, by simp [h0], by rw [if_pos h0]; exact lineL_head _ _ _⟩
    · exact .inr ⟨by omega, by simp [h0], by simp [h0]⟩
  have hb := heap_alloc_new w (.cells #[.string (st l), .int .i64 m, .int .i64 r] 23)
  have hb' := heap_alloc_new (w.alloc (.cells #[.string (st l), .int .i64 m, .int .i64 r] 23)) (.cells #[.int .u16 (x : Int), .int .u16 (y : Int)] 46)
  rw [World.size_alloc] at hb'
  have s0 : Stp [] w [] ((w.alloc (.cells #[.string (st l), .int .i64 m, .int .i64 r] 23)).alloc (.cells #[.int .u16 (x : Int), .int .u16 (y : Int)] 46)) := (Stp.alloc [] _ _).trans (Stp.alloc _ _ _)
  have hbx := ((Stp.alloc [] (w.alloc (.cells #[.string (st l), .int .i64 m, .int .i64 r] 23)) (.cells #[.int .u16 (x : Int), .int .u16 (y : Int)] 46)).block w.heap.size (by simp) (by simp)).trans hb
  have H0 := Lib.hid (And.intro s0 hbx)
  have c0 := cell_of_row _ w.heap.size 0 _ _ _ hbx
  have c1 := cell_of_row _ w.heap.size 1 _ _ _ hbx
  have c2 := cell_of_row _ w.heap.size 2 _ _ _ hbx
  have d0 := cell_of_row _ (w.heap.size + 1) 0 _ _ _ hb'
  have d1 := cell_of_row _ (w.heap.size + 1) 1 _ _ _ hb'
  simp only [List.getElem?_toArray, List.getElem?_cons_zero, List.getElem?_cons_succ] at c0 c1 c2 d0 d1
  have HE := Lib.hid hcase
  clear hb hb' s0 hbx e1 hk hn hp hr1 hr2 hL1 hN2 hcase
  unfold askv
  go_enter Tryd.func7, Tryd.ntmps7
  go_wp2_with fail
  try simp only [en, ep]
  generalize (w.alloc (.cells #[.string (st l), .int .i64 m, .int .i64 r] 23)).alloc (.cells #[.int .u16 (x : Int), .int .u16 (y : Int)] 46) = w0 at *
  refine (KC.out _ H0.out.1).mono ?_
  rintro _ w1 ⟨rfl, s1⟩
  have hb1 := (s1.block w.heap.size (Array.getElem?_eq_some_iff.1 H0.out.2).1 (by simp)).trans H0.out.2
  have H1 := Lib.hid (And.intro (H0.out.1.trans s1) hb1)
  clear c0 c1 c2 d0 d1 s1 KC H0
  have c0 := cell_of_row _ w.heap.size 0 _ _ _ hb1
  have c1 := cell_of_row _ w.heap.size 1 _ _ _ hb1
  have c2 := cell_of_row _ w.heap.size 2 _ _ _ hb1
  simp only [List.getElem?_toArray, List.getElem?_cons_zero, List.getElem?_cons_succ] at c0 c1 c2
  clear hb1
  go_wp2_with fail
  refine (KR.out _ H1.out.1).mono ?_
  rintro _ w2 ⟨a1, p1, rfl, hb1, hc1, hm1, s2⟩
  have hb2 := (s2.block w.heap.size (Array.getElem?_eq_some_iff.1 H1.out.2).1 (by simp)).trans H1.out.2
  have H2 := Lib.hid (And.intro (H1.out.1.trans s2) (And.intro hb2 hb1))
  clear c0 c1 c2 s2 KR H1 hb1
  have c0 := cell_of_row _ w.heap.size 0 _ _ _ hb2
  have c1 := cell_of_row _ w.heap.size 1 _ _ _ hb2
  have c2 := cell_of_row _ w.heap.size 2 _ _ _ hb2
  simp only [List.getElem?_toArray, List.getElem?_cons_zero, List.getElem?_cons_succ] at c0 c1 c2
  clear hb2
  go_wp2_with fail
  refine (KQ.out _ H2.out.1).mono ?_
  rintro _ w3 ⟨a2, p2, rfl, hb2, hc2, hm2, s3⟩
  have S3 := Lib.hid (H2.out.1.trans s3)
  have hbb := H2.out.2.2.stays s3
  clear c0 c1 c2 s3 KQ H2 hb2
  rcases HE.out with ⟨h1, h2, t, h3⟩ | ⟨h1, h2, h3⟩
  · subst h1 h2 h3
    obtain ⟨ba, of, rfl, hcl⟩ := hbb (by simp)
    have hc := hcl 0 (by simp)
    have hc : w3.cell? ⟨ba, of, none⟩ = some (.int .u8 13) := by simpa [bval] using hc
    have hzl : (0 : Int) < ((13 :: t).length : Int) := by simp
    have S3c : Aside (∀ W, Stp [] w3 [] W → W.cell? ⟨ba, of, none⟩ = some (.int .u8 13)) := fun W hs => hs.keeps rfl hc
    clear HE hcl hbb hc
    generalize (13 :: t).length = N at *
    go_wp2_with fail
    refine (KA.out _ S3.out).mono ?_
    rintro _ w4 ⟨rfl, s4⟩
    have S4 := Lib.hid (S3.out.trans s4)
    have hc := S3c.out _ s4
    clear s4
    go_wp2_with fail
    go_ret
    exact ⟨rfl, S4.out.under⟩
  · subst h2 h3
    have z1 : ((N2 : Int) != 0) = true := by rw [bne_iff_ne]; omega
    have z2 : ((N2 : Int) == 0) = false := beq_eq_false_iff_ne.2 (by omega)
    clear HE hbb
    go_wp2_with fail
    refine (KA.out _ S3.out).mono ?_
    rintro _ w4 ⟨rfl, s4⟩
    have S4 := Lib.hid (S3.out.trans s4)
    clear s4
    go_wp2_with fail
    go_ret
    exact ⟨rfl, S4.out.under⟩
theorem checks_walk (l : List UInt8) (m r : Int) (x y : Nat) (w : World) (hm : l.length ≤ maxLen) (bx : x < 65536) (bY : y < 65536) (hT : Tabs w) : Calls Tryd.prog 7 #[askv l m r, .agg #[.int .u16 (x : Int), .int .u16 (y : Int)]] w (Truth w) := by
  rcases Nat.lt_or_ge 2000 l.length with h | h
  · exact checks_long l m r x y w h hm hT
  · exact checks_short l m r x y w h bx bY hT
end Go.Proofs.YtjenbhaaahpliaaDoor
