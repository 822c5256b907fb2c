/-
  The walk of ViewRenders.
-/
import Derived.Test.YtjenbhaaahpliaaDoorAlV
import Derived.Test.YtjenbhaaahpliaaDoorRRen
namespace Go.Proofs.YtjenbhaaahpliaaDoor
open Go.RowKit Go.Lib
set_option linter.unusedVariables false

set_option maxHeartbeats 1000000 in
set_option maxRecDepth 100000 in
theorem renders_long (l : List UInt8) (m r c a : Int) (w : World) (hl : 2000 < l.length) (hm : l.length ≤ maxLen) (hT : Tabs w) : Calls Tryd.prog 3 #[askv l m r, .int .i64 c, .int .i64 a] w (Truth w) := by
  have hsz := st_size l
  have KA : Hid (∀ W, Stp [] w [] W → Calls Tryd.prog 8 #[] W (Tells (.bool true) W)) := Lib.hid fun W hs => alive_run W (hT.stays hs)
  have hb := heap_alloc_new w (.cells #[.string (st l), .int .i64 m, .int .i64 r] 23)
  have s0 : Stp [] w [] (w.alloc (.cells #[.string (st l), .int .i64 m, .int .i64 r] 23)) := Stp.alloc _ _ _
  have c0 := cell_of_row _ w.heap.size 0 _ _ _ hb
  simp only [List.getElem?_toArray, List.getElem?_cons_zero] at c0
  have hz : (2000 : Int) < (l.length : Int) := by omega
  have S0 := Lib.hid s0
  clear hT hb s0
  unfold askv
  go_enter Tryd.func3, Tryd.ntmps3
  go_wp2_with fail
  refine (KA.out _ S0.out).mono ?_
  rintro _ w1 ⟨rfl, s1⟩
  have S1 := Lib.hid (S0.out.trans s1)
  clear s1
  go_wp2_with fail
  go_ret
  exact ⟨rfl, S1.out.under⟩
set_option maxHeartbeats 8000000 in
set_option maxRecDepth 100000 in
theorem renders_short (l : List UInt8) (m r c a : Int) (w : World) (hl : l.length ≤ 2000) (hT : Tabs w) : Calls Tryd.prog 3 #[askv l m r, .int .i64 c, .int .i64 a] w (Truth w) := by
  have hsz := st_size l
  have KA : Hid (∀ W, Stp [] w [] W → Calls Tryd.prog 8 #[] W (Tells (.bool true) W)) := Lib.hid fun W hs => alive_run W (hT.stays hs)
  have KR : Hid (∀ W, Stp [] w [] W → Calls Tryd.prog 9 #[.agg #[.string (st l), .int .i64 m, .int .i64 r], .int .i64 c, .int .i64 a] W (Rend W (renL l m r c a) (renN l m r c a))) := Lib.hid fun W hs => render_run l m r c a W (by omega) (hT.stays hs)
  have KQ : Hid (∀ W, Calls Tryd.prog 10 #[.agg #[.string (st l), .int .i64 m, .int .i64 r], .int .i64 c, .int .i64 a] W (Tells (.tuple #[.string (st (renL l m r c a)), .int .i64 (renN l m r c a : Int)]) W)) := Lib.hid fun W => rrender_run l m r c a W (by omega)
  have K1 : Hid (∀ W, Stp [] w [] W → Calls Tryd.prog 11 #[.agg #[.string (st l), .int .i64 m, .int .i64 r]] W (Tells (.int .i64 (chkN l m r : Int)) W)) := Lib.hid fun W hs => check_run l m r W (by omega) (hT.stays hs).utf
  have K2 : Hid (∀ W, Calls Tryd.prog 12 #[.agg #[.string (st l), .int .i64 m, .int .i64 r]] W (Tells (.int .i64 (chkN l m r : Int)) W)) := Lib.hid fun W => rcheck_run l m r W (by omega)
  have K3 := Lib.hid (fun W => stars_run m c W)
  have K4 := Lib.hid (fun W => rstars_run m c W)
  have K5 := Lib.hid (fun W => place_run m c a W)
  have K6 := Lib.hid (fun W => rplace_run m c a W)
  generalize renL l m r c a = L at *
  generalize renN l m r c a = N at *
  generalize chkN l m r = K at *
  generalize stN m c = sn at *
  generalize plN m c a = pn at *
  have hb := heap_alloc_new w (.cells #[.string (st l), .int .i64 m, .int .i64 r] 23)
  have s0 : Stp [] w [] (w.alloc (.cells #[.string (st l), .int .i64 m, .int .i64 r] 23)) := Stp.alloc _ _ _
  have c0 := cell_of_row _ w.heap.size 0 _ _ _ hb
  have c1 := cell_of_row _ w.heap.size 1 _ _ _ hb
  have c2 := cell_of_row _ w.heap.size 2 _ _ _ hb
  simp only [List.getElem?_toArray, List.getElem?_cons_zero, List.getElem?_cons_succ] at c0 c1 c2
  have hz : ¬ (2000 : Int) < (l.length : Int) := by omega
  have H0 := Lib.hid (And.intro s0 hb)
  clear hT hb s0
  unfold askv
  go_enter Tryd.func3, Tryd.ntmps3
  go_wp2_with fail
  generalize w.alloc (.cells #[.string (st l), .int .i64 m, .int .i64 r] 23) = w0 at *
  refine (KR.out _ H0.out.1).mono ?_
  rintro _ w1 ⟨a1, p1, rfl, hb1, hc1, hm1, s1⟩
  have hA1 := (s1.block w.heap.size (Array.getElem?_eq_some_iff.1 H0.out.2).1 (by simp)).trans H0.out.2
  obtain ⟨n1, hn1⟩ : ∃ n, n = L.length := ⟨_, rfl⟩
  rw [← hn1]
  have H1 := Lib.hid (And.intro (H0.out.1.trans s1) (And.intro hA1 (And.intro hb1 hn1)))
  clear c0 c1 c2 s1 H0 KR hb1 hc1 hm1 hn1
  have c0 := cell_of_row _ w.heap.size 0 _ _ _ hA1
  have c1 := cell_of_row _ w.heap.size 1 _ _ _ hA1
  have c2 := cell_of_row _ w.heap.size 2 _ _ _ hA1
  simp only [List.getElem?_toArray, List.getElem?_cons_zero, List.getElem?_cons_succ] at c0 c1 c2
  clear hA1
  go_wp2_with fail
  refine (KQ.out _).mono ?_
  rintro _ w2 ⟨rfl, s2⟩
  generalize hAA : w.heap.size = A at *
  have H2 : Aside (Stp [] w [] w2) := H1.out.1.trans s2
  have CV : Hid (∀ W, Stp [] w2 [] W → (convert 25 9 (.slice a1 n1 p1)).run Tryd.prog W = .ok (.string (st L)) W) := Lib.hid fun W hs => conv_bts p1 n1 ((H1.out.2.2.1.stays s2).stays hs) H1.out.2.2.2
  have hA2 := (s2.block A (Array.getElem?_eq_some_iff.1 H1.out.2.1).1 (by simp)).trans H1.out.2.1
  have hk0 : Aside (∀ W, Stp [] w2 [] W → Stp [] w2 [] W ∧ W.cell? ⟨A, 0, none⟩ = some (.string (st l)) ∧ W.cell? ⟨A, 1, none⟩ = some (.int .i64 m) ∧ W.cell? ⟨A, 2, none⟩ = some (.int .i64 r)) := fun W hs => by
    have h3 := (hs.block A (Array.getElem?_eq_some_iff.1 hA2).1 (by simp)).trans hA2
    have k0 := cell_of_row _ A 0 _ _ _ h3
    have k1 := cell_of_row _ A 1 _ _ _ h3
    have k2 := cell_of_row _ A 2 _ _ _ h3
    simp only [List.getElem?_toArray, List.getElem?_cons_zero, List.getElem?_cons_succ] at k0 k1 k2
    exact ⟨hs, k0, k1, k2⟩
  have ht := beq_self_eq_true (st L).toList
  have hz1 := beq_self_eq_true (N : Int)
  have hz2 := beq_self_eq_true (K : Int)
  have hz3 := beq_self_eq_true sn
  have hz4 := beq_self_eq_true pn
  clear s2 hA2 H1 KQ c0 c1 c2 hAA
  go_wp2_with fail
  have hcur : Stp [] w2 [] w2.drew := Stp.drew _ _
  have hcv := CV.out _ hcur
  go_region_held (fun W => Stp [] w2 [] W ∧ W.cell? ⟨A, 0, none⟩ = some (.string (st l)) ∧ W.cell? ⟨A, 1, none⟩ = some (.int .i64 m) ∧ W.cell? ⟨A, 2, none⟩ = some (.int .i64 r))
    (first | exact hk0.out _ hcur | assumption)
    (first
      | (go_at_call 8; refine (KA.out _ (H2.out.trans hcur)).mono ?_; rintro _ w3 ⟨rfl, s3⟩; replace hcur := hcur.trans s3; have hcv3 := CV.out _ hcur; clear s3)
      | (go_at_call 11; refine (K1.out _ (H2.out.trans hcur)).mono ?_; rintro _ w4 ⟨rfl, s4⟩; replace hcur := hcur.trans s4; have hcv4 := CV.out _ hcur; clear s4)
      | (go_at_call 12; refine (K2.out _).mono ?_; rintro _ w5 ⟨rfl, s5⟩; replace hcur := hcur.trans s5; have hcv5 := CV.out _ hcur; clear s5)
      | (go_at_call 13; refine (K3.out _).mono ?_; rintro _ w6 ⟨rfl, s6⟩; replace hcur := hcur.trans s6; have hcv6 := CV.out _ hcur; clear s6)
      | (go_at_call 14; refine (K4.out _).mono ?_; rintro _ _ ⟨rfl, rfl⟩)
      | (go_at_call 15; refine (K5.out _).mono ?_; rintro _ w8 ⟨rfl, s8⟩; replace hcur := hcur.trans s8; have hcv8 := CV.out _ hcur; clear s8)
      | (go_at_call 16; refine (K6.out _).mono ?_; rintro _ _ ⟨rfl, rfl⟩))
  all_goals
    go_wp2
    go_ret
    exact ⟨rfl, (H2.out.trans hcur).under⟩
theorem renders_walk (l : List UInt8) (m r c a : Int) (w : World) (hm : l.length ≤ maxLen) (hT : Tabs w) : Calls Tryd.prog 3 #[askv l m r, .int .i64 c, .int .i64 a] w (Truth w) := by
  rcases Nat.lt_or_ge 2000 l.length with h | h
  · exact renders_long l m r c a w h hm hT
  · exact renders_short l m r c a w h hT
end Go.Proofs.YtjenbhaaahpliaaDoor
