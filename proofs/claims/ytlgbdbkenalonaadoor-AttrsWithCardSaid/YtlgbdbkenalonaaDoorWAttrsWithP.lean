/-
  AttrsWith's walk: some flags.
-/
import Derived.Test.YtlgbdbkenalonaaDoorCur
namespace Go.Proofs.YtlgbdbkenalonaaDoor
open Go.RowKit Go.Lib
set_option linter.unusedVariables false

set_option maxHeartbeats 8000000 in
set_option maxRecDepth 100000 in
theorem with_pos (f m t k n : Nat) (w : World) (ho : Ok f m t) (hk : k < 4294967296) (hn : n < 4294967296) (hk00 : ¬ k = 0) (hT : Tabs w) : Calls Tryd.prog 3 #[av f m t, .int .u32 (k : Int), .int .u32 (n : Int)] w (Truth w) := by
  have hf := ho.f
  have HT : Aside (Tabs w) := hT
  have hx : f ||| k < 4294967296 := Nat.or_lt_two_pow (n := 32) hf hk
  have hy := ban_lt f k
  have hoo := ban_lt n k
  have hbo := bits_ban n k
  have f1 := with_a f k
  have f3 := with_c f k n
  have f5 := with_d f k n
  have f6 := with_e f k
  have f7 := with_f f k
  have fb : k ≠ 0 → hs (ban f k) k = false := with_b hk
  have hw1 : wth f k true = f ||| k := rfl
  have hw2 : wth f k false = ban f k := rfl
  have KH : Hid (∀ (W : World) (F m t N : Nat), F < 4294967296 → N < 4294967296 → Calls Tryd.prog 6 #[.agg #[.int .u32 (F : Int), .int .u8 (m : Int), .int .u8 (t : Int)], .int .u32 (N : Int)] W (Tells (.bool (hs F N)) W)) := Lib.hid fun W F m t N h1 h2 => has_run F m t N h1 h2 W
  have KW : Hid (∀ (W : World) (F m t N : Nat) (b : Bool), F < 4294967296 → N < 4294967296 → Calls Tryd.prog 4 #[.agg #[.int .u32 (F : Int), .int .u8 (m : Int), .int .u8 (t : Int)], .int .u32 (N : Int), .bool b] W (Tells (.agg #[.int .u32 (wth F N b : Int), .int .u8 (m : Int), .int .u8 (t : Int)]) W)) := Lib.hid fun W F m t N b h1 h2 => with_run F m t N b h1 h2 W
  have K5 : Hid (∀ W, Stp [] w [] W → Calls Tryd.prog 5 #[] W (Tells (.bool true) W)) := Lib.hid fun W hs => alive_run W (HT.out.stays hs)
  clear hT ho hn
  generalize (f ||| k : Nat) = x at *
  generalize ban f k = y at *
  generalize ban n k = o at *
  unfold av
  go_enter Tryd.func3, Tryd.ntmps3
  go_upto_region 1 with fail
  have HA : Aside (At3 (w.alloc (.cells #[.int .u32 (f : Int), .int .u8 (m : Int), .int .u8 (t : Int)] 24)) w.heap.size f m t ∧ Stp [] w [] (w.alloc (.cells #[.int .u32 (f : Int), .int .u8 (m : Int), .int .u8 (t : Int)] 24))) := ⟨At3.new w f m t, Stp.alloc [] w _⟩
  generalize w.alloc (.cells #[.int .u32 (f : Int), .int .u8 (m : Int), .int .u8 (t : Int)] 24) = w0 at *
  generalize w.heap.size = g0 at *
  have hk0 : Aside (∀ W, Stp [] w0 [] W → Stp [] w0 [] W ∧ W.cell? ⟨g0, 0, none⟩ = some (.int .u32 (f : Int)) ∧ W.cell? ⟨g0, 1, none⟩ = some (.int .u8 (m : Int)) ∧ W.cell? ⟨g0, 2, none⟩ = some (.int .u8 (t : Int))) :=
    fun W hs => ⟨hs, (HA.out.1.stays hs).cells.1, (HA.out.1.stays hs).cells.2.1, (HA.out.1.stays hs).cells.2.2.1⟩
  go_cut [7, 8] (fun s7 s8 wx => ∃ g7 g8 : Nat, s7 = .pointer (some ⟨g7, 0, none⟩) ∧ s8 = .pointer (some ⟨g8, 0, none⟩) ∧ Aside (At3 wx g7 x m t ∧ At3 wx g8 y m t ∧ Stp [] w0 [] wx))
  case first =>
    clear KH K5 f1 f3 f5 f6 f7 fb hbo hoo hx hy HT
    have hcur : Cur w0 w0 [] := ⟨Stp.refl _ _, fun g hg => (by cases hg), List.nodup_nil⟩
    have mixed : Tryd.prog.follows Departure.mixedOrders = true := by kernel_rfl
    go_region_held3 (fun W => W.cell? ⟨g0, 0, none⟩ = some (.int .u32 (f : Int)) ∧ W.cell? ⟨g0, 1, none⟩ = some (.int .u8 (m : Int)) ∧ W.cell? ⟨g0, 2, none⟩ = some (.int .u8 (t : Int)))
      (first | with_reducible exact (hk0.out _ hcur.stp).2 | with_reducible exact (hk0.out _ (hcur.call (Stp.drew [] _)).stp).2 | with_reducible exact (hk0.out _ (hcur.new.call (Stp.drew [] _)).stp).2 | with_reducible exact (hk0.out _ (hcur.new2.call (Stp.drew [] _)).stp).2 | with_reducible exact (hk0.out _ (hcur.stp.trans (Stp.alloc [] _ _))).2 | with_reducible exact (hk0.out _ ((hcur.stp.trans (Stp.alloc [] _ _)).trans (Stp.alloc [] _ _))).2 | with_reducible exact (hk0.out _ (hcur.put (by simp) _ _ _)).2 | with_reducible exact (hk0.out _ ((hcur.put (by simp) _ _ _).trans (Stp.alloc [] _ _))).2 | with_reducible exact (hk0.out _ (hcur.put2 (by simp) (by simp) _ _ _ _ _ _)).2 | assumption)
      (first
        | (go_at_call 4
           refine (KW.out _ _ _ _ _ _ hf hk).mono ?_
           rintro _ w1 ⟨rfl, s1⟩
           first
             | with_reducible replace hcur := (hcur.call (Stp.drew [] _)).call s1
             | with_reducible replace hcur := (hcur.new.call (Stp.drew [] _)).call s1
             | with_reducible replace hcur := (hcur.new2.call (Stp.drew [] _)).call s1
             | with_reducible replace hcur := hcur.call s1
             | with_reducible replace hcur := hcur.new.call s1
             | with_reducible replace hcur := hcur.new2.call s1
           clear s1
           try (have hq1 := (hcur.all _ (List.mem_cons_self ..)).2.lt
                obtain ⟨_, _, _, _, _, _⟩ := (hcur.all _ (List.mem_cons_self ..)).2.cells)
           try (have hq2 := (hcur.all _ (List.mem_cons_of_mem _ (List.mem_cons_self ..))).2.lt
                obtain ⟨_, _, _, _, _, _⟩ := (hcur.all _ (List.mem_cons_of_mem _ (List.mem_cons_self ..))).2.cells
                have hq3 := hcur.ne.1
                have hq4 := hcur.ne.2)))
    all_goals
      go_wp2_with fail
      go_meet
      refine ⟨_, _, rfl, rfl, ?_⟩
      show At3 _ _ x m t ∧ At3 _ _ y m t ∧ Stp [] w0 [] _
      first
        | with_reducible exact hcur.e1 x y m t
        | with_reducible exact hcur.e2 x y m t
        | with_reducible exact hcur.e3 x y m t (List.mem_cons_self ..)
        | with_reducible exact hcur.e4 x y m t (List.mem_cons_self ..)
        | with_reducible exact hcur.e5 x y m t (List.mem_cons_self ..) (List.mem_cons_of_mem _ (List.mem_cons_self ..)) hcur.ne.1
        | with_reducible exact hcur.e5 x y m t (List.mem_cons_of_mem _ (List.mem_cons_self ..)) (List.mem_cons_self ..) hcur.ne.2
        | exact ()
  case rest =>
    obtain ⟨g7, g8, rfl, rfl, HS⟩ := hcut
    have hA : Aside (At3 wc g0 f m t ∧ At3 wc g7 x m t ∧ At3 wc g8 y m t ∧ Stp [] w [] wc) := ⟨HA.out.1.stays HS.out.2.2, HS.out.1, HS.out.2.1, HA.out.2.trans HS.out.2.2⟩
    clear HS HA hk0 hw1 hw2
    have hkz : ((k : Int) == 0) = decide (k = 0) := by
      by_cases e : k = 0
      · subst e; rfl
      · rw [decide_eq_false e]
        exact beq_eq_false_iff_ne.2 (by omega)
    have hk1 : Aside (∀ W, Stp [] wc [] W → Stp [] wc [] W ∧ W.cell? ⟨g0, 0, none⟩ = some (.int .u32 (f : Int)) ∧ W.cell? ⟨g0, 1, none⟩ = some (.int .u8 (m : Int)) ∧ W.cell? ⟨g0, 2, none⟩ = some (.int .u8 (t : Int)) ∧
        W.cell? ⟨g7, 0, none⟩ = some (.int .u32 (x : Int)) ∧ W.cell? ⟨g7, 1, none⟩ = some (.int .u8 (m : Int)) ∧ W.cell? ⟨g7, 2, none⟩ = some (.int .u8 (t : Int)) ∧
        W.cell? ⟨g8, 0, none⟩ = some (.int .u32 (y : Int)) ∧ W.cell? ⟨g8, 1, none⟩ = some (.int .u8 (m : Int)) ∧ W.cell? ⟨g8, 2, none⟩ = some (.int .u8 (t : Int))) :=
      fun W hs => ⟨hs, (hA.out.1.stays hs).cells.1, (hA.out.1.stays hs).cells.2.1, (hA.out.1.stays hs).cells.2.2.1, (hA.out.2.1.stays hs).cells.1, (hA.out.2.1.stays hs).cells.2.1, (hA.out.2.1.stays hs).cells.2.2.1, (hA.out.2.2.1.stays hs).cells.1, (hA.out.2.2.1.stays hs).cells.2.1, (hA.out.2.2.1.stays hs).cells.2.2.1⟩
    have hcur : Stp [] wc [] wc.drew := Stp.drew _ _
    obtain ⟨bo, f4⟩ : ∃ b, hs f o = b := ⟨_, rfl⟩
    rw [f4] at f3 f5
    have hbb : (bo == bo) = true := by cases bo <;> rfl
    have hz : ((k : Int) == 0) = false := by rw [hkz]; exact decide_eq_false hk00
    have f2 := fb hk00
    clear fb hkz
    go_upto_region 3 with fail
    go_region_held3 (fun W => W.cell? ⟨g0, 0, none⟩ = some (.int .u32 (f : Int)) ∧ W.cell? ⟨g0, 1, none⟩ = some (.int .u8 (m : Int)) ∧ W.cell? ⟨g0, 2, none⟩ = some (.int .u8 (t : Int)) ∧
        W.cell? ⟨g7, 0, none⟩ = some (.int .u32 (x : Int)) ∧ W.cell? ⟨g7, 1, none⟩ = some (.int .u8 (m : Int)) ∧ W.cell? ⟨g7, 2, none⟩ = some (.int .u8 (t : Int)) ∧
        W.cell? ⟨g8, 0, none⟩ = some (.int .u32 (y : Int)) ∧ W.cell? ⟨g8, 1, none⟩ = some (.int .u8 (m : Int)) ∧ W.cell? ⟨g8, 2, none⟩ = some (.int .u8 (t : Int)))
      (first | with_reducible exact (hk1.out _ hcur).2 | assumption)
      (first
        | (go_at_call 5; refine (K5.out _ (hA.out.2.2.2.trans hcur)).mono ?_; rintro _ z1 ⟨rfl, s1⟩; replace hcur := hcur.trans s1; clear s1)
        | (go_at_call 6; refine (KH.out _ _ _ _ _ (by assumption) (by assumption)).mono ?_; rintro _ z2 ⟨rfl, s2⟩; replace hcur := hcur.trans s2; clear s2; simp only [f1, f2, f3, f4, f5])
        | (go_at_call 4; refine (KW.out _ _ _ _ _ _ (by assumption) (by assumption)).mono ?_; rintro _ z3 ⟨rfl, s3⟩; replace hcur := hcur.trans s3; clear s3; simp only [f6, f7]))
    all_goals
      go_wp2
      go_ret
      exact ⟨rfl, (hA.out.2.2.2.trans hcur).under⟩
end Go.Proofs.YtlgbdbkenalonaaDoor
