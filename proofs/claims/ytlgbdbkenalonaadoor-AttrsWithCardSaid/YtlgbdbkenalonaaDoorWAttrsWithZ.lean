/-
  AttrsWith's walk: no flags.
-/
import Derived.Test.YtlgbdbkenalonaaDoorCur
namespace Go.Proofs.YtlgbdbkenalonaaDoor
open Go.RowKit Go.Lib
set_option linter.unusedVariables false

set_option maxHeartbeats 8000000 in
set_option maxRecDepth 100000 in
theorem with_zero (f m t k n : Nat) (w : World) (ho : Ok f m t) (hk : k < 4294967296) (hn : n < 4294967296) (hk00 : k = 0) (hT : Tabs w) : Calls Tryd.prog 3 #[av f m t, .int .u32 (k : Int), .int .u32 (n : Int)] w (Truth w) := by
  have hf := ho.f
  have HK0 : Aside (k = 0) := hk00
  clear hk00
  have HT : Aside (Tabs w) := hT
  have hx : f ||| k < 4294967296 := Nat.or_lt_two_pow (n := 32) hf hk
  have hy := ban_lt f k
  have hoo := ban_lt n k
  have hbo := bits_ban n k
  have f1 := with_a f k
  have f3 := with_c f k n
  have f5 := with_d f k n
  have f6 := with_e f k
  have f7 := with_f f k
  have fb : k ≠ 0 → hs (ban f k) k = false := with_b hk
  have hw1 : wth f k true = f ||| k := rfl
  have hw2 : wth f k false = ban f k := rfl
  have KH : Hid (∀ (W : World) (F m t N : Nat), F < 4294967296 → N < 4294967296 → Calls Tryd.prog 6 #[.agg #[.int .u32 (F : Int), .int .u8 (m : Int), .int .u8 (t : Int)], .int .u32 (N : Int)] W (Tells (.bool (hs F N)) W)) := Lib.hid fun W F m t N h1 h2 => has_run F m t N h1 h2 W
  have KW : Hid (∀ (W : World) (F m t N : Nat) (b : Bool), F < 4294967296 → N < 4294967296 → Calls Tryd.prog 4 #[.agg #[.int .u32 (F : Int), .int .u8 (m : Int), .int .u8 (t : Int)], .int .u32 (N : Int), .bool b] W (Tells (.agg #[.int .u32 (wth F N b : Int), .int .u8 (m : Int), .int .u8 (t : Int)]) W)) := Lib.hid fun W F m t N b h1 h2 => with_run F m t N b h1 h2 W
  have K5 : Hid (∀ W, Stp [] w [] W → Calls Tryd.prog 5 #[] W (Tells (.bool true) W)) := Lib.hid fun W hs => alive_run W (HT.out.stays hs)
  clear hT ho hn
  generalize (f ||| k : Nat) = x at *
  generalize ban f k = y at *
  generalize ban n k = o at *
  unfold av
  go_enter Tryd.func3, Tryd.ntmps3
  go_upto_region 1 with fail
  have HA : Aside (At3 (w.alloc (.cells #[.int .u32 (f : Int), .int .u8 (m : Int), .int .u8 (t : Int)] 24)) w.heap.size f m t ∧ Stp [] w [] (w.alloc (.cells #[.int .u32 (f : Int), .int .u8 (m : Int), .int .u8 (t : Int)] 24))) := ⟨At3.new w f m t, Stp.alloc [] w _⟩
  generalize w.alloc (.cells #[.int .u32 (f : Int), .int .u8 (m : Int), .int .u8 (t : Int)] 24) = w0 at *
  generalize w.heap.size = g0 at *
  have hk0 : Aside (∀ W, Stp [] w0 [] W → Stp [] w0 [] W ∧ W.cell? ⟨g0, 0, none⟩ = some (.int .u32 (f : Int)) ∧ W.cell? ⟨g0, 1, none⟩ = some (.int .u8 (m : Int)) ∧ W.cell? ⟨g0, 2, none⟩ = some (.int .u8 (t : Int))) :=
    fun W hs => ⟨hs, (HA.out.1.stays hs).cells.1, (HA.out.1.stays hs).cells.2.1, (HA.out.1.stays hs).cells.2.2.1⟩
  go_cut [7, 8] (fun s7 s8 wx => ∃ g7 g8 : Nat, s7 = .pointer (some ⟨g7, 0, none⟩) ∧ s8 = .pointer (some ⟨g8, 0, none⟩) ∧ Aside (At3 wx g7 x m t ∧ At3 wx g8 y m t ∧ Stp [] w0 [] wx))
  case first =>
    clear KH K5 f1 f3 f5 f6 f7 fb hbo hoo hx hy HT
    have hcur : Cur w0 w0 [] := ⟨Stp.refl _ _, fun g hg => (by cases hg), List.nodup_nil⟩
    have mixed : Tryd.prog.follows Departure.mixedOrders = true := by kernel_rfl
    go_region_held3 (fun W => W.cell? ⟨g0, 0, none⟩ = some (.int .u32 (f : Int)) ∧ W.cell? ⟨g0, 1, none⟩ = some (.int .u8 (m : Int)) ∧ W.cell? ⟨g0, 2, none⟩ = some (.int .u8 (t : Int)))
      (first | with_reducible exact (hk0.out _ hcur.stp).2 | with_reducible exact (hk0.out _ (hcur.call (Stp.drew [] _)).stp).2 | with_reducible exact (hk0.out _ (hcur.new.call (Stp.drew [] _)).stp).2 | with_reducible exact (hk0.out _ (hcur.new2.call (Stp.drew [] _)).stp).2 | with_reducible exact (hk0.out _ (hcur.stp.trans (Stp.alloc [] _ _))).2 | with_reducible exact (hk0.out _ ((hcur.stp.trans (Stp.alloc [] _ _)).trans (Stp.alloc [] _ _))).2 | with_reducible exact (hk0.out _ (hcur.put (by simp) _ _ _)).2 | with_reducible exact (hk0.out _ ((hcur.put (by simp) _ _ _).trans (Stp.alloc [] _ _))).2 | with_reducible exact (hk0.out _ (hcur.put2 (by simp) (by simp) _ _ _ _ _ _)).2 | assumption)
      (first
        | (go_at_call 4
           refine (KW.out _ _ _ _ _ _ hf hk).mono ?_
           rintro _ w1 ⟨rfl, s1⟩
           first
             | with_reducible replace hcur := (hcur.call (Stp.drew [] _)).call s1
             | with_reducible replace hcur := (hcur.new.call (Stp.drew [] _)).call s1
             | with_reducible replace hcur := (hcur.new2.call (Stp.drew [] _)).call s1
             | with_reducible replace hcur := hcur.call s1
             | with_reducible replace hcur := hcur.new.call s1
             | with_reducible replace hcur := hcur.new2.call s1
           clear s1
           try (have hq1 := (hcur.all _ (List.mem_cons_self ..)).2.lt
                obtain ⟨_, _, _, _, _, _⟩ := (hcur.all _ (List.mem_cons_self ..)).2.cells)
           try (have hq2 := (hcur.all _ (List.mem_cons_of_mem _ (List.mem_cons_self ..))).2.lt
                obtain ⟨_, _, _, _, _, _⟩ := (hcur.all _ (List.mem_cons_of_mem _ (List.mem_cons_self ..))).2.cells
                have hq3 := hcur.ne.1
                have hq4 := hcur.ne.2)))
    all_goals
      go_wp2_with fail
      go_meet
      refine ⟨_, _, rfl, rfl, ?_⟩
      show At3 _ _ x m t ∧ At3 _ _ y m t ∧ Stp [] w0 [] _
      first
        | with_reducible exact hcur.e1 x y m t
        | with_reducible exact hcur.e2 x y m t
        | with_reducible exact hcur.e3 x y m t (List.mem_cons_self ..)
        | with_reducible exact hcur.e4 x y m t (List.mem_cons_self ..)
        | with_reducible exact hcur.e5 x y m t (List.mem_cons_self ..) (List.mem_cons_of_mem _ (List.mem_cons_self ..)) hcur.ne.1
        | with_reducible exact hcur.e5 x y m t (List.mem_cons_of_mem _ (List.mem_cons_self ..)) (List.mem_cons_self ..) hcur.ne.2
        | exact ()
  case rest =>
    obtain ⟨g7, g8, rfl, rfl, HS⟩ := hcut
    have hA : Aside (At3 wc g0 f m t ∧ At3 wc g7 x m t ∧ At3 wc g8 y m t ∧ Stp [] w [] wc) := ⟨HA.out.1.stays HS.out.2.2, HS.out.1, HS.out.2.1, HA.out.2.trans HS.out.2.2⟩
    clear HS HA hk0 hw1 hw2
    have hkz : ((k : Int) == 0) = decide (k = 0) := by
      by_cases e : k = 0
      · subst e; rfl
      · rw [decide_eq_false e]
        exact beq_eq_false_iff_ne.2 (by omega)
    have hk1 : Aside (∀ W, Stp [] wc [] W → Stp [] wc [] W ∧ W.cell? ⟨g0, 0, none⟩ = some (.int .u32 (f : Int)) ∧ W.cell? ⟨g0, 1, none⟩ = some (.int .u8 (m : Int)) ∧ W.cell? ⟨g0, 2, none⟩ = some (.int .u8 (t : Int)) ∧
        W.cell? ⟨g7, 0, none⟩ = some (.int .u32 (x : Int)) ∧ W.cell? ⟨g7, 1, none⟩ = some (.int .u8 (m : Int)) ∧ W.cell? ⟨g7, 2, none⟩ = some (.int .u8 (t : Int)) ∧
        W.cell? ⟨g8, 0, none⟩ = some (.int .u32 (y : Int)) ∧ W.cell? ⟨g8, 1, none⟩ = some (.int .u8 (m : Int)) ∧ W.cell? ⟨g8, 2, none⟩ = some (.int .u8 (t : Int))) :=
      fun W hs => ⟨hs, (hA.out.1.stays hs).cells.1, (hA.out.1.stays hs).cells.2.1, (hA.out.1.stays hs).cells.2.2.1, (hA.out.2.1.stays hs).cells.1, (hA.out.2.1.stays hs).cells.2.1, (hA.out.2.1.stays hs).cells.2.2.1, (hA.out.2.2.1.stays hs).cells.1, (hA.out.2.2.1.stays hs).cells.2.1, (hA.out.2.2.1.stays hs).cells.2.2.1⟩
    have hcur : Stp [] wc [] wc.drew := Stp.drew _ _
    obtain ⟨bo, f4⟩ : ∃ b, hs f o = b := ⟨_, rfl⟩
    rw [f4] at f3 f5
    have hbb : (bo == bo) = true := by cases bo <;> rfl
    have hz : ((k : Int) == 0) = true := by rw [hkz]; exact decide_eq_true HK0.out
    have hzN : (k == 0) = true := by rw [HK0.out]; rfl
    clear fb hkz
    go_upto_region 3 with fail
    refine wp_region_held_drew (S := (fun W => W.cell? ⟨g0, 0, none⟩ = some (.int .u32 (f : Int)) ∧ W.cell? ⟨g0, 1, none⟩ = some (.int .u8 (m : Int)) ∧ W.cell? ⟨g0, 2, none⟩ = some (.int .u8 (t : Int)) ∧ W.cell? ⟨g7, 0, none⟩ = some (.int .u32 (x : Int)) ∧ W.cell? ⟨g7, 1, none⟩ = some (.int .u8 (m : Int)) ∧ W.cell? ⟨g7, 2, none⟩ = some (.int .u8 (t : Int)) ∧ W.cell? ⟨g8, 0, none⟩ = some (.int .u32 (y : Int)) ∧ W.cell? ⟨g8, 1, none⟩ = some (.int .u8 (m : Int)) ∧ W.cell? ⟨g8, 2, none⟩ = some (.int .u8 (t : Int)))) (by kernel_rfl) (hk1.out _ hcur).2 (fun hHeld => ?_)
    refine wpAnyH_ready (rs := [0]) (by kernel_rfl) (by simp) ?_
    refine AllReadyH.cons rfl (fun K hK => ?_) AllReadyH.nil
    go_simp
    go_wp2_with (go_at_call 5; refine (K5.out _ (hA.out.2.2.2.trans hcur)).mono ?_; rintro _ z1 ⟨rfl, s1⟩; replace hcur := hcur.trans s1; clear s1)
    clear hHeld
    refine hK.out _ _ (hk1.out _ hcur).2 (fun hHeld => ?_)
    clear hK K
    refine wpAnyH_take (i := 1) (oi := { dst := some 20, op := Op.move (Operand.tmp 19), type := 4, pos := "law.go:71", after := #[{ on := 0, ground := Ground.data }, { on := 0, ground := Ground.chain }], guard := none }) (v := .bool true) rfl (by kernel_rfl) (by kernel_rfl) (by kernel_rfl) (fun _ _ _ h => h) (Or.inl ⟨by rfl, fun w' hSw => ?_⟩) hHeld ?_
    · dsimp only at hSw
      go_simp
    simp only [Act.put, List.setIfInBounds_toArray, List.set_cons_zero, List.set_cons_succ]
    refine wpAnyH_take (i := 2) (oi := { dst := some 21, op := Op.load 24 (Operand.tmp 7), type := 24, pos := "law.go:71", after := #[{ on := 1, ground := Ground.guard }], guard := some (1, true) }) (v := .agg #[.int .u32 (x : Int), .int .u8 (m : Int), .int .u8 (t : Int)]) rfl (by kernel_rfl) (by kernel_rfl) (by kernel_rfl) (fun _ _ _ h => h) (Or.inl ⟨by rfl, fun w' hSw => ?_⟩) hHeld ?_
    · dsimp only at hSw
      go_simp
    simp only [Act.put, List.setIfInBounds_toArray, List.set_cons_zero, List.set_cons_succ]
    refine wpAnyH_take (i := 3) (oi := { dst := some 22, op := Op.move (Operand.tmp 1), type := 22, pos := "law.go:71", after := #[{ on := 1, ground := Ground.guard }], guard := some (1, true) }) (v := .int .u32 (k : Int)) rfl (by kernel_rfl) (by kernel_rfl) (by kernel_rfl) (fun _ _ _ h => h) (Or.inl ⟨by rfl, fun w' hSw => ?_⟩) hHeld ?_
    · dsimp only at hSw
      go_simp
    simp only [Act.put, List.setIfInBounds_toArray, List.set_cons_zero, List.set_cons_succ]
    refine wpAnyH_ready (rs := [4]) (by kernel_rfl) (by simp) ?_
    refine AllReadyH.cons rfl (fun K hK => ?_) AllReadyH.nil
    go_simp
    go_wp2_with (go_at_call 6; refine (KH.out _ _ _ _ _ (by assumption) (by assumption)).mono ?_; rintro _ z2 ⟨rfl, s2⟩; replace hcur := hcur.trans s2; clear s2; simp only [f1])
    clear hHeld
    refine hK.out _ _ (hk1.out _ hcur).2 (fun hHeld => ?_)
    clear hK K
    refine wpAnyH_take (i := 5) (oi := { dst := some 24, op := Op.pick (Operand.tmp 20) (Operand.tmp 23) (Operand.const (Value.bool false)), type := 4, pos := "law.go:71", after := #[{ on := 1, ground := Ground.data }, { on := 4, ground := Ground.data }], guard := none }) (v := .bool true) rfl (by kernel_rfl) (by kernel_rfl) (by kernel_rfl) (fun _ _ _ h => h) (Or.inl ⟨by rfl, fun w' hSw => ?_⟩) hHeld ?_
    · dsimp only at hSw
      go_simp
    simp only [Act.put, List.setIfInBounds_toArray, List.set_cons_zero, List.set_cons_succ]
    refine wpAnyH_take (i := 6) (oi := { dst := some 25, op := Op.move (Operand.tmp 24), type := 4, pos := "law.go:71", after := #[{ on := 5, ground := Ground.data }, { on := 4, ground := Ground.chain }], guard := none }) (v := .bool true) rfl (by kernel_rfl) (by kernel_rfl) (by kernel_rfl) (fun _ _ _ h => h) (Or.inl ⟨by rfl, fun w' hSw => ?_⟩) hHeld ?_
    · dsimp only at hSw
      go_simp
    simp only [Act.put, List.setIfInBounds_toArray, List.set_cons_zero, List.set_cons_succ]
    refine wpAnyH_take (i := 7) (oi := { dst := some 26, op := Op.move (Operand.tmp 1), type := 22, pos := "law.go:71", after := #[{ on := 6, ground := Ground.guard }], guard := some (6, true) }) (v := .int .u32 (k : Int)) rfl (by kernel_rfl) (by kernel_rfl) (by kernel_rfl) (fun _ _ _ h => h) (Or.inl ⟨by rfl, fun w' hSw => ?_⟩) hHeld ?_
    · dsimp only at hSw
      go_simp
    simp only [Act.put, List.setIfInBounds_toArray, List.set_cons_zero, List.set_cons_succ]
    refine wpAnyH_take (i := 8) (oi := { dst := some 27, op := Op.binOp BinOp.eql 22 (Operand.tmp 26) (Operand.const (Value.int IntKind.u32 0)) 22, type := 4, pos := "law.go:71", after := #[{ on := 7, ground := Ground.data }, { on := 6, ground := Ground.guard }], guard := some (6, true) }) (v := .bool true) rfl (by kernel_rfl) (by kernel_rfl) (by kernel_rfl) (fun _ _ _ h => h) (Or.inl ⟨by rfl, fun w' hSw => ?_⟩) hHeld ?_
    · dsimp only at hSw
      go_simp
    simp only [Act.put, List.setIfInBounds_toArray, List.set_cons_zero, List.set_cons_succ]
    refine wpAnyH_take (i := 9) (oi := { dst := some 28, op := Op.move (Operand.tmp 27), type := 4, pos := "law.go:71", after := #[{ on := 8, ground := Ground.data }, { on := 6, ground := Ground.chain }, { on := 6, ground := Ground.guard }], guard := some (6, true) }) (v := .bool true) rfl (by kernel_rfl) (by kernel_rfl) (by kernel_rfl) (fun _ _ _ h => h) (Or.inl ⟨by rfl, fun w' hSw => ?_⟩) hHeld ?_
    · dsimp only at hSw
      go_simp
    simp only [Act.put, List.setIfInBounds_toArray, List.set_cons_zero, List.set_cons_succ]
    refine wpAnyH_take (i := 10) (oi := { dst := some 29, op := Op.load 24 (Operand.tmp 8), type := 24, pos := "law.go:71", after := #[{ on := 9, ground := Ground.guard }], guard := some (9, false) }) (v := undef) rfl (by kernel_rfl) (by kernel_rfl) (by kernel_rfl) (fun _ _ _ h => h) (Or.inr ⟨by rfl, rfl⟩) hHeld ?_
    simp only [Act.put, List.setIfInBounds_toArray, List.set_cons_zero, List.set_cons_succ]
    refine wpAnyH_take (i := 11) (oi := { dst := some 30, op := Op.move (Operand.tmp 1), type := 22, pos := "law.go:71", after := #[{ on := 9, ground := Ground.guard }], guard := some (9, false) }) (v := undef) rfl (by kernel_rfl) (by kernel_rfl) (by kernel_rfl) (fun _ _ _ h => h) (Or.inr ⟨by rfl, rfl⟩) hHeld ?_
    simp only [Act.put, List.setIfInBounds_toArray, List.set_cons_zero, List.set_cons_succ]
    refine wpAnyH_ready (rs := [12]) (by kernel_rfl) (by simp) ?_
    refine AllReadyH.cons rfl (fun K hK => ?_) AllReadyH.nil
    go_simp
    clear hHeld
    refine hK.out _ _ (hk1.out _ hcur).2 (fun hHeld => ?_)
    clear hK K
    refine wpAnyH_take (i := 13) (oi := { dst := some 32, op := Op.unOp UnOp.not 4 (Operand.tmp 31), type := 4, pos := "law.go:71", after := #[{ on := 12, ground := Ground.data }, { on := 9, ground := Ground.guard }], guard := some (9, false) }) (v := undef) rfl (by kernel_rfl) (by kernel_rfl) (by kernel_rfl) (fun _ _ _ h => h) (Or.inr ⟨by rfl, rfl⟩) hHeld ?_
    simp only [Act.put, List.setIfInBounds_toArray, List.set_cons_zero, List.set_cons_succ]
    refine wpAnyH_take (i := 14) (oi := { dst := some 33, op := Op.pick (Operand.tmp 28) (Operand.const (Value.bool true)) (Operand.tmp 32), type := 4, pos := "law.go:71", after := #[{ on := 9, ground := Ground.data }, { on := 13, ground := Ground.data }, { on := 6, ground := Ground.guard }], guard := some (6, true) }) (v := .bool true) rfl (by kernel_rfl) (by kernel_rfl) (by kernel_rfl) (fun _ _ _ h => h) (Or.inl ⟨by rfl, fun w' hSw => ?_⟩) hHeld ?_
    · dsimp only at hSw
      go_simp
    simp only [Act.put, List.setIfInBounds_toArray, List.set_cons_zero, List.set_cons_succ]
    refine wpAnyH_take (i := 15) (oi := { dst := some 34, op := Op.pick (Operand.tmp 25) (Operand.tmp 33) (Operand.const (Value.bool false)), type := 4, pos := "law.go:71", after := #[{ on := 6, ground := Ground.data }, { on := 14, ground := Ground.data }], guard := none }) (v := .bool true) rfl (by kernel_rfl) (by kernel_rfl) (by kernel_rfl) (fun _ _ _ h => h) (Or.inl ⟨by rfl, fun w' hSw => ?_⟩) hHeld ?_
    · dsimp only at hSw
      go_simp
    simp only [Act.put, List.setIfInBounds_toArray, List.set_cons_zero, List.set_cons_succ]
    refine wpAnyH_take (i := 16) (oi := { dst := some 35, op := Op.move (Operand.tmp 34), type := 4, pos := "law.go:71", after := #[{ on := 15, ground := Ground.data }, { on := 12, ground := Ground.chain }], guard := none }) (v := .bool true) rfl (by kernel_rfl) (by kernel_rfl) (by kernel_rfl) (fun _ _ _ h => h) (Or.inl ⟨by rfl, fun w' hSw => ?_⟩) hHeld ?_
    · dsimp only at hSw
      go_simp
    simp only [Act.put, List.setIfInBounds_toArray, List.set_cons_zero, List.set_cons_succ]
    refine wpAnyH_take (i := 17) (oi := { dst := some 36, op := Op.load 24 (Operand.tmp 7), type := 24, pos := "law.go:71", after := #[{ on := 16, ground := Ground.guard }], guard := some (16, true) }) (v := .agg #[.int .u32 (x : Int), .int .u8 (m : Int), .int .u8 (t : Int)]) rfl (by kernel_rfl) (by kernel_rfl) (by kernel_rfl) (fun _ _ _ h => h) (Or.inl ⟨by rfl, fun w' hSw => ?_⟩) hHeld ?_
    · dsimp only at hSw
      go_simp
    simp only [Act.put, List.setIfInBounds_toArray, List.set_cons_zero, List.set_cons_succ]
    refine wpAnyH_take (i := 18) (oi := { dst := some 37, op := Op.move (Operand.tmp 9), type := 22, pos := "law.go:71", after := #[{ on := 16, ground := Ground.guard }], guard := some (16, true) }) (v := .int .u32 (o : Int)) rfl (by kernel_rfl) (by kernel_rfl) (by kernel_rfl) (fun _ _ _ h => h) (Or.inl ⟨by rfl, fun w' hSw => ?_⟩) hHeld ?_
    · dsimp only at hSw
      go_simp
    simp only [Act.put, List.setIfInBounds_toArray, List.set_cons_zero, List.set_cons_succ]
    refine wpAnyH_take (i := 20) (oi := { dst := some 39, op := Op.load 24 (Operand.tmp 3), type := 24, pos := "law.go:71", after := #[{ on := 16, ground := Ground.guard }], guard := some (16, true) }) (v := .agg #[.int .u32 (f : Int), .int .u8 (m : Int), .int .u8 (t : Int)]) rfl (by kernel_rfl) (by kernel_rfl) (by kernel_rfl) (fun _ _ _ h => h) (Or.inl ⟨by rfl, fun w' hSw => ?_⟩) hHeld ?_
    · dsimp only at hSw
      go_simp
    simp only [Act.put, List.setIfInBounds_toArray, List.set_cons_zero, List.set_cons_succ]
    refine wpAnyH_take (i := 21) (oi := { dst := some 40, op := Op.move (Operand.tmp 9), type := 22, pos := "law.go:71", after := #[{ on := 16, ground := Ground.guard }], guard := some (16, true) }) (v := .int .u32 (o : Int)) rfl (by kernel_rfl) (by kernel_rfl) (by kernel_rfl) (fun _ _ _ h => h) (Or.inl ⟨by rfl, fun w' hSw => ?_⟩) hHeld ?_
    · dsimp only at hSw
      go_simp
    simp only [Act.put, List.setIfInBounds_toArray, List.set_cons_zero, List.set_cons_succ]
    refine wpAnyH_ready (rs := [19]) (by kernel_rfl) (by simp) ?_
    refine AllReadyH.cons rfl (fun K hK => ?_) AllReadyH.nil
    go_simp
    go_wp2_with (go_at_call 6; refine (KH.out _ _ _ _ _ (by assumption) (by assumption)).mono ?_; rintro _ z2 ⟨rfl, s2⟩; replace hcur := hcur.trans s2; clear s2; simp only [f3])
    clear hHeld
    refine hK.out _ _ (hk1.out _ hcur).2 (fun hHeld => ?_)
    clear hK K
    refine wpAnyH_ready (rs := [22]) (by kernel_rfl) (by simp) ?_
    refine AllReadyH.cons rfl (fun K hK => ?_) AllReadyH.nil
    go_simp
    go_wp2_with (go_at_call 6; refine (KH.out _ _ _ _ _ (by assumption) (by assumption)).mono ?_; rintro _ z2 ⟨rfl, s2⟩; replace hcur := hcur.trans s2; clear s2; simp only [f4])
    clear hHeld
    refine hK.out _ _ (hk1.out _ hcur).2 (fun hHeld => ?_)
    clear hK K
    refine wpAnyH_take (i := 23) (oi := { dst := some 42, op := Op.binOp BinOp.eql 4 (Operand.tmp 38) (Operand.tmp 41) 4, type := 4, pos := "law.go:71", after := #[{ on := 19, ground := Ground.data }, { on := 22, ground := Ground.data }, { on := 16, ground := Ground.guard }], guard := some (16, true) }) (v := .bool true) rfl (by kernel_rfl) (by kernel_rfl) (by kernel_rfl) (fun _ _ _ h => h) (Or.inl ⟨by rfl, fun w' hSw => ?_⟩) hHeld ?_
    · dsimp only at hSw
      go_simp
    simp only [Act.put, List.setIfInBounds_toArray, List.set_cons_zero, List.set_cons_succ]
    refine wpAnyH_take (i := 24) (oi := { dst := some 43, op := Op.pick (Operand.tmp 35) (Operand.tmp 42) (Operand.const (Value.bool false)), type := 4, pos := "law.go:71", after := #[{ on := 16, ground := Ground.data }, { on := 23, ground := Ground.data }], guard := none }) (v := .bool true) rfl (by kernel_rfl) (by kernel_rfl) (by kernel_rfl) (fun _ _ _ h => h) (Or.inl ⟨by rfl, fun w' hSw => ?_⟩) hHeld ?_
    · dsimp only at hSw
      go_simp
    simp only [Act.put, List.setIfInBounds_toArray, List.set_cons_zero, List.set_cons_succ]
    refine wpAnyH_take (i := 25) (oi := { dst := some 44, op := Op.move (Operand.tmp 43), type := 4, pos := "law.go:71", after := #[{ on := 24, ground := Ground.data }, { on := 22, ground := Ground.chain }], guard := none }) (v := .bool true) rfl (by kernel_rfl) (by kernel_rfl) (by kernel_rfl) (fun _ _ _ h => h) (Or.inl ⟨by rfl, fun w' hSw => ?_⟩) hHeld ?_
    · dsimp only at hSw
      go_simp
    simp only [Act.put, List.setIfInBounds_toArray, List.set_cons_zero, List.set_cons_succ]
    refine wpAnyH_take (i := 26) (oi := { dst := some 45, op := Op.load 24 (Operand.tmp 8), type := 24, pos := "law.go:71", after := #[{ on := 25, ground := Ground.guard }], guard := some (25, true) }) (v := .agg #[.int .u32 (y : Int), .int .u8 (m : Int), .int .u8 (t : Int)]) rfl (by kernel_rfl) (by kernel_rfl) (by kernel_rfl) (fun _ _ _ h => h) (Or.inl ⟨by rfl, fun w' hSw => ?_⟩) hHeld ?_
    · dsimp only at hSw
      go_simp
    simp only [Act.put, List.setIfInBounds_toArray, List.set_cons_zero, List.set_cons_succ]
    refine wpAnyH_take (i := 27) (oi := { dst := some 46, op := Op.move (Operand.tmp 9), type := 22, pos := "law.go:71", after := #[{ on := 25, ground := Ground.guard }], guard := some (25, true) }) (v := .int .u32 (o : Int)) rfl (by kernel_rfl) (by kernel_rfl) (by kernel_rfl) (fun _ _ _ h => h) (Or.inl ⟨by rfl, fun w' hSw => ?_⟩) hHeld ?_
    · dsimp only at hSw
      go_simp
    simp only [Act.put, List.setIfInBounds_toArray, List.set_cons_zero, List.set_cons_succ]
    refine wpAnyH_take (i := 29) (oi := { dst := some 48, op := Op.load 24 (Operand.tmp 3), type := 24, pos := "law.go:71", after := #[{ on := 25, ground := Ground.guard }], guard := some (25, true) }) (v := .agg #[.int .u32 (f : Int), .int .u8 (m : Int), .int .u8 (t : Int)]) rfl (by kernel_rfl) (by kernel_rfl) (by kernel_rfl) (fun _ _ _ h => h) (Or.inl ⟨by rfl, fun w' hSw => ?_⟩) hHeld ?_
    · dsimp only at hSw
      go_simp
    simp only [Act.put, List.setIfInBounds_toArray, List.set_cons_zero, List.set_cons_succ]
    refine wpAnyH_take (i := 30) (oi := { dst := some 49, op := Op.move (Operand.tmp 9), type := 22, pos := "law.go:71", after := #[{ on := 25, ground := Ground.guard }], guard := some (25, true) }) (v := .int .u32 (o : Int)) rfl (by kernel_rfl) (by kernel_rfl) (by kernel_rfl) (fun _ _ _ h => h) (Or.inl ⟨by rfl, fun w' hSw => ?_⟩) hHeld ?_
    · dsimp only at hSw
      go_simp
    simp only [Act.put, List.setIfInBounds_toArray, List.set_cons_zero, List.set_cons_succ]
    refine wpAnyH_ready (rs := [28]) (by kernel_rfl) (by simp) ?_
    refine AllReadyH.cons rfl (fun K hK => ?_) AllReadyH.nil
    go_simp
    go_wp2_with (go_at_call 6; refine (KH.out _ _ _ _ _ (by assumption) (by assumption)).mono ?_; rintro _ z2 ⟨rfl, s2⟩; replace hcur := hcur.trans s2; clear s2; simp only [f5])
    clear hHeld
    refine hK.out _ _ (hk1.out _ hcur).2 (fun hHeld => ?_)
    clear hK K
    refine wpAnyH_ready (rs := [31]) (by kernel_rfl) (by simp) ?_
    refine AllReadyH.cons rfl (fun K hK => ?_) AllReadyH.nil
    go_simp
    go_wp2_with (go_at_call 6; refine (KH.out _ _ _ _ _ (by assumption) (by assumption)).mono ?_; rintro _ z2 ⟨rfl, s2⟩; replace hcur := hcur.trans s2; clear s2; simp only [f4])
    clear hHeld
    refine hK.out _ _ (hk1.out _ hcur).2 (fun hHeld => ?_)
    clear hK K
    refine wpAnyH_take (i := 32) (oi := { dst := some 51, op := Op.binOp BinOp.eql 4 (Operand.tmp 47) (Operand.tmp 50) 4, type := 4, pos := "law.go:71", after := #[{ on := 28, ground := Ground.data }, { on := 31, ground := Ground.data }, { on := 25, ground := Ground.guard }], guard := some (25, true) }) (v := .bool true) rfl (by kernel_rfl) (by kernel_rfl) (by kernel_rfl) (fun _ _ _ h => h) (Or.inl ⟨by rfl, fun w' hSw => ?_⟩) hHeld ?_
    · dsimp only at hSw
      go_simp
    simp only [Act.put, List.setIfInBounds_toArray, List.set_cons_zero, List.set_cons_succ]
    refine wpAnyH_take (i := 33) (oi := { dst := some 52, op := Op.pick (Operand.tmp 44) (Operand.tmp 51) (Operand.const (Value.bool false)), type := 4, pos := "law.go:71", after := #[{ on := 25, ground := Ground.data }, { on := 32, ground := Ground.data }], guard := none }) (v := .bool true) rfl (by kernel_rfl) (by kernel_rfl) (by kernel_rfl) (fun _ _ _ h => h) (Or.inl ⟨by rfl, fun w' hSw => ?_⟩) hHeld ?_
    · dsimp only at hSw
      go_simp
    simp only [Act.put, List.setIfInBounds_toArray, List.set_cons_zero, List.set_cons_succ]
    refine wpAnyH_take (i := 34) (oi := { dst := some 53, op := Op.move (Operand.tmp 52), type := 4, pos := "law.go:71", after := #[{ on := 33, ground := Ground.data }, { on := 31, ground := Ground.chain }], guard := none }) (v := .bool true) rfl (by kernel_rfl) (by kernel_rfl) (by kernel_rfl) (fun _ _ _ h => h) (Or.inl ⟨by rfl, fun w' hSw => ?_⟩) hHeld ?_
    · dsimp only at hSw
      go_simp
    simp only [Act.put, List.setIfInBounds_toArray, List.set_cons_zero, List.set_cons_succ]
    refine wpAnyH_take (i := 35) (oi := { dst := some 54, op := Op.load 24 (Operand.tmp 7), type := 24, pos := "law.go:71", after := #[{ on := 34, ground := Ground.guard }], guard := some (34, true) }) (v := .agg #[.int .u32 (x : Int), .int .u8 (m : Int), .int .u8 (t : Int)]) rfl (by kernel_rfl) (by kernel_rfl) (by kernel_rfl) (fun _ _ _ h => h) (Or.inl ⟨by rfl, fun w' hSw => ?_⟩) hHeld ?_
    · dsimp only at hSw
      go_simp
    simp only [Act.put, List.setIfInBounds_toArray, List.set_cons_zero, List.set_cons_succ]
    refine wpAnyH_take (i := 36) (oi := { dst := some 55, op := Op.move (Operand.tmp 1), type := 22, pos := "law.go:71", after := #[{ on := 34, ground := Ground.guard }], guard := some (34, true) }) (v := .int .u32 (k : Int)) rfl (by kernel_rfl) (by kernel_rfl) (by kernel_rfl) (fun _ _ _ h => h) (Or.inl ⟨by rfl, fun w' hSw => ?_⟩) hHeld ?_
    · dsimp only at hSw
      go_simp
    simp only [Act.put, List.setIfInBounds_toArray, List.set_cons_zero, List.set_cons_succ]
    refine wpAnyH_take (i := 38) (oi := { dst := some 57, op := Op.load 24 (Operand.tmp 7), type := 24, pos := "law.go:71", after := #[{ on := 34, ground := Ground.guard }], guard := some (34, true) }) (v := .agg #[.int .u32 (x : Int), .int .u8 (m : Int), .int .u8 (t : Int)]) rfl (by kernel_rfl) (by kernel_rfl) (by kernel_rfl) (fun _ _ _ h => h) (Or.inl ⟨by rfl, fun w' hSw => ?_⟩) hHeld ?_
    · dsimp only at hSw
      go_simp
    simp only [Act.put, List.setIfInBounds_toArray, List.set_cons_zero, List.set_cons_succ]
    refine wpAnyH_ready (rs := [37]) (by kernel_rfl) (by simp) ?_
    refine AllReadyH.cons rfl (fun K hK => ?_) AllReadyH.nil
    go_simp
    go_wp2_with (go_at_call 4; refine (KW.out _ _ _ _ _ _ (by assumption) (by assumption)).mono ?_; rintro _ z3 ⟨rfl, s3⟩; replace hcur := hcur.trans s3; clear s3; simp only [f6])
    clear hHeld
    refine hK.out _ _ (hk1.out _ hcur).2 (fun hHeld => ?_)
    clear hK K
    refine wpAnyH_take (i := 39) (oi := { dst := some 58, op := Op.binOp BinOp.eql 24 (Operand.tmp 56) (Operand.tmp 57) 24, type := 4, pos := "law.go:71", after := #[{ on := 37, ground := Ground.data }, { on := 38, ground := Ground.data }, { on := 34, ground := Ground.guard }], guard := some (34, true) }) (v := .bool true) rfl (by kernel_rfl) (by kernel_rfl) (by kernel_rfl) (fun _ _ _ h => h) (Or.inl ⟨by rfl, fun w' hSw => ?_⟩) hHeld ?_
    · dsimp only at hSw
      go_simp
    simp only [Act.put, List.setIfInBounds_toArray, List.set_cons_zero, List.set_cons_succ]
    refine wpAnyH_take (i := 40) (oi := { dst := some 59, op := Op.pick (Operand.tmp 53) (Operand.tmp 58) (Operand.const (Value.bool false)), type := 4, pos := "law.go:71", after := #[{ on := 34, ground := Ground.data }, { on := 39, ground := Ground.data }], guard := none }) (v := .bool true) rfl (by kernel_rfl) (by kernel_rfl) (by kernel_rfl) (fun _ _ _ h => h) (Or.inl ⟨by rfl, fun w' hSw => ?_⟩) hHeld ?_
    · dsimp only at hSw
      go_simp
    simp only [Act.put, List.setIfInBounds_toArray, List.set_cons_zero, List.set_cons_succ]
    refine wpAnyH_take (i := 41) (oi := { dst := some 60, op := Op.move (Operand.tmp 59), type := 4, pos := "law.go:71", after := #[{ on := 40, ground := Ground.data }, { on := 37, ground := Ground.chain }], guard := none }) (v := .bool true) rfl (by kernel_rfl) (by kernel_rfl) (by kernel_rfl) (fun _ _ _ h => h) (Or.inl ⟨by rfl, fun w' hSw => ?_⟩) hHeld ?_
    · dsimp only at hSw
      go_simp
    simp only [Act.put, List.setIfInBounds_toArray, List.set_cons_zero, List.set_cons_succ]
    refine wpAnyH_take (i := 42) (oi := { dst := some 61, op := Op.load 24 (Operand.tmp 7), type := 24, pos := "law.go:71", after := #[{ on := 41, ground := Ground.guard }], guard := some (41, true) }) (v := .agg #[.int .u32 (x : Int), .int .u8 (m : Int), .int .u8 (t : Int)]) rfl (by kernel_rfl) (by kernel_rfl) (by kernel_rfl) (fun _ _ _ h => h) (Or.inl ⟨by rfl, fun w' hSw => ?_⟩) hHeld ?_
    · dsimp only at hSw
      go_simp
    simp only [Act.put, List.setIfInBounds_toArray, List.set_cons_zero, List.set_cons_succ]
    refine wpAnyH_take (i := 43) (oi := { dst := some 62, op := Op.move (Operand.tmp 1), type := 22, pos := "law.go:71", after := #[{ on := 41, ground := Ground.guard }], guard := some (41, true) }) (v := .int .u32 (k : Int)) rfl (by kernel_rfl) (by kernel_rfl) (by kernel_rfl) (fun _ _ _ h => h) (Or.inl ⟨by rfl, fun w' hSw => ?_⟩) hHeld ?_
    · dsimp only at hSw
      go_simp
    simp only [Act.put, List.setIfInBounds_toArray, List.set_cons_zero, List.set_cons_succ]
    refine wpAnyH_take (i := 45) (oi := { dst := some 64, op := Op.load 24 (Operand.tmp 8), type := 24, pos := "law.go:71", after := #[{ on := 41, ground := Ground.guard }], guard := some (41, true) }) (v := .agg #[.int .u32 (y : Int), .int .u8 (m : Int), .int .u8 (t : Int)]) rfl (by kernel_rfl) (by kernel_rfl) (by kernel_rfl) (fun _ _ _ h => h) (Or.inl ⟨by rfl, fun w' hSw => ?_⟩) hHeld ?_
    · dsimp only at hSw
      go_simp
    simp only [Act.put, List.setIfInBounds_toArray, List.set_cons_zero, List.set_cons_succ]
    refine wpAnyH_ready (rs := [44]) (by kernel_rfl) (by simp) ?_
    refine AllReadyH.cons rfl (fun K hK => ?_) AllReadyH.nil
    go_simp
    go_wp2_with (go_at_call 4; refine (KW.out _ _ _ _ _ _ (by assumption) (by assumption)).mono ?_; rintro _ z3 ⟨rfl, s3⟩; replace hcur := hcur.trans s3; clear s3; simp only [f7])
    clear hHeld
    refine hK.out _ _ (hk1.out _ hcur).2 (fun hHeld => ?_)
    clear hK K
    refine wpAnyH_take (i := 46) (oi := { dst := some 65, op := Op.binOp BinOp.eql 24 (Operand.tmp 63) (Operand.tmp 64) 24, type := 4, pos := "law.go:71", after := #[{ on := 44, ground := Ground.data }, { on := 45, ground := Ground.data }, { on := 41, ground := Ground.guard }], guard := some (41, true) }) (v := .bool true) rfl (by kernel_rfl) (by kernel_rfl) (by kernel_rfl) (fun _ _ _ h => h) (Or.inl ⟨by rfl, fun w' hSw => ?_⟩) hHeld ?_
    · dsimp only at hSw
      go_simp
    simp only [Act.put, List.setIfInBounds_toArray, List.set_cons_zero, List.set_cons_succ]
    refine wpAnyH_take (i := 47) (oi := { dst := some 66, op := Op.pick (Operand.tmp 60) (Operand.tmp 65) (Operand.const (Value.bool false)), type := 4, pos := "law.go:71", after := #[{ on := 41, ground := Ground.data }, { on := 46, ground := Ground.data }], guard := none }) (v := .bool true) rfl (by kernel_rfl) (by kernel_rfl) (by kernel_rfl) (fun _ _ _ h => h) (Or.inl ⟨by rfl, fun w' hSw => ?_⟩) hHeld ?_
    · dsimp only at hSw
      go_simp
    simp only [Act.put, List.setIfInBounds_toArray, List.set_cons_zero, List.set_cons_succ]
    refine wpAnyH_take (i := 48) (oi := { dst := some 67, op := Op.move (Operand.tmp 66), type := 4, pos := "law.go:71", after := #[{ on := 47, ground := Ground.data }, { on := 44, ground := Ground.chain }], guard := none }) (v := .bool true) rfl (by kernel_rfl) (by kernel_rfl) (by kernel_rfl) (fun _ _ _ h => h) (Or.inl ⟨by rfl, fun w' hSw => ?_⟩) hHeld ?_
    · dsimp only at hSw
      go_simp
    simp only [Act.put, List.setIfInBounds_toArray, List.set_cons_zero, List.set_cons_succ]
    refine wpAnyH_take (i := 49) (oi := { dst := some 68, op := Op.fieldAddr 24 (Operand.tmp 7) 1, type := 0, pos := "law.go:71", after := #[{ on := 48, ground := Ground.guard }], guard := some (48, true) }) (v := .pointer (some ⟨g7, 1, none⟩)) rfl (by kernel_rfl) (by kernel_rfl) (by kernel_rfl) (fun _ _ _ h => h) (Or.inl ⟨by rfl, fun w' hSw => ?_⟩) hHeld ?_
    · dsimp only at hSw
      go_simp
    simp only [Act.put, List.setIfInBounds_toArray, List.set_cons_zero, List.set_cons_succ]
    refine wpAnyH_take (i := 50) (oi := { dst := some 69, op := Op.load 5 (Operand.tmp 68), type := 5, pos := "law.go:71", after := #[{ on := 49, ground := Ground.data }, { on := 48, ground := Ground.guard }], guard := some (48, true) }) (v := .int .u8 (m : Int)) rfl (by kernel_rfl) (by kernel_rfl) (by kernel_rfl) (fun _ _ _ h => h) (Or.inl ⟨by rfl, fun w' hSw => ?_⟩) hHeld ?_
    · dsimp only at hSw
      go_simp
    simp only [Act.put, List.setIfInBounds_toArray, List.set_cons_zero, List.set_cons_succ]
    refine wpAnyH_take (i := 51) (oi := { dst := some 70, op := Op.fieldAddr 24 (Operand.tmp 3) 1, type := 0, pos := "law.go:71", after := #[{ on := 48, ground := Ground.guard }], guard := some (48, true) }) (v := .pointer (some ⟨g0, 1, none⟩)) rfl (by kernel_rfl) (by kernel_rfl) (by kernel_rfl) (fun _ _ _ h => h) (Or.inl ⟨by rfl, fun w' hSw => ?_⟩) hHeld ?_
    · dsimp only at hSw
      go_simp
    simp only [Act.put, List.setIfInBounds_toArray, List.set_cons_zero, List.set_cons_succ]
    refine wpAnyH_take (i := 52) (oi := { dst := some 71, op := Op.load 5 (Operand.tmp 70), type := 5, pos := "law.go:71", after := #[{ on := 51, ground := Ground.data }, { on := 48, ground := Ground.guard }], guard := some (48, true) }) (v := .int .u8 (m : Int)) rfl (by kernel_rfl) (by kernel_rfl) (by kernel_rfl) (fun _ _ _ h => h) (Or.inl ⟨by rfl, fun w' hSw => ?_⟩) hHeld ?_
    · dsimp only at hSw
      go_simp
    simp only [Act.put, List.setIfInBounds_toArray, List.set_cons_zero, List.set_cons_succ]
    refine wpAnyH_take (i := 53) (oi := { dst := some 72, op := Op.binOp BinOp.eql 5 (Operand.tmp 69) (Operand.tmp 71) 5, type := 4, pos := "law.go:71", after := #[{ on := 50, ground := Ground.data }, { on := 52, ground := Ground.data }, { on := 48, ground := Ground.guard }], guard := some (48, true) }) (v := .bool true) rfl (by kernel_rfl) (by kernel_rfl) (by kernel_rfl) (fun _ _ _ h => h) (Or.inl ⟨by rfl, fun w' hSw => ?_⟩) hHeld ?_
    · dsimp only at hSw
      go_simp
    simp only [Act.put, List.setIfInBounds_toArray, List.set_cons_zero, List.set_cons_succ]
    refine wpAnyH_take (i := 54) (oi := { dst := some 73, op := Op.pick (Operand.tmp 67) (Operand.tmp 72) (Operand.const (Value.bool false)), type := 4, pos := "law.go:71", after := #[{ on := 48, ground := Ground.data }, { on := 53, ground := Ground.data }], guard := none }) (v := .bool true) rfl (by kernel_rfl) (by kernel_rfl) (by kernel_rfl) (fun _ _ _ h => h) (Or.inl ⟨by rfl, fun w' hSw => ?_⟩) hHeld ?_
    · dsimp only at hSw
      go_simp
    simp only [Act.put, List.setIfInBounds_toArray, List.set_cons_zero, List.set_cons_succ]
    refine wpAnyH_take (i := 55) (oi := { dst := some 74, op := Op.move (Operand.tmp 73), type := 4, pos := "law.go:71", after := #[{ on := 54, ground := Ground.data }, { on := 48, ground := Ground.chain }], guard := none }) (v := .bool true) rfl (by kernel_rfl) (by kernel_rfl) (by kernel_rfl) (fun _ _ _ h => h) (Or.inl ⟨by rfl, fun w' hSw => ?_⟩) hHeld ?_
    · dsimp only at hSw
      go_simp
    simp only [Act.put, List.setIfInBounds_toArray, List.set_cons_zero, List.set_cons_succ]
    refine wpAnyH_take (i := 56) (oi := { dst := some 75, op := Op.fieldAddr 24 (Operand.tmp 8) 2, type := 0, pos := "law.go:71", after := #[{ on := 55, ground := Ground.guard }], guard := some (55, true) }) (v := .pointer (some ⟨g8, 2, none⟩)) rfl (by kernel_rfl) (by kernel_rfl) (by kernel_rfl) (fun _ _ _ h => h) (Or.inl ⟨by rfl, fun w' hSw => ?_⟩) hHeld ?_
    · dsimp only at hSw
      go_simp
    simp only [Act.put, List.setIfInBounds_toArray, List.set_cons_zero, List.set_cons_succ]
    refine wpAnyH_take (i := 57) (oi := { dst := some 76, op := Op.load 5 (Operand.tmp 75), type := 5, pos := "law.go:71", after := #[{ on := 56, ground := Ground.data }, { on := 55, ground := Ground.guard }], guard := some (55, true) }) (v := .int .u8 (t : Int)) rfl (by kernel_rfl) (by kernel_rfl) (by kernel_rfl) (fun _ _ _ h => h) (Or.inl ⟨by rfl, fun w' hSw => ?_⟩) hHeld ?_
    · dsimp only at hSw
      go_simp
    simp only [Act.put, List.setIfInBounds_toArray, List.set_cons_zero, List.set_cons_succ]
    refine wpAnyH_take (i := 58) (oi := { dst := some 77, op := Op.fieldAddr 24 (Operand.tmp 3) 2, type := 0, pos := "law.go:71", after := #[{ on := 55, ground := Ground.guard }], guard := some (55, true) }) (v := .pointer (some ⟨g0, 2, none⟩)) rfl (by kernel_rfl) (by kernel_rfl) (by kernel_rfl) (fun _ _ _ h => h) (Or.inl ⟨by rfl, fun w' hSw => ?_⟩) hHeld ?_
    · dsimp only at hSw
      go_simp
    simp only [Act.put, List.setIfInBounds_toArray, List.set_cons_zero, List.set_cons_succ]
    refine wpAnyH_take (i := 59) (oi := { dst := some 78, op := Op.load 5 (Operand.tmp 77), type := 5, pos := "law.go:71", after := #[{ on := 58, ground := Ground.data }, { on := 55, ground := Ground.guard }], guard := some (55, true) }) (v := .int .u8 (t : Int)) rfl (by kernel_rfl) (by kernel_rfl) (by kernel_rfl) (fun _ _ _ h => h) (Or.inl ⟨by rfl, fun w' hSw => ?_⟩) hHeld ?_
    · dsimp only at hSw
      go_simp
    simp only [Act.put, List.setIfInBounds_toArray, List.set_cons_zero, List.set_cons_succ]
    refine wpAnyH_take (i := 60) (oi := { dst := some 79, op := Op.binOp BinOp.eql 5 (Operand.tmp 76) (Operand.tmp 78) 5, type := 4, pos := "law.go:71", after := #[{ on := 57, ground := Ground.data }, { on := 59, ground := Ground.data }, { on := 55, ground := Ground.guard }], guard := some (55, true) }) (v := .bool true) rfl (by kernel_rfl) (by kernel_rfl) (by kernel_rfl) (fun _ _ _ h => h) (Or.inl ⟨by rfl, fun w' hSw => ?_⟩) hHeld ?_
    · dsimp only at hSw
      go_simp
    simp only [Act.put, List.setIfInBounds_toArray, List.set_cons_zero, List.set_cons_succ]
    refine wpAnyH_take (i := 61) (oi := { dst := some 80, op := Op.pick (Operand.tmp 74) (Operand.tmp 79) (Operand.const (Value.bool false)), type := 4, pos := "law.go:71", after := #[{ on := 55, ground := Ground.data }, { on := 60, ground := Ground.data }], guard := none }) (v := .bool true) rfl (by kernel_rfl) (by kernel_rfl) (by kernel_rfl) (fun _ _ _ h => h) (Or.inl ⟨by rfl, fun w' hSw => ?_⟩) hHeld ?_
    · dsimp only at hSw
      go_simp
    simp only [Act.put, List.setIfInBounds_toArray, List.set_cons_zero, List.set_cons_succ]
    refine wpAnyH_take (i := 62) (oi := { dst := some 6, op := Op.assign (Operand.tmp 80), type := 4, pos := "law.go:71", after := #[{ on := 61, ground := Ground.data }, { on := 55, ground := Ground.chain }, { on := 0, ground := Ground.phase }, { on := 1, ground := Ground.phase }, { on := 2, ground := Ground.phase }, { on := 3, ground := Ground.phase }, { on := 4, ground := Ground.phase }, { on := 5, ground := Ground.phase }, { on := 6, ground := Ground.phase }, { on := 7, ground := Ground.phase }, { on := 8, ground := Ground.phase }, { on := 9, ground := Ground.phase }, { on := 10, ground := Ground.phase }, { on := 11, ground := Ground.phase }, { on := 12, ground := Ground.phase }, { on := 13, ground := Ground.phase }, { on := 14, ground := Ground.phase }, { on := 15, ground := Ground.phase }, { on := 16, ground := Ground.phase }, { on := 17, ground := Ground.phase }, { on := 18, ground := Ground.phase }, { on := 19, ground := Ground.phase }, { on := 20, ground := Ground.phase }, { on := 21, ground := Ground.phase }, { on := 22, ground := Ground.phase }, { on := 23, ground := Ground.phase }, { on := 24, ground := Ground.phase }, { on := 25, ground := Ground.phase }, { on := 26, ground := Ground.phase }, { on := 27, ground := Ground.phase }, { on := 28, ground := Ground.phase }, { on := 29, ground := Ground.phase }, { on := 30, ground := Ground.phase }, { on := 31, ground := Ground.phase }, { on := 32, ground := Ground.phase }, { on := 33, ground := Ground.phase }, { on := 34, ground := Ground.phase }, { on := 35, ground := Ground.phase }, { on := 36, ground := Ground.phase }, { on := 37, ground := Ground.phase }, { on := 38, ground := Ground.phase }, { on := 39, ground := Ground.phase }, { on := 40, ground := Ground.phase }, { on := 41, ground := Ground.phase }, { on := 42, ground := Ground.phase }, { on := 43, ground := Ground.phase }, { on := 44, ground := Ground.phase }, { on := 45, ground := Ground.phase }, { on := 46, ground := Ground.phase }, { on := 47, ground := Ground.phase }, { on := 48, ground := Ground.phase }, { on := 49, ground := Ground.phase }, { on := 50, ground := Ground.phase }, { on := 51, ground := Ground.phase }, { on := 52, ground := Ground.phase }, { on := 53, ground := Ground.phase }, { on := 54, ground := Ground.phase }, { on := 55, ground := Ground.phase }, { on := 56, ground := Ground.phase }, { on := 57, ground := Ground.phase }, { on := 58, ground := Ground.phase }, { on := 59, ground := Ground.phase }, { on := 60, ground := Ground.phase }, { on := 61, ground := Ground.phase }], guard := none }) (v := .bool true) rfl (by kernel_rfl) (by kernel_rfl) (by kernel_rfl) (fun _ _ _ h => h) (Or.inl ⟨by rfl, fun w' hSw => ?_⟩) hHeld ?_
    · dsimp only at hSw
      go_simp
    simp only [Act.put, List.setIfInBounds_toArray, List.set_cons_zero, List.set_cons_succ]
    refine wpAnyH_done (by kernel_rfl) ?_ _
    go_wp2
    go_ret
    exact ⟨rfl, (hA.out.2.2.2.trans hcur).under⟩
end Go.Proofs.YtlgbdbkenalonaaDoor
