/-
  The document's Do: Right.
-/
import Derived.Test.YtblmpaplggnajaaDoorRefD4
import Derived.Deep.RegionHeld3
namespace Go.Proofs.YtblmpaplggnajaaDoor
open Go.RowKit Go.Lib
set_option linter.unusedVariables false

section
variable {F : List Nat} {W : World} {m N ca cb : Nat} {pa pb : Option Addr} {A B : List Nat}
set_option maxHeartbeats 1000000 in
set_option maxRecDepth 100000 in
theorem rdo_5n (h : Rc F W m N pa ca A pb cb B) (hl : (A ++ B).length ≤ 4096) (hp : Pr (A ++ B)) (c : Int) (h0 : B = []) :
    Calls Tryd.prog 14 #[.pointer (some ⟨m, 0, none⟩), .agg #[.int .i64 5, .int .i64 c]] W (RDone F m N ⟨0, A, B⟩ A B W) := by
  have h1 : Rc F (kw W 5 c) m N pa ca A pb cb B := h.stays (Stp.alloc [] W _)
  have c0 := h1.c0
  have c1 := h1.c1
  have hself : ∀ z : Int, (z != z) = false := fun z => by simp
  have HC := Lib.hid (chg_no (r := ⟨0, A, B⟩) (A := A) (B := B) rfl rfl)
  have HR : Aside (Rb F (kw W 5 c) m N A B) := ⟨⟨_, _, _, _, h1⟩, hp, hl⟩
  have hz : B.length = 0 := by rw [h0]; rfl
  rw [hz] at c1
  clear h h1 hl hp h0 hz
  generalize A.length = x at *
  have hb0 := hself (x : Int)
  have hb1 := hself ((0 : Nat) : Int)
  go_enter Tryd.func14, Tryd.ntmps14
  go_wp2
  go_ret2
  exact ⟨by rw [HC.out]; rfl, HR.out, Stp.alloc _ _ _⟩
theorem one_its (w : World) (v : Nat) : Its (w.alloc (.cells #[.int .i64 (v : Int)] 3)) (some ⟨w.heap.size, 0, none⟩) [v] := by
  obtain ⟨a, k, e2, hi, _⟩ := OwnI.its (OwnI.one w v)
  cases e2
  exact hi
attribute [local go_sem ↓] Go.wp_at_zero Go.wp_at_succ in
set_option maxHeartbeats 40000000 in
set_option maxRecDepth 100000 in
theorem rdo_5y (h : Rc F W m N pa ca A pb cb B) (hl : (A ++ B).length ≤ 4096) (hp : Pr (A ++ B)) (c : Int) (v : Nat) (B' : List Nat) (h0 : B = v :: B') :
    Calls Tryd.prog 14 #[.pointer (some ⟨m, 0, none⟩), .agg #[.int .i64 5, .int .i64 c]] W (RDone F m N ⟨0, A ++ [v], B'⟩ A B W) := by
  have h1 : Rc F (kw W 5 c) m N pa ca A pb cb B := h.stays (Stp.alloc [] W _)
  have S1 : Aside (Stp [] W [] (kw W 5 c)) := Stp.alloc [] W _
  have c0 := h1.c0
  have c1 := h1.c1
  have f0 := h1.f0
  have hm := h1.lt
  have hpos : 0 < B.length := by rw [h0]; simp
  obtain ⟨gb, ob, epb, cE⟩ := h1.ib.at (i := 0) hpos
  unfold U.ival at cE
  have hv : B[0]! = v := by rw [h0]; rfl
  rw [hv, Nat.add_zero] at cE
  have hgb := block_lt_of_cell cE
  have hBd : B.drop 1 = B' := by rw [h0]; rfl
  have hBl : B'.length = B.length - 1 := by rw [h0]; simp
  have HP := Lib.hid (And.intro hp (And.intro hl (And.intro h0 hBd)))
  have hxy : A.length + B.length ≤ 4096 := by simpa using hl
  have hyb := h1.lb
  have HH : Aside (Rc F (kw W 5 c) m N pa ca A pb cb B) := h1
  clear h h1 hp hl h0 hv hBd
  obtain ⟨x, hx⟩ : ∃ x, x = A.length := ⟨_, rfl⟩
  obtain ⟨y, hy⟩ : ∃ y, y = B.length := ⟨_, rfl⟩
  have HX := Lib.hid (And.intro hx hy)
  rw [← hx] at c0
  rw [← hy] at c1 hpos hyb hBl
  rw [← hx, ← hy] at hxy
  have hcut := cutI_l pb y cb 1 (by omega)
  have hw1 : ((1 : Nat) : Int) = 1 := rfl
  rw [hw1] at hcut
  have hyz : (0 : Int) < (y : Int) := by omega
  have hxb : ((x + 1 : Nat) : Int) != (x : Int) := by rw [bne_iff_ne]; omega
  obtain ⟨y1, hy1⟩ : ∃ y1, y1 = y - 1 := ⟨_, rfl⟩
  rw [← hy1] at hcut hBl
  have HD := Lib.hid (And.intro hBl hy1)
  clear hx hy hy1 hBl hw1
  subst epb
  go_enter Tryd.func14, Tryd.ntmps14
  go_wp2_with fail
  dsimp only [kw] at c0 c1 f0 hm cE hgb
  have hcx : Aside (Rc F (W.alloc (.cells #[.int .i64 5, .int .i64 c] 35)) m N pa ca A (some ⟨gb, ob, none⟩) cb B) := HH.out
  have S2 : Aside (Stp [] W [] (W.alloc (.cells #[.int .i64 5, .int .i64 c] 35))) := S1.out
  clear HH S1
  generalize W.alloc (.cells #[.int .i64 5, .int .i64 c] 35) = W1 at *
  have HSa : Aside (Stp [] W1 [] (W1.alloc (.cells #[] 3)).drew ∧ U.OwnI (W1.alloc (.cells #[] 3)).drew W1.heap.size (.slice (some ⟨W1.heap.size, 0, none⟩) 0 0) []) := ⟨(Stp.alloc [] _ _).trans (Stp.drew [] _), OwnI.new W1⟩
  have HSb : Aside (Stp [] W1 [] ((W1.alloc (.cells #[] 3)).alloc (.cells #[.int .i64 (v : Int)] 3)).drew ∧ U.OwnI ((W1.alloc (.cells #[] 3)).alloc (.cells #[.int .i64 (v : Int)] 3)).drew W1.heap.size (.slice (some ⟨W1.heap.size, 0, none⟩) 0 0) [] ∧ Its ((W1.alloc (.cells #[] 3)).alloc (.cells #[.int .i64 (v : Int)] 3)).drew (some ⟨W1.heap.size + 1, 0, none⟩) [v]) := by
    have q1 : U.OwnI ((W1.alloc (.cells #[] 3)).alloc (.cells #[.int .i64 (v : Int)] 3)) W1.heap.size (.slice (some ⟨W1.heap.size, 0, none⟩) 0 0) [] := OwnI.other (OwnI.new W1) (Stp.alloc [] (W1.alloc (.cells #[] 3)) (.cells #[.int .i64 (v : Int)] 3)) (fun k _ h => by cases h)
    obtain ⟨a, k, e2, hi, _⟩ := OwnI.its (OwnI.one (W1.alloc (.cells #[] 3)) v)
    rw [World.size_alloc] at e2
    cases e2
    exact ⟨((Stp.alloc [] _ _).trans (Stp.alloc [] _ _)).trans (Stp.drew [] _), q1, hi⟩
  have HSc : Aside (Stp [] W1 [] ((W1.alloc (.cells #[.int .i64 (v : Int)] 3)).alloc (.cells #[] 3)).drew ∧ U.OwnI ((W1.alloc (.cells #[.int .i64 (v : Int)] 3)).alloc (.cells #[] 3)).drew W1.heap.size (.slice (some ⟨W1.heap.size + 1, 0, none⟩) 0 0) [] ∧ Its ((W1.alloc (.cells #[.int .i64 (v : Int)] 3)).alloc (.cells #[] 3)).drew (some ⟨W1.heap.size, 0, none⟩) [v]) := by
    have q1 := OwnI.mono (base' := W1.heap.size) (OwnI.new (W1.alloc (.cells #[.int .i64 (v : Int)] 3))) (by simp)
    rw [World.size_alloc] at q1
    obtain ⟨a, k, e2, hi, _⟩ := OwnI.its (OwnI.one W1 v)
    cases e2
    exact ⟨((Stp.alloc [] _ _).trans (Stp.alloc [] _ _)).trans (Stp.drew [] _), q1, hi.stays ((Stp.alloc [] (W1.alloc (.cells #[.int .i64 (v : Int)] 3)) (.cells #[] 3)).trans (Stp.drew [] _))⟩
  have hC : Aside (∀ W', Stp [] W1 [] W' → W'.cell? ⟨m, 1, none⟩ = some (.slice (some ⟨gb, ob, none⟩) y cb) ∧ W'.cell? ⟨gb, ob, none⟩ = some (.int .i64 (v : Int))) := fun W' hs =>
    ⟨(hs.cell (a := ⟨m, 1, none⟩) hm (fun h => by cases h)).trans c1, (hs.cell (a := ⟨gb, ob, none⟩) hgb (fun h => by cases h)).trans cE⟩
  have hC2 : Aside (∀ W' u, Stp [] W1 [] W' → (W'.setCell ⟨m, 0, none⟩ u).cell? ⟨m, 1, none⟩ = some (.slice (some ⟨gb, ob, none⟩) y cb) ∧ (W'.setCell ⟨m, 0, none⟩ u).cell? ⟨gb, ob, none⟩ = some (.int .i64 (v : Int))) := fun W' u hs => by
    have q := hcx.out.stays hs
    have q2 := heap_setCell_same W' m 0 _ _ u q.obj
    have hne : gb ≠ m := fun e => (hcx.out.xb ⟨gb, ob, none⟩ rfl).1 (by show gb ∈ F; rw [e]; exact hcx.out.mF)
    refine ⟨by rw [cell_of_row _ m 1 _ _ _ q2, HX.out.2]; rfl, ?_⟩
    exact ((Stp.setCell (F := [m]) (a := ⟨m, 0, none⟩) W' u (by simp)).cell (a := ⟨gb, ob, none⟩) (Nat.lt_of_lt_of_le hgb hs.size) (by simpa using hne)).trans (hC.out W' hs).2
  go_region_law
    (first
      | (refine step_appN (by rfl) (.tmp 92) (.tmp 96) (by rfl) W1.heap.size (.slice (some ⟨W1.heap.size, 0, none⟩) 0 0) [] (by rfl) HSa.out.2 pa ca x A HX.out.1 (by rfl) (hcx.out.ia.stays HSa.out.1) hcx.out.na (by have := HX.out.1; simp; omega) (HSa.out.1.size) ?_
         intro v3 w3 ho3 hg3
         rw [List.nil_append] at ho3
         have HTa : Aside (Stp [] W1 [] w3 ∧ U.OwnI w3 W1.heap.size v3 A) := ⟨HSa.out.1.app hg3 (fun k hk => by simp [Value.ownBlock] at hk; omega), ho3⟩
         have d1 : w3.cell? ⟨m, 1, none⟩ = some (.slice (some ⟨gb, ob, none⟩) y cb) := (HTa.out.1.cell (a := ⟨m, 1, none⟩) hm (fun h => by cases h)).trans c1
         have dE : w3.cell? ⟨gb, ob, none⟩ = some (.int .i64 (v : Int)) := (HTa.out.1.cell (a := ⟨gb, ob, none⟩) (block_lt_of_cell cE) (fun h => by cases h)).trans cE
         clear ho3 hg3)
      | (refine step_appN (by rfl) (.tmp 92) (.tmp 96) (by rfl) W1.heap.size (.slice (some ⟨W1.heap.size, 0, none⟩) 0 0) [] (by rfl) HSb.out.2.1 pa ca x A HX.out.1 (by rfl) (hcx.out.ia.stays HSb.out.1) hcx.out.na (by have := HX.out.1; simp; omega) (HSb.out.1.size) ?_
         intro v3 w3 ho3 hg3
         rw [List.nil_append] at ho3
         have HTb : Aside (Stp [] W1 [] w3 ∧ U.OwnI w3 W1.heap.size v3 A ∧ Its w3 (some ⟨W1.heap.size + 1, 0, none⟩) [v]) := ⟨HSb.out.1.app hg3 (fun k hk => by simp [Value.ownBlock] at hk; omega), ho3, (by
           obtain ⟨bb, off, q1, q2⟩ := HSb.out.2.2 (by simp)
           exact fun _ => ⟨bb, off, q1, fun i hi => by
             rw [← q2 i hi]
             have hb : bb < _ := block_lt_of_cell (q2 i hi)
             exact World.cell?_of_block (hg3.block bb hb (by cases q1; simp [Value.ownBlock]))⟩)⟩
         have d1 : w3.cell? ⟨m, 1, none⟩ = some (.slice (some ⟨gb, ob, none⟩) y cb) := (HTb.out.1.cell (a := ⟨m, 1, none⟩) hm (fun h => by cases h)).trans c1
         have dE : w3.cell? ⟨gb, ob, none⟩ = some (.int .i64 (v : Int)) := (HTb.out.1.cell (a := ⟨gb, ob, none⟩) (block_lt_of_cell cE) (fun h => by cases h)).trans cE
         clear ho3 hg3)
      | (refine step_appN (by rfl) (.tmp 92) (.tmp 96) (by rfl) W1.heap.size (.slice (some ⟨W1.heap.size + 1, 0, none⟩) 0 0) [] (by rfl) HSc.out.2.1 pa ca x A HX.out.1 (by rfl) (hcx.out.ia.stays HSc.out.1) hcx.out.na (by have := HX.out.1; simp; omega) (HSc.out.1.size) ?_
         intro v3 w3 ho3 hg3
         rw [List.nil_append] at ho3
         have HTc : Aside (Stp [] W1 [] w3 ∧ U.OwnI w3 W1.heap.size v3 A ∧ Its w3 (some ⟨W1.heap.size, 0, none⟩) [v]) := ⟨HSc.out.1.app hg3 (fun k hk => by simp [Value.ownBlock] at hk; omega), ho3, (by
           obtain ⟨bb, off, q1, q2⟩ := HSc.out.2.2 (by simp)
           exact fun _ => ⟨bb, off, q1, fun i hi => by
             rw [← q2 i hi]
             have hb : bb < _ := block_lt_of_cell (q2 i hi)
             exact World.cell?_of_block (hg3.block bb hb (by cases q1; simp [Value.ownBlock]))⟩)⟩
         have d1 : w3.cell? ⟨m, 1, none⟩ = some (.slice (some ⟨gb, ob, none⟩) y cb) := (HTc.out.1.cell (a := ⟨m, 1, none⟩) hm (fun h => by cases h)).trans c1
         have dE : w3.cell? ⟨gb, ob, none⟩ = some (.int .i64 (v : Int)) := (HTc.out.1.cell (a := ⟨gb, ob, none⟩) (block_lt_of_cell cE) (fun h => by cases h)).trans cE
         clear ho3 hg3)
      | (refine step_appN (by rfl) (.tmp 97) (.tmp 104) (by rfl) W1.heap.size v3 A (by rfl) HTb.out.2.1 (some ⟨W1.heap.size + 1, 0, none⟩) 1 1 [v] (by rfl) (by rfl) HTb.out.2.2 (fun h => by cases h) (by have := HX.out.1; simp; omega) (HTb.out.1.size) ?_
         intro v4 w4 ho4 hg4
         obtain ⟨a4, k4, e4, hi4, hn4, hl4, hb4⟩ := OwnI.its ho4
         have ez : (A ++ [v]).length = x + 1 := by have := HX.out.1; simp; omega
         rw [ez] at e4 hl4
         subst e4
         have HS2 : Aside (Stp [] W1 [] w4 ∧ Its w4 a4 (A ++ [v]) ∧ (a4 = none → k4 = 0) ∧ x + 1 ≤ k4 ∧ (∀ ad, a4 = some ad → W1.heap.size ≤ ad.block ∧ ad.block < w4.heap.size) ∧ (A ++ [v]).length = x + 1) := ⟨HTb.out.1.app hg4 (fun k hk => (World.ownsRow.lt HTb.out.2.1 k hk).1), hi4, hn4, hl4, hb4, ez⟩
         have f4 : w4.frozen? ⟨m, 0, none⟩ = false := (hcx.out.stays HS2.out.1).f0
         have d4 := (hcx.out.stays HS2.out.1).c0
         rw [← HX.out.1] at d4
         clear ho4 hg4 hi4 hn4 hl4 hb4 ez)
      | (refine step_appN (by rfl) (.tmp 97) (.tmp 104) (by rfl) W1.heap.size v3 A (by rfl) HTc.out.2.1 (some ⟨W1.heap.size, 0, none⟩) 1 1 [v] (by rfl) (by rfl) HTc.out.2.2 (fun h => by cases h) (by have := HX.out.1; simp; omega) (HTc.out.1.size) ?_
         intro v4 w4 ho4 hg4
         obtain ⟨a4, k4, e4, hi4, hn4, hl4, hb4⟩ := OwnI.its ho4
         have ez : (A ++ [v]).length = x + 1 := by have := HX.out.1; simp; omega
         rw [ez] at e4 hl4
         subst e4
         have HS2 : Aside (Stp [] W1 [] w4 ∧ Its w4 a4 (A ++ [v]) ∧ (a4 = none → k4 = 0) ∧ x + 1 ≤ k4 ∧ (∀ ad, a4 = some ad → W1.heap.size ≤ ad.block ∧ ad.block < w4.heap.size) ∧ (A ++ [v]).length = x + 1) := ⟨HTc.out.1.app hg4 (fun k hk => (World.ownsRow.lt HTc.out.2.1 k hk).1), hi4, hn4, hl4, hb4, ez⟩
         have f4 : w4.frozen? ⟨m, 0, none⟩ = false := (hcx.out.stays HS2.out.1).f0
         have d4 := (hcx.out.stays HS2.out.1).c0
         rw [← HX.out.1] at d4
         clear ho4 hg4 hi4 hn4 hl4 hb4 ez)
      | (refine step_appN (w := (w3.alloc (.cells #[.int .i64 (v : Int)] 3)).drew) (by rfl) (.tmp 97) (.tmp 104) (by rfl) W1.heap.size v3 A (by rfl) (show U.OwnI (w3.alloc (.cells #[.int .i64 (v : Int)] 3)) W1.heap.size v3 A from OwnI.other HTa.out.2 (Stp.alloc [] w3 _) (fun k _ h => by cases h)) (some ⟨w3.heap.size, 0, none⟩) 1 1 [v] (by rfl) (by rfl) (show Its (w3.alloc (.cells #[.int .i64 (v : Int)] 3)) (some ⟨w3.heap.size, 0, none⟩) [v] from one_its w3 v) (fun h => by cases h) (by have := HX.out.1; simp; omega) (by have := HTa.out.1.size; simp; omega) ?_
         intro v4 w4 ho4 hg4
         obtain ⟨a4, k4, e4, hi4, hn4, hl4, hb4⟩ := OwnI.its ho4
         have ez : (A ++ [v]).length = x + 1 := by have := HX.out.1; simp; omega
         rw [ez] at e4 hl4
         subst e4
         have HS2 : Aside (Stp [] W1 [] w4 ∧ Its w4 a4 (A ++ [v]) ∧ (a4 = none → k4 = 0) ∧ x + 1 ≤ k4 ∧ (∀ ad, a4 = some ad → W1.heap.size ≤ ad.block ∧ ad.block < w4.heap.size) ∧ (A ++ [v]).length = x + 1) := ⟨(HTa.out.1.trans ((Stp.alloc [] w3 _).trans (Stp.drew [] _))).app hg4 (fun k hk => (World.ownsRow.lt (show U.OwnI (w3.alloc (.cells #[.int .i64 (v : Int)] 3)) W1.heap.size v3 A from OwnI.other HTa.out.2 (Stp.alloc [] w3 _) (fun k _ h => by cases h)) k hk).1), hi4, hn4, hl4, hb4, ez⟩
         have f4 : w4.frozen? ⟨m, 0, none⟩ = false := (hcx.out.stays HS2.out.1).f0
         have d4 := (hcx.out.stays HS2.out.1).c0
         rw [← HX.out.1] at d4
         clear ho4 hg4 hi4 hn4 hl4 hb4 ez)
      | (refine step_appN (w := (w3.alloc (.cells #[.int .i64 (v : Int)] 3))) (by rfl) (.tmp 97) (.tmp 104) (by rfl) W1.heap.size v3 A (by rfl) (show U.OwnI (w3.alloc (.cells #[.int .i64 (v : Int)] 3)) W1.heap.size v3 A from OwnI.other HTa.out.2 (Stp.alloc [] w3 _) (fun k _ h => by cases h)) (some ⟨w3.heap.size, 0, none⟩) 1 1 [v] (by rfl) (by rfl) (show Its (w3.alloc (.cells #[.int .i64 (v : Int)] 3)) (some ⟨w3.heap.size, 0, none⟩) [v] from one_its w3 v) (fun h => by cases h) (by have := HX.out.1; simp; omega) (by have := HTa.out.1.size; simp; omega) ?_
         intro v4 w4 ho4 hg4
         obtain ⟨a4, k4, e4, hi4, hn4, hl4, hb4⟩ := OwnI.its ho4
         have ez : (A ++ [v]).length = x + 1 := by have := HX.out.1; simp; omega
         rw [ez] at e4 hl4
         subst e4
         have HS2 : Aside (Stp [] W1 [] w4 ∧ Its w4 a4 (A ++ [v]) ∧ (a4 = none → k4 = 0) ∧ x + 1 ≤ k4 ∧ (∀ ad, a4 = some ad → W1.heap.size ≤ ad.block ∧ ad.block < w4.heap.size) ∧ (A ++ [v]).length = x + 1) := ⟨(HTa.out.1.trans (Stp.alloc [] w3 _)).app hg4 (fun k hk => (World.ownsRow.lt (show U.OwnI (w3.alloc (.cells #[.int .i64 (v : Int)] 3)) W1.heap.size v3 A from OwnI.other HTa.out.2 (Stp.alloc [] w3 _) (fun k _ h => by cases h)) k hk).1), hi4, hn4, hl4, hb4, ez⟩
         have f4 : w4.frozen? ⟨m, 0, none⟩ = false := (hcx.out.stays HS2.out.1).f0
         have d4 := (hcx.out.stays HS2.out.1).c0
         rw [← HX.out.1] at d4
         clear ho4 hg4 hi4 hn4 hl4 hb4 ez))
  all_goals
    have q1 := (hcx.out.stays HS2.out.1).setA HS2.out.2.1 (by rw [HS2.out.2.2.2.2.2]; exact HS2.out.2.2.2.1) HS2.out.2.2.1 (hcx.out.fresh HS2.out.2.2.2.2.1)
    rw [HS2.out.2.2.2.2.2] at q1
    have q2 := q1.setB (a := cutp (some ⟨gb, ob, none⟩) 1 cb) (c := cb - 1) (X := B') (by rw [← HP.out.2.2.2]; exact q1.ib.tail (by have := HX.out.2; have := HD.out.2; omega) (by have := HX.out.2; omega)) (by rw [HD.out.1]; have := HD.out.2; omega) (fun e => by
      unfold cutp at e
      split at e
      · omega
      · cases e) (fun ad e => by
      obtain ⟨ad', e1, e2⟩ := cutp_blk e
      rw [← e2]
      exact q1.xb ad' e1)
    have f5 := q1.f1
    have d5 := q1.c1
    rw [← HX.out.2] at d5
    rw [HD.out.1] at q2
    have e1 := q2.c1
    rw [HD.out.1] at e1
    have e0 := q2.c0
    rw [HS2.out.2.2.2.2.2] at e0
    have hm5 := q2.lt
    have S5 := (S2.out.trans HS2.out.1).more (G := [m]) (fun k h => by cases h)
    have HQ := Lib.hid (And.intro q2 S5)
    have HC := Lib.hid (chg_A (r := ⟨0, A ++ [v], B'⟩) (A := A) (B := B) (by simp))
    clear q1 q2 S5
    go_wp2
    go_ret2
    exact ⟨by rw [HC.out]; rfl, ⟨⟨_, _, _, _, HQ.out.1⟩, by
      show Pr ((A ++ [v]) ++ B')
      rw [List.append_assoc]
      have := HP.out.1
      rw [HP.out.2.2.1] at this
      exact this, by
      show ((A ++ [v]) ++ B').length ≤ 4096
      rw [List.append_assoc]
      have := HP.out.2.1
      rw [HP.out.2.2.1] at this
      exact this⟩, HQ.out.2.trans ((Stp.setCell (F := [m]) (a := ⟨m, 0, none⟩) _ _ (by simp)).trans (Stp.setCell (F := [m]) (a := ⟨m, 1, none⟩) _ _ (by simp)))⟩
end
end Go.Proofs.YtblmpaplggnajaaDoor
