/-
  The document's Do: Home and Last.
-/
import Derived.Test.YtblmpaplggnajaaDoorRefD
namespace Go.Proofs.YtblmpaplggnajaaDoor
open Go.RowKit Go.Lib
set_option linter.unusedVariables false

section
variable {F : List Nat} {W : World} {m N ca cb : Nat} {pa pb : Option Addr} {A B : List Nat}
attribute [local go_sem ↓] Go.wp_at_zero Go.wp_at_succ in
set_option maxHeartbeats 3200000 in
set_option maxRecDepth 100000 in
theorem rdo_6 (h : Rc F W m N pa ca A pb cb B) (hl : (A ++ B).length ≤ 4096) (hp : Pr (A ++ B)) (c : Int) :
    Calls Tryd.prog 14 #[.pointer (some ⟨m, 0, none⟩), .agg #[.int .i64 6, .int .i64 c]] W (RDone F m N ⟨0, [], A ++ B⟩ A B W) := by
  have h1 : Rc F (kw W 6 c) m N pa ca A pb cb B := h.stays (Stp.alloc [] W _)
  have S1 : Aside (Stp [] W [] (kw W 6 c)) := Stp.alloc [] W _
  have c0 := h1.c0
  have c1 := h1.c1
  have f1 := h1.f1
  have hm := h1.lt
  have hHS : Stp [] (kw W 6 c) [] ((kw W 6 c).alloc (.cells #[] 3)).drew := (Stp.alloc [] _ _).trans (Stp.drew [] _)
  have hHO : U.OwnI ((kw W 6 c).alloc (.cells #[] 3)).drew (kw W 6 c).heap.size (.slice (some ⟨(kw W 6 c).heap.size, 0, none⟩) 0 0) [] := OwnI.new (kw W 6 c)
  have HP := Lib.hid (And.intro hp hl)
  have hxy : A.length + B.length ≤ 4096 := by simpa using hl
  have HH : Aside (Rc F (kw W 6 c) m N pa ca A pb cb B) := h1
  clear h h1 hp hl
  obtain ⟨z, hz⟩ : ∃ z, z = (A ++ B).length := ⟨_, rfl⟩
  have HZ := Lib.hid hz
  obtain ⟨x, hx⟩ : ∃ x, x = A.length := ⟨_, rfl⟩
  obtain ⟨y, hy⟩ : ∃ y, y = B.length := ⟨_, rfl⟩
  have HX := Lib.hid (And.intro hx hy)
  rw [← hx] at c0
  rw [← hy] at c1
  rw [← hx, ← hy] at hxy
  clear hz hx hy
  go_enter Tryd.func14, Tryd.ntmps14
  go_wp2_with fail
  dsimp only [kw] at c0 c1 f1 hm hHS hHO
  have HS0 : Aside _ := hHS
  have HO0 : Aside _ := hHO
  have hcx : Aside (Rc F (W.alloc (.cells #[.int .i64 6, .int .i64 c] 35)) m N pa ca A pb cb B) := HH.out
  clear hHS hHO HH
  have S2 : Aside (Stp [] W [] (W.alloc (.cells #[.int .i64 6, .int .i64 c] 35))) := S1.out
  clear S1
  generalize W.alloc (.cells #[.int .i64 6, .int .i64 c] 35) = W1 at *
  go_region_law
    (first
      | (refine step_appN (by rfl) (.tmp 119) (.tmp 123) (by rfl) W1.heap.size (.slice (some ⟨W1.heap.size, 0, none⟩) 0 0) [] (by rfl) HO0.out pa ca x A HX.out.1 (by rfl) (hcx.out.ia.stays HS0.out) hcx.out.na (by have := HX.out.1; simp; omega) (by simp) ?_
         intro v3 w3 ho3 hg3
         rw [List.nil_append] at ho3
         have HS1 : Aside (Stp [] W1 [] w3 ∧ U.OwnI w3 W1.heap.size v3 A) := ⟨HS0.out.app hg3 (fun k hk => by simp [Value.ownBlock] at hk; omega), ho3⟩
         have d1 : w3.cell? ⟨m, 1, none⟩ = some (.slice pb y cb) := (HS1.out.1.cell (a := ⟨m, 1, none⟩) hm (fun h => by cases h)).trans c1
         clear ho3 hg3)
      | (refine step_appN (by rfl) (.tmp 124) (.tmp 128) (by rfl) W1.heap.size v3 A (by rfl) HS1.out.2 pb cb y B HX.out.2 (by rfl) (hcx.out.ib.stays HS1.out.1) hcx.out.nb (by have := HX.out; omega) (HS1.out.1.size) ?_
         intro v4 w4 ho4 hg4
         obtain ⟨a4, k4, e4, hi4, hn4, hl4, hb4⟩ := OwnI.its ho4
         rw [← HZ.out] at e4 hl4
         subst e4
         have HS2 : Aside (Stp [] W1 [] w4 ∧ Its w4 a4 (A ++ B) ∧ (a4 = none → k4 = 0) ∧ z ≤ k4 ∧ ∀ ad, a4 = some ad → W1.heap.size ≤ ad.block ∧ ad.block < w4.heap.size) := ⟨HS1.out.1.app hg4 (fun k hk => (World.ownsRow.lt HS1.out.2 k hk).1), hi4, hn4, hl4, hb4⟩
         have f4 : w4.frozen? ⟨m, 1, none⟩ = false := (hcx.out.stays HS2.out.1).f1
         have d4 := (hcx.out.stays HS2.out.1).c1
         rw [← HX.out.2] at d4
         clear ho4 hg4 hi4 hn4 hl4 hb4))
  all_goals
    have q1 := (hcx.out.stays HS2.out.1).setB HS2.out.2.1 (by rw [← HZ.out]; exact HS2.out.2.2.2.1) HS2.out.2.2.1 (hcx.out.fresh HS2.out.2.2.2.2)
    rw [← HZ.out] at q1
    have q2 := q1.setA (a := none) (c := 0) (X := []) (Its.nil _ _) (by simp) (fun _ => rfl) (fun ad e => by cases e)
    have f5 := q1.f0
    have d5 := q1.c0
    rw [← HX.out.1] at d5
    have e0 := q2.c0
    have e1 := q2.c1
    have hm5 := q2.lt
    rw [← HZ.out] at e1
    have S5 := (S2.out.trans HS2.out.1).more (G := [m]) (fun k h => by cases h)
    have HQ := Lib.hid (And.intro q2 S5)
    clear q1 q2 S5
    by_cases hx0 : x = 0
    · have HC := Lib.hid (chg_no (r := ⟨0, [], A ++ B⟩) (A := A) (B := B) (by have := HX.out; show ([] : List Nat).length = A.length; rw [List.length_nil]; omega) (by have := HX.out; show (A ++ B).length = B.length; rw [List.length_append]; omega))
      have hzk : z = y := by have h1 := HZ.out; have h2 := HX.out; rw [List.length_append] at h1; omega
      have hb0 : (((0 : Nat) : Int) != ((0 : Nat) : Int)) = false := by simp
      have hb1 : ((y : Int) != (y : Int)) = false := by simp
      subst hx0 hzk
      go_wp2
      go_ret2
      refine ⟨by rw [HC.out]; rfl, ⟨⟨_, _, _, _, HQ.out.1⟩, by simpa using HP.out.1, by simpa using HP.out.2⟩, HQ.out.2.trans ((Stp.setCell (F := [m]) (a := ⟨m, 1, none⟩) _ _ (by simp)).trans (Stp.setCell (F := [m]) (a := ⟨m, 0, none⟩) _ _ (by simp)))⟩
    · have HC := Lib.hid (chg_A (r := ⟨0, [], A ++ B⟩) (A := A) (B := B) (by have := HX.out; simp only [List.length_nil]; omega))
      have hb0 : ((0 : Int) != (x : Int)) = true := by rw [bne_iff_ne]; omega
      have hbz : ((z : Int) != (y : Int)) = true := by have h1 := HZ.out; have h2 := HX.out; rw [List.length_append] at h1; rw [bne_iff_ne]; omega
      clear hx0
      go_wp2
      go_ret2
      refine ⟨by rw [HC.out]; rfl, ⟨⟨_, _, _, _, HQ.out.1⟩, by simpa using HP.out.1, by simpa using HP.out.2⟩, HQ.out.2.trans ((Stp.setCell (F := [m]) (a := ⟨m, 1, none⟩) _ _ (by simp)).trans (Stp.setCell (F := [m]) (a := ⟨m, 0, none⟩) _ _ (by simp)))⟩
attribute [local go_sem ↓] Go.wp_at_zero Go.wp_at_succ in
set_option maxHeartbeats 3200000 in
set_option maxRecDepth 100000 in
theorem rdo_7 (h : Rc F W m N pa ca A pb cb B) (hl : (A ++ B).length ≤ 4096) (hp : Pr (A ++ B)) (c : Int) :
    Calls Tryd.prog 14 #[.pointer (some ⟨m, 0, none⟩), .agg #[.int .i64 7, .int .i64 c]] W (RDone F m N ⟨0, A ++ B, []⟩ A B W) := by
  have h1 : Rc F (kw W 7 c) m N pa ca A pb cb B := h.stays (Stp.alloc [] W _)
  have S1 : Aside (Stp [] W [] (kw W 7 c)) := Stp.alloc [] W _
  have c0 := h1.c0
  have c1 := h1.c1
  have f1 := h1.f0
  have hm := h1.lt
  have hHS : Stp [] (kw W 7 c) [] ((kw W 7 c).alloc (.cells #[] 3)).drew := (Stp.alloc [] _ _).trans (Stp.drew [] _)
  have hHO : U.OwnI ((kw W 7 c).alloc (.cells #[] 3)).drew (kw W 7 c).heap.size (.slice (some ⟨(kw W 7 c).heap.size, 0, none⟩) 0 0) [] := OwnI.new (kw W 7 c)
  have HP := Lib.hid (And.intro hp hl)
  have hxy : A.length + B.length ≤ 4096 := by simpa using hl
  have HH : Aside (Rc F (kw W 7 c) m N pa ca A pb cb B) := h1
  clear h h1 hp hl
  obtain ⟨z, hz⟩ : ∃ z, z = (A ++ B).length := ⟨_, rfl⟩
  have HZ := Lib.hid hz
  obtain ⟨x, hx⟩ : ∃ x, x = A.length := ⟨_, rfl⟩
  obtain ⟨y, hy⟩ : ∃ y, y = B.length := ⟨_, rfl⟩
  have HX := Lib.hid (And.intro hx hy)
  rw [← hx] at c0
  rw [← hy] at c1
  rw [← hx, ← hy] at hxy
  clear hz hx hy
  go_enter Tryd.func14, Tryd.ntmps14
  go_wp2_with fail
  dsimp only [kw] at c0 c1 f1 hm hHS hHO
  have HS0 : Aside _ := hHS
  have HO0 : Aside _ := hHO
  have hcx : Aside (Rc F (W.alloc (.cells #[.int .i64 7, .int .i64 c] 35)) m N pa ca A pb cb B) := HH.out
  clear hHS hHO HH
  have S2 : Aside (Stp [] W [] (W.alloc (.cells #[.int .i64 7, .int .i64 c] 35))) := S1.out
  clear S1
  generalize W.alloc (.cells #[.int .i64 7, .int .i64 c] 35) = W1 at *
  go_region_law
    (first
      | (refine step_appN (by rfl) (.tmp 138) (.tmp 142) (by rfl) W1.heap.size (.slice (some ⟨W1.heap.size, 0, none⟩) 0 0) [] (by rfl) HO0.out pa ca x A HX.out.1 (by rfl) (hcx.out.ia.stays HS0.out) hcx.out.na (by have := HX.out.1; simp; omega) (by simp) ?_
         intro v3 w3 ho3 hg3
         rw [List.nil_append] at ho3
         have HS1 : Aside (Stp [] W1 [] w3 ∧ U.OwnI w3 W1.heap.size v3 A) := ⟨HS0.out.app hg3 (fun k hk => by simp [Value.ownBlock] at hk; omega), ho3⟩
         have d1 : w3.cell? ⟨m, 1, none⟩ = some (.slice pb y cb) := (HS1.out.1.cell (a := ⟨m, 1, none⟩) hm (fun h => by cases h)).trans c1
         clear ho3 hg3)
      | (refine step_appN (by rfl) (.tmp 143) (.tmp 147) (by rfl) W1.heap.size v3 A (by rfl) HS1.out.2 pb cb y B HX.out.2 (by rfl) (hcx.out.ib.stays HS1.out.1) hcx.out.nb (by have := HX.out; omega) (HS1.out.1.size) ?_
         intro v4 w4 ho4 hg4
         obtain ⟨a4, k4, e4, hi4, hn4, hl4, hb4⟩ := OwnI.its ho4
         rw [← HZ.out] at e4 hl4
         subst e4
         have HS2 : Aside (Stp [] W1 [] w4 ∧ Its w4 a4 (A ++ B) ∧ (a4 = none → k4 = 0) ∧ z ≤ k4 ∧ ∀ ad, a4 = some ad → W1.heap.size ≤ ad.block ∧ ad.block < w4.heap.size) := ⟨HS1.out.1.app hg4 (fun k hk => (World.ownsRow.lt HS1.out.2 k hk).1), hi4, hn4, hl4, hb4⟩
         have f4 : w4.frozen? ⟨m, 0, none⟩ = false := (hcx.out.stays HS2.out.1).f0
         have d4 := (hcx.out.stays HS2.out.1).c0
         rw [← HX.out.1] at d4
         clear ho4 hg4 hi4 hn4 hl4 hb4))
  all_goals
    have q1 := (hcx.out.stays HS2.out.1).setA HS2.out.2.1 (by rw [← HZ.out]; exact HS2.out.2.2.2.1) HS2.out.2.2.1 (hcx.out.fresh HS2.out.2.2.2.2)
    rw [← HZ.out] at q1
    have q2 := q1.setB (a := none) (c := 0) (X := []) (Its.nil _ _) (by simp) (fun _ => rfl) (fun ad e => by cases e)
    have f5 := q1.f1
    have d5 := q1.c1
    rw [← HX.out.2] at d5
    have e0 := q2.c0
    have e1 := q2.c1
    have hm5 := q2.lt
    rw [← HZ.out] at e0
    have S5 := (S2.out.trans HS2.out.1).more (G := [m]) (fun k h => by cases h)
    have HQ := Lib.hid (And.intro q2 S5)
    clear q1 q2 S5
    by_cases hx0 : y = 0
    · have HC := Lib.hid (chg_no (r := ⟨0, A ++ B, []⟩) (A := A) (B := B) (by have := HX.out; show (A ++ B).length = A.length; rw [List.length_append]; omega) (by have := HX.out; show ([] : List Nat).length = B.length; rw [List.length_nil]; omega))
      have hzk : z = x := by have h1 := HZ.out; have h2 := HX.out; rw [List.length_append] at h1; omega
      have hb0 : (((0 : Nat) : Int) != ((0 : Nat) : Int)) = false := by simp
      have hb1 : ((x : Int) != (x : Int)) = false := by simp
      subst hx0 hzk
      go_wp2
      go_ret2
      refine ⟨by rw [HC.out]; rfl, ⟨⟨_, _, _, _, HQ.out.1⟩, by simpa using HP.out.1, by simpa using HP.out.2⟩, HQ.out.2.trans ((Stp.setCell (F := [m]) (a := ⟨m, 0, none⟩) _ _ (by simp)).trans (Stp.setCell (F := [m]) (a := ⟨m, 1, none⟩) _ _ (by simp)))⟩
    · have HC := Lib.hid (chg_B (r := ⟨0, A ++ B, []⟩) (A := A) (B := B) (by have := HX.out; simp only [List.length_nil]; omega))
      have hb0 : ((0 : Int) != (y : Int)) = true := by rw [bne_iff_ne]; omega
      have hbz : ((z : Int) != (x : Int)) = true := by have h1 := HZ.out; have h2 := HX.out; rw [List.length_append] at h1; rw [bne_iff_ne]; omega
      clear hx0
      go_wp2
      go_ret2
      refine ⟨by rw [HC.out]; rfl, ⟨⟨_, _, _, _, HQ.out.1⟩, by simpa using HP.out.1, by simpa using HP.out.2⟩, HQ.out.2.trans ((Stp.setCell (F := [m]) (a := ⟨m, 0, none⟩) _ _ (by simp)).trans (Stp.setCell (F := [m]) (a := ⟨m, 1, none⟩) _ _ (by simp)))⟩
end
end Go.Proofs.YtblmpaplggnajaaDoor
