/-
  The document's Do: Left.
-/
import Derived.Test.YtombkdbojdhodaaDoorRefD
namespace Go.Proofs.YtombkdbojdhodaaDoor
open Go.RowKit Go.Lib
set_option linter.unusedVariables false

section
variable {F : List Nat} {W : World} {m N ca cb : Nat} {pa pb : Option Addr} {A B : List Nat}
set_option maxHeartbeats 1000000 in
set_option maxRecDepth 100000 in
theorem rdo_4n (h : Rc F W m N pa ca A pb cb B) (hl : (A ++ B).length ≤ 4096) (hp : Pr (A ++ B)) (c : Int) (h0 : A = []) :
    Calls Tryd.prog 22 #[.pointer (some ⟨m, 0, none⟩), .agg #[.int .i64 4, .int .i64 c]] W (RDone F m N ⟨0, A, B⟩ A B W) := by
  have h1 : Rc F (kw W 4 c) m N pa ca A pb cb B := h.stays (Stp.alloc [] W _)
  have c0 := h1.c0
  have c1 := h1.c1
  have hself : ∀ z : Int, (z != z) = false := fun z => by simp
  have HC := Lib.hid (chg_no (r := ⟨0, A, B⟩) (A := A) (B := B) rfl rfl)
  have HR : Aside (Rb F (kw W 4 c) m N A B) := ⟨⟨_, _, _, _, h1⟩, hp, hl⟩
  have hz : A.length = 0 := by rw [h0]; rfl
  rw [hz] at c0
  clear h h1 hl hp h0 hz
  generalize B.length = x at *
  have hb0 := hself (x : Int)
  have hb1 := hself ((0 : Nat) : Int)
  go_enter Tryd.func22, Tryd.ntmps22
  go_wp2
  go_ret2
  exact ⟨by rw [HC.out]; rfl, HR.out, Stp.alloc _ _ _⟩
theorem lst_last {A : List Nat} (h : A ≠ []) : lst A = [A[A.length - 1]!] := by
  rcases snoc_cases A with rfl | ⟨A', a, rfl⟩
  · exact absurd rfl h
  · rw [lst_snoc, getElem!_pos _ _ (by simp)]
    simp
attribute [local go_sem ↓] Go.wp_at_zero Go.wp_at_succ in
set_option maxHeartbeats 3200000 in
set_option maxRecDepth 100000 in
theorem rdo_4y (h : Rc F W m N pa ca A pb cb B) (hl : (A ++ B).length ≤ 4096) (hp : Pr (A ++ B)) (c : Int) (h0 : A ≠ []) :
    Calls Tryd.prog 22 #[.pointer (some ⟨m, 0, none⟩), .agg #[.int .i64 4, .int .i64 c]] W (RDone F m N ⟨0, A.dropLast, lst A ++ B⟩ A B W) := by
  have h1 : Rc F (kw W 4 c) m N pa ca A pb cb B := h.stays (Stp.alloc [] W _)
  have S1 : Aside (Stp [] W [] (kw W 4 c)) := Stp.alloc [] W _
  have c0 := h1.c0
  have c1 := h1.c1
  have f1 := h1.f1
  have hm := h1.lt
  have hpos : 0 < A.length := List.length_pos_iff.2 h0
  obtain ⟨ga, oa, epa, cE⟩ := h1.ia.at (i := A.length - 1) (by omega)
  have hlst := lst_last h0
  unfold U.ival at cE
  obtain ⟨a, ha⟩ : ∃ a, a = A[A.length - 1]! := ⟨_, rfl⟩
  rw [← ha] at cE hlst
  rw [hlst]
  have hHS : Stp [] (kw W 4 c) [] ((kw W 4 c).alloc (.cells #[.int .i64 (a : Int)] 3)).drew := (Stp.alloc [] _ _).trans (Stp.drew [] _)
  have hHO : U.OwnI ((kw W 4 c).alloc (.cells #[.int .i64 (a : Int)] 3)).drew (kw W 4 c).heap.size (.slice (some ⟨(kw W 4 c).heap.size, 0, none⟩) 1 1) [a] := OwnI.one (kw W 4 c) a
  have HP := Lib.hid (And.intro hp hl)
  have hxy : A.length + B.length ≤ 4096 := by simpa using hl
  have hxa := h1.la
  have HH : Aside (Rc F (kw W 4 c) m N pa ca A pb cb B) := h1
  clear h h1 hp hl h0
  obtain ⟨x, hx⟩ : ∃ x, x = A.length := ⟨_, rfl⟩
  obtain ⟨y, hy⟩ : ∃ y, y = B.length := ⟨_, rfl⟩
  have HX := Lib.hid (And.intro hx (And.intro hy hlst))
  rw [← hx] at c0 cE hpos hxa
  rw [← hy] at c1
  rw [← hx, ← hy] at hxy
  have hw : IntKind.i64.wrap ((x : Int) - 1) = ((x - 1 : Nat) : Int) := by rw [IntKind.wrap_i64]; omega
  have hcut := cutI_h pa x ca (x - 1) (by omega)
  have hdl : A.dropLast.length = x - 1 := by rw [hx]; simp
  obtain ⟨x1, hx1⟩ : ∃ x1, x1 = x - 1 := ⟨_, rfl⟩
  rw [← hx1] at hw hcut cE hdl
  have hxz : (0 : Int) < (x : Int) := by omega
  have hx1z : (0 : Int) ≤ (x1 : Int) := by omega
  have hx1x : (x1 : Int) < (x : Int) := by omega
  have hb0 : ((x1 : Int) != (x : Int)) = true := by rw [bne_iff_ne]; omega
  have HD := Lib.hid (And.intro hdl hx1)
  clear hx hy hlst hx1 hdl ha
  subst epa
  go_enter Tryd.func22, Tryd.ntmps22
  go_wp2_with fail
  dsimp only [kw] at c0 c1 f1 hm hHS hHO cE
  have HS0 : Aside _ := hHS
  have HO0 : Aside _ := hHO
  have hcx : Aside (Rc F (W.alloc (.cells #[.int .i64 4, .int .i64 c] 47)) m N (some ⟨ga, oa, none⟩) ca A pb cb B) := HH.out
  have S2 : Aside (Stp [] W [] (W.alloc (.cells #[.int .i64 4, .int .i64 c] 47))) := S1.out
  clear hHS hHO HH S1
  generalize W.alloc (.cells #[.int .i64 4, .int .i64 c] 47) = W1 at *
  go_region_law
    (first
      | (refine step_appN (by rfl) (.tmp 69) (.tmp 73) (by rfl) W1.heap.size (.slice (some ⟨W1.heap.size, 0, none⟩) 1 1) [a] (by rfl) HO0.out pb cb y B HX.out.2.1 (by rfl) (hcx.out.ib.stays HS0.out) hcx.out.nb (by have := HX.out; simp; omega) (by simp) ?_
         intro v4 w4 ho4 hg4
         obtain ⟨a4, k4, e4, hi4, hn4, hl4, hb4⟩ := OwnI.its ho4
         have ez : ([a] ++ B).length = y + 1 := by have := HX.out.2.1; simp; omega
         rw [ez] at e4 hl4
         subst e4
         have HS2 : Aside (Stp [] W1 [] w4 ∧ Its w4 a4 ([a] ++ B) ∧ (a4 = none → k4 = 0) ∧ y + 1 ≤ k4 ∧ (∀ ad, a4 = some ad → W1.heap.size ≤ ad.block ∧ ad.block < w4.heap.size) ∧ ([a] ++ B).length = y + 1) := ⟨HS0.out.app hg4 (fun k hk => by simp [Value.ownBlock] at hk; omega), hi4, hn4, hl4, hb4, ez⟩
         have f4 : w4.frozen? ⟨m, 1, none⟩ = false := (hcx.out.stays HS2.out.1).f1
         have d4 := (hcx.out.stays HS2.out.1).c1
         rw [← HX.out.2.1] at d4
         clear ho4 hg4 hi4 hn4 hl4 hb4 ez))
  all_goals
    have q1 := (hcx.out.stays HS2.out.1).setB HS2.out.2.1 (by rw [HS2.out.2.2.2.2.2]; exact HS2.out.2.2.2.1) HS2.out.2.2.1 (hcx.out.fresh HS2.out.2.2.2.2.1)
    rw [HS2.out.2.2.2.2.2] at q1
    have q2 := q1.setA (a := some ⟨ga, oa, none⟩) (c := ca) (X := A.dropLast) (Its.head (M' := lst A) (by rw [dl_lst]; exact q1.ia)) (by rw [HD.out.1]; have := HD.out.2; omega) q1.na q1.xa
    have f5 := q1.f0
    have d5 := q1.c0
    rw [← HX.out.1] at d5
    rw [HD.out.1] at q2
    have e0 := q2.c0
    rw [HD.out.1] at e0
    have hm5 := q2.lt
    have S5 := (S2.out.trans HS2.out.1).more (G := [m]) (fun k h => by cases h)
    have HQ := Lib.hid (And.intro q2 S5)
    have HC := Lib.hid (chg_A (r := ⟨0, A.dropLast, a :: B⟩) (A := A) (B := B) (by
      show A.dropLast.length ≠ A.length
      have h1 := HD.out
      have h2 := HX.out.1
      rw [h1.1]
      omega))
    clear q1 q2 S5
    go_wp2
    go_ret2
    exact ⟨by rw [HC.out]; rfl, ⟨⟨_, _, _, _, HQ.out.1⟩, by
      show Pr (A.dropLast ++ ([a] ++ B))
      rw [← HX.out.2.2, ← List.append_assoc, dl_lst]
      exact HP.out.1, by
      show (A.dropLast ++ ([a] ++ B)).length ≤ 4096
      rw [← HX.out.2.2, ← List.append_assoc, dl_lst]
      exact HP.out.2⟩, HQ.out.2.trans ((Stp.setCell (F := [m]) (a := ⟨m, 1, none⟩) _ _ (by simp)).trans (Stp.setCell (F := [m]) (a := ⟨m, 0, none⟩) _ _ (by simp)))⟩
end
end Go.Proofs.YtombkdbojdhodaaDoor
