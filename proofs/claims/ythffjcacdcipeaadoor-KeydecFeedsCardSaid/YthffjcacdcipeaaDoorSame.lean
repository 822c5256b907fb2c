/-
  The document's Same: are keys the same?
-/
import Derived.Test.YthffjcacdcipeaaDoorFin
namespace Go.Proofs.YthffjcacdcipeaaDoor
open Go.RowKit Go.Lib
set_option linter.unusedVariables false

theorem Kts.at {w : World} {a : Option Addr} {L : List Ky} (h : Kts w a L) {i : Nat} (hi : i < L.length) : ∃ gg off, a = some ⟨gg, off, none⟩ ∧ w.cell? ⟨gg, off + i * 2, none⟩ = some (.int .i64 (L[i]).1) ∧ w.cell? ⟨gg, off + i * 2 + 1, none⟩ = some (.int .i64 (L[i]).2) := by
  obtain ⟨gg, off, e, hc⟩ := h (by intro e; subst e; simp at hi)
  exact ⟨gg, off, e, hc i hi⟩
set_option maxHeartbeats 1000000 in
set_option maxRecDepth 100000 in
theorem same_run (a0 a1 : Option Addr) (n0 n1 c0 c1 : Nat) (L0 L1 : List Ky) (w : World) (h0 : Kts w a0 L0) (h1 : Kts w a1 L1) (hn0 : n0 = L0.length) (hn1 : n1 = L1.length) (hm : n0 ≤ 1000000) :
    Calls Tryd.prog 15 #[.slice a0 n0 c0, .slice a1 n1 c1] w (Tells (.bool (decide (L0 = L1))) w) := by
  obtain ⟨R, hR⟩ : ∃ R, R = decide (L0 = L1) := ⟨_, rfl⟩
  rw [← hR]
  have HR := Lib.hid hR
  have HB := Lib.hid (And.intro h0 (And.intro h1 (And.intro hn0 hn1)))
  clear hR h0 h1
  by_cases hl : n0 = n1
  · subst hl
    have i0 : ((n0 : Int) != (n0 : Int)) = false := by simp
    clear hn0 hn1
    go_enter Tryd.func15, Tryd.ntmps15
    go_wp2
    go_loopg [5] n0 (fun gk vi wr => ∃ k : Nat, vi = .int .i64 (k : Int) ∧ k ≤ n0 ∧ n0 - k ≤ gk ∧ Aside (Stp [] w [] wr ∧ ∀ i (hi : i < L0.length) (hj : i < L1.length), i < k → L0[i] = L1[i]))
    case atStart => exact ⟨0, rfl, by omega, by omega, Stp.refl _ _, fun i _ _ h => by omega⟩
    case round =>
      obtain ⟨k, rfl, hk, hg, HS⟩ := hrel
      by_cases hlt : k < n0
      · have hltz : (k : Int) < (n0 : Int) := by omega
        have k0 : k < L0.length := by rw [← HB.out.2.2.1]; exact hlt
        have k1 : k < L1.length := by rw [← HB.out.2.2.2]; exact hlt
        obtain ⟨g0, o0, rfl, d0, d1⟩ := (HB.out.1.stays HS.out.1).at k0
        obtain ⟨g1, o1, rfl, e0, e1⟩ := (HB.out.2.1.stays HS.out.1).at k1
        by_cases he : L0[k] = L1[k]
        · have HE : Aside (∀ i (hi : i < L0.length) (hj : i < L1.length), i < k + 1 → L0[i] = L1[i]) := fun i hi hj hik => by
            by_cases e : i = k
            · subst e
              exact he
            · exact HS.out.2 i hi hj (by omega)
          rw [← he] at e0 e1
          generalize L0[k] = x at *
          obtain ⟨x1, x2⟩ := x
          clear he k0 k1
          simp only at d0 d1 e0 e1
          go_wp2_with fail
          go_quiet (fail)
          go_wp2
          go_roundg (n0 - (k + 1))
          case measure => omega
          case rel => exact ⟨k + 1, by go_num, by omega, by omega, HS.out.1.trans (Stp.drewN [] wr _), HE.out⟩
        · have HF : Aside (R = false) := by
            show R = false
            rw [HR.out]
            exact decide_eq_false (fun e => he (by simp only [e]))
          have hx : (L0[k].1 == L1[k].1) = false ∨ ((L0[k].1 == L1[k].1) = true ∧ (L0[k].2 == L1[k].2) = false) := by
            by_cases g : L0[k].1 = L1[k].1
            · refine .inr ⟨by simpa using g, beq_eq_false_iff_ne.2 (fun g2 => he (Prod.ext g g2))⟩
            · exact .inl (beq_eq_false_iff_ne.2 g)
          generalize L0[k] = x at *
          generalize L1[k] = y at *
          obtain ⟨x1, x2⟩ := x
          obtain ⟨y1, y2⟩ := y
          clear he k0 k1
          simp only at d0 d1 e0 e1 hx
          rcases hx with hx | ⟨hx, hy⟩
          all_goals
            go_wp2_with fail
            go_quiet (fail)
            go_wp2
            go_ret
            rw [HF.out]
            exact ⟨rfl, HS.out.1.trans (Stp.drewN [] wr _)⟩
      · have hltz : ¬ (k : Int) < (n0 : Int) := by omega
        obtain rfl : k = n0 := by omega
        have HF : Aside (R = true) := by
          show R = true
          rw [HR.out]
          refine decide_eq_true (List.ext_getElem ?_ (fun i h1 h2 => HS.out.2 i h1 h2 ?_))
          · rw [← HB.out.2.2.1, ← HB.out.2.2.2]
          · rw [HB.out.2.2.1]; exact h1
        go_wp2
        go_ret
        rw [HF.out]
        exact ⟨rfl, HS.out.1⟩
  · have i0 : ((n0 : Int) != (n1 : Int)) = true := by rw [bne_iff_ne]; omega
    have HF : Aside (R = false) := by
      show R = false
      rw [HR.out]
      refine decide_eq_false (fun e => hl ?_)
      rw [hn0, hn1, e]
    clear hn0 hn1 hl
    go_enter Tryd.func15, Tryd.ntmps15
    go_wp2
    go_ret
    rw [HF.out]
    exact ⟨rfl, Stp.refl _ _⟩
end Go.Proofs.YthffjcacdcipeaaDoor
