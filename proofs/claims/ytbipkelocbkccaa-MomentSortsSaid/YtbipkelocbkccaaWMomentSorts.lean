/-
  The law MomentSorts walked: it returns true, and all that lay in memory stays.
-/
import Derived.Test.YtbipkelocbkccaaWords
namespace Go.Proofs.Ytbipkelocbkccaa
open Go.RowKit Go.Lib
set_option linter.unusedVariables false

set_option maxHeartbeats 4000000 in
set_option maxRecDepth 100000 in
theorem sorts_long (a : Option Addr) (cap : Nat) (l : List Mo) (w : World) (hl : 200 < l.length) (hm : l.length ≤ 9223372036854775807) : Calls Try.prog 5 #[.slice a l.length cap] w (Truth w) := by
  have K := Lib.hid alive_run
  have hlz : (200 : Int) < (l.length : Int) := by omega
  go_enter Try.func5, Try.ntmps5
  go_wp2_with fail
  refine (K.out _).mono ?_
  rintro _ _ ⟨rfl, rfl⟩
  go_wp2
  go_ret
  exact ⟨rfl, Below.refl _ _⟩

set_option maxHeartbeats 4000000 in
set_option maxRecDepth 100000 in
theorem sorts_short (a : Option Addr) (cap : Nat) (l : List Mo) (w : World) (hU : Us w a l) (hl : l.length ≤ 200) : Calls Try.prog 5 #[.slice a l.length cap] w (Truth w) := by
  obtain ⟨n, hn⟩ : ∃ n, n = l.length := ⟨_, rfl⟩
  rw [← hn] at hl ⊢
  have HN : Aside (n = l.length) := hn
  have HU := Lib.hid hU
  clear hU hn
  have hlz : ¬ (200 : Int) < (n : Int) := by omega
  go_enter Try.func5, Try.ntmps5
  go_wp2
  go_loopg [3, 5, 15] n (fun gk vo vx vi wr => ∃ (i co : Nat) (ao : Option Addr), vi = .int .i64 (i : Int) ∧ vo = .slice ao i co ∧ i ≤ n ∧ n - i ≤ gk ∧ Aside (Own wr w.heap.size (.slice ao i co) (l.take i) ∧ Below w.heap.size w wr))
  case atStart => exact ⟨0, 0, none, rfl, rfl, Nat.zero_le _, by omega, by rw [List.take_zero]; exact World.ownsRow_nil _ _ _ _, Below.refl _ _⟩
  case round =>
    obtain ⟨i, co, ao, rfl, rfl, hin, hg, HS⟩ := hrel
    by_cases hlt : i < n
    · have hltz : (i : Int) < (n : Int) := by omega
      obtain ⟨b, off, rfl, hb, hc⟩ := (HU.out.below HS.out.2).at (i := i) (by have := HN.out; omega)
      obtain ⟨x, hx⟩ : ∃ x, x = l[i]! := ⟨_, rfl⟩
      rw [← hx] at hc
      have HX : Aside (x = l[i]!) := hx
      have fx := from_run x.v
      have hsz := HS.out.2.size
      clear hx
      go_wp2_with (first
        | (at_builtin
           refine wpList_app rfl (.tmp 19) (.tmp 22) rfl w.heap.size _ (l.take i) rfl (World.ownsRow.alloc HS.out.1 _) (some ⟨wr.heap.size, 0, none⟩) 1 [x] rfl (one_ms wr x) (fun h => by cases h) (by have := HN.out; simp; omega) (by rw [World.size_alloc]; omega) ?_
           intro y1 w1 hown1 hg1 hat1
           have HS1 : Aside (Own w1 w.heap.size y1 (l.take i ++ [x]) ∧ Below w.heap.size w w1) := ⟨hown1, (HS.out.2.alloc hsz _).grown hg1 (by rw [World.size_alloc]; omega) (own_base HS.out.1)⟩
           clear hown1 hg1 hat1 HS))
      go_roundg (n - (i + 1))
      case measure => omega
      case rel =>
        have h1 := HS1.out.1
        rw [HX.out, snoc_take l i (by have := HN.out; omega)] at h1
        obtain ⟨a1, c1, e1, _, _⟩ := h1.ms
        have e2 : (l.take (i + 1)).length = i + 1 := by rw [List.length_take]; have := HN.out; omega
        rw [e2] at e1
        exact ⟨i + 1, c1, a1, by go_num, e1, by omega, by omega, by rw [← e1]; exact h1, HS1.out.2⟩
    · have hltz : ¬ (i : Int) < (n : Int) := by omega
      obtain rfl : i = n := by omega
      have hM : MsIn wr w.heap.size ao l ∧ (ao = none → co = 0) ∧ Below w.heap.size w wr := by
        obtain ⟨h1, h2⟩ := HS.out
        rw [List.take_of_length_le (by have := HN.out; omega)] at h1
        obtain ⟨a', cap', e1, e2, e3⟩ := h1.ms
        cases e1
        exact ⟨e2, e3, h2⟩
      clear HS HU
      have K1 := Lib.hid (sort_any ao co l wr hM.1.ms hM.2.1 (by have := HN.out; omega))
      rw [← HN.out] at K1
      have HM := Lib.hid hM
      clear hM
      go_wp2_with fail
      refine K1.out.mono ?_
      rintro _ w1 ⟨ga, gc, z, rfl, hz, hgm, hgz, hb1⟩
      have K2 := Lib.hid (refSort_any ao co l w1 (HM.out.1.below hb1).ms HM.out.2.1 (by have := HN.out; omega))
      rw [← HN.out] at K2
      have H1 := Lib.hid (And.intro hz (And.intro hgm (And.intro hb1 (HM.out.2.2.trans (hb1.mono HM.out.2.2.size)))))
      clear K1 hz hgm hb1 HM
      go_wp2_with fail
      refine K2.out.mono ?_
      rintro _ w2 ⟨ra, rc, z', rfl, hz', hrm, hrz, hb2⟩
      obtain rfl : z = z' := H1.out.1.uniq hz'
      have H2 := Lib.hid (And.intro (H1.out.2.1.below hb2) (And.intro hrm (H1.out.2.2.2.trans (hb2.mono H1.out.2.2.2.size))))
      have hz2 : z.length ≤ 200 := by have h1 := hz'.2.1; have h2 := HN.out; omega
      clear K2 hz' hrm hb2 H1
      have K3 := Lib.hid alive_run
      obtain ⟨k, hk⟩ : ∃ k, k = z.length := ⟨_, rfl⟩
      rw [← hk] at hz2 ⊢
      have HK : Aside (k = z.length) := hk
      clear hk
      go_wp2_with fail
      refine (K3.out _).mono ?_
      rintro _ w3 ⟨rfl, hw3⟩
      subst hw3
      clear K3
      go_wp2
      go_loopg [8, 40] k (fun gk vj vi wr => ∃ (j q : Nat), vi = .int .i64 (j : Int) ∧ j ≤ k ∧ k - j ≤ gk ∧ wr = w3.drewN q)
      case atStart => exact ⟨0, 0, rfl, Nat.zero_le _, by omega, rfl⟩
      case round =>
        obtain ⟨j, q, rfl, hjk, hgj, rfl⟩ := hrel
        by_cases hlt : j < k
        · have hltz : (j : Int) < (k : Int) := by omega
          have hj : j < z.length := by have := HK.out; omega
          have hne : z ≠ [] := by intro e; rw [e] at hj; simp at hj
          obtain ⟨gb, goff, rfl, _, _, hgc⟩ := H2.out.1 hne
          obtain ⟨rb, roff, rfl, _, _, hrc⟩ := H2.out.2.1 hne
          have c1 := hgc j hj
          have c2 := hrc j hj
          obtain ⟨x, hx⟩ : ∃ x, x = (z[j]!).v := ⟨_, rfl⟩
          rw [← hx] at c1 c2
          have bx := bits_run x
          clear hgc hrc hx hne hj
          go_wp2_with fail
          go_quiet (fail)
          go_wp2
          go_roundg (k - (j + 1))
          case measure => omega
          case rel => exact ⟨j + 1, q + nq, by go_num, by omega, by omega, by first | rfl | rw [World.drewN_drewN]⟩
        · have hltz : ¬ (j : Int) < (k : Int) := by omega
          go_wp2
          go_ret
          exact ⟨rfl, H2.out.2.2.trans (below_drewN' _ q _)⟩
end Go.Proofs.Ytbipkelocbkccaa
