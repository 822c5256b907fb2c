/-
  great of whispererlaw11; a cell of an arena.
-/
import Derived.Test.YtblmpaplggnajaaDoorRefF
import Derived.Test.YtblmpaplggnajaaDoorArgsA
namespace Go.Proofs.YtblmpaplggnajaaDoor
open Go.RowKit Go.Lib
set_option linter.unusedVariables false

theorem As.at {w wr : World} {a : Option Addr} {l : List Ac} (h : As w a l) {F : List Nat} (hs : Stp [] w F wr) {i : Nat} (hi : i < l.length) : ∃ b off, a = some ⟨b, off, none⟩ ∧
    wr.cell? ⟨b, off + i * 4, none⟩ = some (.int .i64 (l[i]!).k) ∧ wr.cell? ⟨b, off + i * 4 + 1, none⟩ = some (.int .i64 (l[i]!).a) ∧ wr.cell? ⟨b, off + i * 4 + 2, none⟩ = some (.int .i64 (l[i]!).b) ∧
    wr.cell? ⟨b, off + i * 4 + 3, none⟩ = some (.slice (l[i]!).p (l[i]!).x.length (l[i]!).cap) ∧ Bts w (l[i]!).p (l[i]!).x ∧ (l[i]!).x.length ≤ reachBytes ∧ (l[i]!).x.length ≤ (l[i]!).cap ∧ (l[i]!).cap ≤ maxLen ∧ (Lit.int .i64 (l[i]!).a).wf = true := by
  obtain ⟨b, off, h1, hb, h2⟩ := h (by intro e; subst e; simp at hi)
  obtain ⟨c0, c1, c2, c3, c4, c5, c6, c7, c8⟩ := h2 i hi
  have hn : b ∉ ([] : List Nat) := fun h => by cases h
  exact ⟨b, off, h1, (hs.cell (a := ⟨b, _, none⟩) hb hn).trans c0, (hs.cell (a := ⟨b, _, none⟩) hb hn).trans c1, (hs.cell (a := ⟨b, _, none⟩) hb hn).trans c2, (hs.cell (a := ⟨b, _, none⟩) hb hn).trans c3, c4, c5, c6, c7, c8⟩
/-- How many bytes all calls have. -/
def total (l : List Ac) : Nat := (l.map fun y => y.x.length).sum
theorem total_take {l : List Ac} {i : Nat} (hi : i < l.length) : total (l.take (i + 1)) = total (l.take i) + (l[i]!).x.length := by
  unfold total
  rw [List.take_succ_eq_append_getElem hi, getElem!_pos l i hi]
  simp only [List.map_append, List.sum_append, List.map_cons, List.map_nil, List.sum_cons, List.sum_nil, Nat.add_zero]
/-- Are they more than are looked at? -/
def Great (l : List Ac) : Bool := decide (200 < l.length) || decide (3000 < total l)

set_option maxHeartbeats 1000000 in
theorem great_run (a : Option Addr) (cap n : Nat) (l : List Ac) (w : World) (hU : As w a l) (hn : n = l.length) (hl : n ≤ 9223372036854775807) :
    Calls Tryd.prog 12 #[.slice a n cap] w (Tells (.bool (Great l)) w) := by
  have HU : Aside (As w a l ∧ n = l.length) := ⟨hU, hn⟩
  clear hU hn
  go_enter Tryd.func12, Tryd.ntmps12
  go_wp2
  go_loopg [3, 8] n (fun gk v3 vi wr => ∃ (k : Nat) (z : Int), v3 = .int .i64 z ∧ vi = .int .i64 (k : Int) ∧ k ≤ n ∧ n - k ≤ gk ∧ Aside (Stp [] w [] wr ∧ (n ≤ 200 → z = (total (l.take k) : Int) ∧ total (l.take k) ≤ k * 140737488351232)))
  case atStart => exact ⟨0, 0, rfl, rfl, by omega, by omega, Stp.refl _ _, fun _ => ⟨by simp [total], by simp [total]⟩⟩
  case round =>
    obtain ⟨k, z, rfl, rfl, hk, hg, HS⟩ := hrel
    by_cases hlt : k < n
    · have hltz : (k : Int) < (n : Int) := by omega
      have hkl : k < l.length := by have := HU.out.2; omega
      obtain ⟨ab, off, rfl, c0, c1, c2, c3, _, hr, _⟩ := HU.out.1.at HS.out.1 (i := k) hkl
      have HT : Aside (total (l.take (k + 1)) = total (l.take k) + (l[k]!).x.length ∧ (l[k]!).x.length ≤ reachBytes) := ⟨total_take hkl, hr⟩
      have H1 : Aside (∀ o, Stp [] w [] (wr.alloc o)) := fun o => HS.out.1.trans (Stp.alloc [] _ _)
      have H2 : Aside (n ≤ 200 → z = (total (l.take k) : Int) ∧ total (l.take k) ≤ k * 140737488351232) := HS.out.2
      clear HS hr hkl
      generalize l[k]! = ac at *
      obtain ⟨y0, y1, y2, yp, yc, yx⟩ := ac
      dsimp only at c0 c1 c2 c3 HT
      go_wp2
      go_roundg (n - (k + 1))
      case measure => omega
      case rel =>
        refine ⟨k + 1, _, rfl, by go_num, by omega, by omega, H1.out _, fun h => ?_⟩
        obtain ⟨e1, e2⟩ := H2.out h
        obtain ⟨e3, e4⟩ := HT.out
        have e5 : reachBytes = 140737488351232 := rfl
        rw [e3]
        rw [e5] at e4
        refine ⟨?_, by omega⟩
        rw [e1]
        unfold wrap64
        omega
    · have hltz : ¬ (k : Int) < (n : Int) := by omega
      obtain rfl : k = n := by omega
      have H1 : Aside (Stp [] w [] wr) := HS.out.1
      by_cases hm : 200 < k
      · have hmz : (200 : Int) < (k : Int) := by omega
        have HG : Aside (Great l = true) := by
          have := HU.out.2
          show (_ || _) = true
          rw [decide_eq_true (by omega)]
          rfl
        go_wp2
        go_ret
        rw [HG.out]
        exact ⟨rfl, H1.out⟩
      · have hmz : ¬ (200 : Int) < (k : Int) := by omega
        have HZ : Aside (z = (total l : Int)) := by
          have h := (HS.out.2 (by omega)).1
          rw [List.take_of_length_le (by have := HU.out.2; omega)] at h
          exact h
        have HM : Aside (decide (200 < l.length) = false) := decide_eq_false (by have := HU.out.2; omega)
        by_cases h4 : 3000 < z
        · have HG : Aside (Great l = true) := by
            show (_ || _) = true
            rw [HM.out, decide_eq_true (by have := HZ.out; omega)]
            rfl
          clear HZ
          go_wp2
          go_ret
          rw [HG.out]
          exact ⟨rfl, H1.out⟩
        · have HG : Aside (Great l = false) := by
            show (_ || _) = false
            rw [HM.out, decide_eq_false (by have := HZ.out; omega)]
            rfl
          clear HZ
          go_wp2
          go_ret
          rw [HG.out]
          exact ⟨rfl, H1.out⟩


theorem pad_zero {N : Nat} {l : List UInt8} {i : Nat} (h : l.length ≤ i) (hi : i < N) : (pad N l)[i]! = 0 := by
  rw [getElem!_pos _ i (by simp [pad]; omega)]
  simp [pad, List.getElem_append_right h]
section
variable {W : World} {b g N u : Nat} {C : List UInt8}
theorem cell_run (h : Cl W b g N u C) (i : Nat) (hi : i < N) : Calls Tryd.prog 34 #[.pointer (some ⟨b, 0, none⟩), .int .i64 (i : Int)] W (Gives (.tuple #[bval (C[i]!), .int .i64 0]) W) := by
  have K1 := Lib.hid (cap_cl h)
  have K2 := Lib.hid (look_run h i N hi (Nat.le_refl _))
  generalize bval (C[i]!) = z at *
  clear h hi
  go_enter Tryd.func34, Tryd.ntmps34
  go_wp2_with fail
  refine K1.out.mono ?_
  rintro _ _ ⟨rfl, rfl⟩
  go_wp2_with fail
  refine K2.out.mono ?_
  rintro _ _ ⟨rfl, rfl⟩
  go_wp2
  go_ret2
  exact ⟨rfl, rfl⟩
end
end Go.Proofs.YtblmpaplggnajaaDoor
