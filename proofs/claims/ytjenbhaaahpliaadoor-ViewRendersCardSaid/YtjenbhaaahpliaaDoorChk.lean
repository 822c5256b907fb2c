/-
  Check of the program: what is wrong with what is asked.
-/
import Derived.Test.YtjenbhaaahpliaaDoorMay
import Derived.Test.YtjenbhaaahpliaaDoorSt
namespace Go.Proofs.YtjenbhaaahpliaaDoor
open Go.RowKit Go.Lib
set_option linter.unusedVariables false

/-- What is wrong. -/
def chkN (l : List UInt8) (m r : Int) : Nat := if fiB l = false then 8 else if 256 < l.length then 10 else if mok m = false then 9 else if r < 0 then 3 else 0
/-- What is asked, as a value. -/
def askv (l : List UInt8) (m r : Int) : Value := .agg #[.string (st l), .int .i64 m, .int .i64 r]
theorem rowOf_ok (m : Int) : ∃ x y, x.oneCell' = true ∧ y.oneCell' = true ∧ ∀ w, Calls Tryd.prog 26 #[.int .i64 m] w (Tells (.tuple #[.agg #[x, y], .bool (mok m)]) w) := ⟨_, _, rowA_one m, rowB_one m, rowOf_run m⟩
set_option maxHeartbeats 1000000 in
set_option maxRecDepth 100000 in
theorem check_run (l : List UInt8) (m r : Int) (w : World) (hl : l.length ≤ 100000) (hT : U.Tabs w) : Calls Tryd.prog 11 #[askv l m r] w (Tells (.int .i64 (chkN l m r : Int)) w) := by
  obtain ⟨x, y, hx, hy, KR⟩ := rowOf_ok m
  have KR := Lib.hid KR
  have KM : Hid (∀ W, Below w.heap.size w W → Calls Tryd.prog 27 #[.string (st l)] W (Tells (.bool (fiB l)) W)) := Lib.hid fun W hb => may_run l W hl (hT.below hb)
  clear hT
  have hsz := st_size l
  have hb := heap_alloc_new w (.cells #[.string (st l), .int .i64 m, .int .i64 r] 23)
  have s0 : Stp [] w [] (w.alloc (.cells #[.string (st l), .int .i64 m, .int .i64 r] 23)) := Stp.alloc _ _ _
  have c1 : (w.alloc (.cells #[.string (st l), .int .i64 m, .int .i64 r] 23)).cell? ⟨w.heap.size, 1, none⟩ = some (.int .i64 m) := by rw [cell_of_row _ _ 1 _ _ _ hb]; rfl
  have HB := Lib.hid (And.intro hb s0)
  clear hb s0
  obtain ⟨k, hk⟩ : ∃ k, k = chkN l m r := ⟨_, rfl⟩
  rw [← hk]
  have HK := Lib.hid hk
  clear hk
  unfold askv
  go_enter Tryd.func11, Tryd.ntmps11
  go_wp2_with fail
  refine (KR.out _).mono ?_
  rintro _ w1 ⟨rfl, s1⟩
  have hb := heap_alloc_new w1 (.cells #[.nilFunc, .nilFunc] 55)
  obtain ⟨h1, h2, h3⟩ := row_laid hb x y hx hy
  have s3 : Stp [] w [] ((w1.alloc (.cells #[.nilFunc, .nilFunc] 55)).setCells w1.heap.size 0 [x, y]) := (HB.out.2.trans s1).trans ((Stp.alloc [] _ _).fresh h3 (by simp)).none
  have hbx : ((w1.alloc (.cells #[.nilFunc, .nilFunc] 55)).setCells w1.heap.size 0 [x, y]).heap[w.heap.size]? = some (.cells #[.string (st l), .int .i64 m, .int .i64 r] 23 (0, 0)) := by
    have e1 := (s1.block w.heap.size (by simp) (by simp)).trans HB.out.1
    have e2 : w.heap.size < w1.heap.size := (Array.getElem?_eq_some_iff.1 e1).1
    exact ((((Stp.alloc [] w1 _).fresh h3 (by simp)).none).block w.heap.size e2 (by simp)).trans e1
  clear hb h3 h2 s1 c1
  generalize (w1.alloc (.cells #[.nilFunc, .nilFunc] 55)).setCells w1.heap.size 0 [x, y] = w2 at *
  have c0 : w2.cell? ⟨w.heap.size, 0, none⟩ = some (.string (st l)) := by rw [cell_of_row w2 _ 0 _ _ _ hbx]; rfl
  have H3 := Lib.hid (And.intro s3 hbx)
  clear s3 hbx HB
  go_wp2_with fail
  refine (KM.out _ H3.out.1.under).mono ?_
  rintro _ w3 ⟨rfl, s4⟩
  have hbx := (s4.block w.heap.size (Array.getElem?_eq_some_iff.1 H3.out.2).1 (by simp)).trans H3.out.2
  have c0' : w3.cell? ⟨w.heap.size, 0, none⟩ = some (.string (st l)) := by rw [cell_of_row w3 _ 0 _ _ _ hbx]; rfl
  have c2' : w3.cell? ⟨w.heap.size, 2, none⟩ = some (.int .i64 r) := by rw [cell_of_row w3 _ 2 _ _ _ hbx]; rfl
  have H4 := Lib.hid (H3.out.1.trans s4)
  clear s4 hbx H3 KM KR c0
  cases hf : fiB l with
  | false =>
    have e : k = 8 := by rw [HK.out]; simp [chkN, hf]
    clear hf
    go_wp2
    go_ret
    rw [e]
    exact ⟨rfl, H4.out⟩
  | true =>
    by_cases h256 : 256 < l.length
    · have e : k = 10 := by rw [HK.out]; simp [chkN, hf, h256]
      clear hf
      have hz : (256 : Int) < (l.length : Int) := by omega
      go_wp2
      go_ret
      rw [e]
      exact ⟨rfl, H4.out⟩
    · have hz : ¬ (256 : Int) < (l.length : Int) := by omega
      cases hm : mok m with
      | false =>
        have e : k = 9 := by rw [HK.out]; simp [chkN, hf, h256, hm]
        clear hf hm
        go_wp2
        go_ret
        rw [e]
        exact ⟨rfl, H4.out⟩
      | true =>
        by_cases hr : r < 0
        · have e : k = 3 := by rw [HK.out]; simp [chkN, hf, h256, hm, hr]
          clear hf hm
          go_wp2
          go_ret
          rw [e]
          exact ⟨rfl, H4.out⟩
        · have e : k = 0 := by rw [HK.out]; simp [chkN, hf, h256, hm, hr]
          clear hf hm
          go_wp2
          go_ret
          rw [e]
          exact ⟨rfl, H4.out⟩
end Go.Proofs.YtjenbhaaahpliaaDoor
