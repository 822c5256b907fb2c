/-
  Place of the program; the document's numbers.
-/
import Derived.Test.YtjenbhaaahpliaaDoorSt2
namespace Go.Proofs.YtjenbhaaahpliaaDoor
open Go.RowKit Go.Lib
set_option linter.unusedVariables false

set_option maxHeartbeats 1000000 in
set_option maxRecDepth 100000 in
theorem place_run (m c a : Int) (w : World) : Calls Tryd.prog 15 #[.int .i64 m, .int .i64 c, .int .i64 a] w (Tells (.int .i64 (plN m c a)) w) := by
  have KR := Lib.hid (rowOf_run m w)
  have KI := Lib.hid (fun W => inr_run c a W)
  have hx := rowA_one m
  have hy := rowB_one m
  cases hm : mok m with
  | false =>
    have e : plN m c a = 0 := by unfold plN; rw [hm]; rfl
    rw [e]
    rw [hm, (row_no hm).1, (row_no hm).2] at KR
    clear e hm hx hy
    go_enter Tryd.func15, Tryd.ntmps15
    go_wp2_with fail
    refine KR.out.mono ?_
    rintro _ w1 ⟨rfl, s1⟩
    have hb := heap_alloc_new w1 (.cells #[.nilFunc, .nilFunc] 55)
    obtain ⟨h1, h2, h3⟩ := row_laid hb .nilFunc .nilFunc rfl rfl
    have H3 := Lib.hid (And.intro s1 h3)
    clear hb h3 s1 h2
    go_wp2_with fail
    go_ret
    exact ⟨rfl, (H3.out.1.trans ((Stp.alloc [] _ _).fresh H3.out.2 (by simp)).none)⟩
  | true =>
    rw [hm] at KR
    cases hr : rng c a with
    | false =>
      have e : plN m c a = 0 := by unfold plN; rw [hr]; simp
      rw [e]
      rw [hr] at KI
      generalize rowA m = x at *
      generalize rowB m = y at *
      clear e hm hr
      go_enter Tryd.func15, Tryd.ntmps15
      go_wp2_with fail
      refine KR.out.mono ?_
      rintro _ w1 ⟨rfl, s1⟩
      have hb := heap_alloc_new w1 (.cells #[.nilFunc, .nilFunc] 55)
      obtain ⟨h1, h2, h3⟩ := row_laid hb x y hx hy
      have H3 := Lib.hid (And.intro s1 h3)
      clear hb h3 s1 h2
      go_wp2_with fail
      refine (KI.out _).mono ?_
      rintro _ _ ⟨rfl, rfl⟩
      go_wp2_with fail
      go_ret
      exact ⟨rfl, (H3.out.1.trans ((Stp.alloc [] _ _).fresh H3.out.2 (by simp)).none)⟩
    | true =>
      rw [hr] at KI
      have h := of_decide_eq_true hm
      rcases (by omega : m = 0 ∨ m = 1 ∨ m = 2) with rfl | rfl | rfl
      · have e : plN 0 c a = 0 := by unfold plN; rw [hr]; rfl
        rw [e]
        clear e hm hr
        have KC := Lib.hid (fun W => off_place c a W)
        rw [show rowA 0 = fn0 from rfl, show rowB 0 = fn1 from rfl] at KR
        go_enter Tryd.func15, Tryd.ntmps15
        go_wp2_with fail
        refine KR.out.mono ?_
        rintro _ w1 ⟨rfl, s1⟩
        have hb := heap_alloc_new w1 (.cells #[.nilFunc, .nilFunc] 55)
        obtain ⟨h1, h2, h3⟩ := row_laid hb fn0 fn1 rfl rfl
        have H3 := Lib.hid (And.intro s1 h3)
        have c0 := cell_of_row _ w1.heap.size 1 _ _ _ h2
        simp only [List.getElem?_toArray, List.getElem?_cons_zero, List.getElem?_cons_succ] at c0
        clear hb h3 s1 h2
        unfold fn0 fn1 at *
        go_wp2_with fail
        refine (KI.out _).mono ?_
        rintro _ _ ⟨rfl, rfl⟩
        go_wp2_with fail
        refine (KC.out _).mono ?_
        rintro _ _ ⟨rfl, rfl⟩
        go_wp2
        go_ret
        exact ⟨rfl, (H3.out.1.trans ((Stp.alloc [] _ _).fresh H3.out.2 (by simp)).none)⟩
      · have e : plN 1 c a = a := by unfold plN; rw [hr]; rfl
        rw [e]
        clear e hm hr
        have KC := Lib.hid (fun W => mask_place c a W)
        rw [show rowA 1 = fn2 from rfl, show rowB 1 = fn3 from rfl] at KR
        go_enter Tryd.func15, Tryd.ntmps15
        go_wp2_with fail
        refine KR.out.mono ?_
        rintro _ w1 ⟨rfl, s1⟩
        have hb := heap_alloc_new w1 (.cells #[.nilFunc, .nilFunc] 55)
        obtain ⟨h1, h2, h3⟩ := row_laid hb fn2 fn3 rfl rfl
        have H3 := Lib.hid (And.intro s1 h3)
        have c0 := cell_of_row _ w1.heap.size 1 _ _ _ h2
        simp only [List.getElem?_toArray, List.getElem?_cons_zero, List.getElem?_cons_succ] at c0
        clear hb h3 s1 h2
        unfold fn2 fn3 at *
        go_wp2_with fail
        refine (KI.out _).mono ?_
        rintro _ _ ⟨rfl, rfl⟩
        go_wp2_with fail
        refine (KC.out _).mono ?_
        rintro _ _ ⟨rfl, rfl⟩
        go_wp2
        go_ret
        exact ⟨rfl, (H3.out.1.trans ((Stp.alloc [] _ _).fresh H3.out.2 (by simp)).none)⟩
      · have e : plN 2 c a = (if 0 < c then 8 else 0) := by unfold plN; rw [hr]; rfl
        rw [e]
        clear e hm hr
        have KC := Lib.hid (fun W => fixed_place c a W)
        generalize (if 0 < c then (8 : Int) else 0) = z at *
        rw [show rowA 2 = fn4 from rfl, show rowB 2 = fn5 from rfl] at KR
        go_enter Tryd.func15, Tryd.ntmps15
        go_wp2_with fail
        refine KR.out.mono ?_
        rintro _ w1 ⟨rfl, s1⟩
        have hb := heap_alloc_new w1 (.cells #[.nilFunc, .nilFunc] 55)
        obtain ⟨h1, h2, h3⟩ := row_laid hb fn4 fn5 rfl rfl
        have H3 := Lib.hid (And.intro s1 h3)
        have c0 := cell_of_row _ w1.heap.size 1 _ _ _ h2
        simp only [List.getElem?_toArray, List.getElem?_cons_zero, List.getElem?_cons_succ] at c0
        clear hb h3 s1 h2
        unfold fn4 fn5 at *
        go_wp2_with fail
        refine (KI.out _).mono ?_
        rintro _ _ ⟨rfl, rfl⟩
        go_wp2_with fail
        refine (KC.out _).mono ?_
        rintro _ _ ⟨rfl, rfl⟩
        go_wp2
        go_ret
        exact ⟨rfl, (H3.out.1.trans ((Stp.alloc [] _ _).fresh H3.out.2 (by simp)).none)⟩
end Go.Proofs.YtjenbhaaahpliaaDoor
