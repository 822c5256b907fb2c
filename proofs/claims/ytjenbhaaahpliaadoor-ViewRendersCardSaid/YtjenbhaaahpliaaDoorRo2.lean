/-
  The row of a mode; whether numbers may be; how many stars there are, and how many ahead of the place.
-/
import Derived.Test.YtjenbhaaahpliaaDoorRo
namespace Go.Proofs.YtjenbhaaahpliaaDoor
open Go.RowKit Go.Lib
set_option linter.unusedVariables false

theorem row_no {m : Int} (h : mok m = false) : rowA m = .nilFunc ∧ rowB m = .nilFunc := by
  have h := of_decide_eq_false h
  unfold rowA rowB
  constructor <;> rw [if_neg (by omega), if_neg (by omega), if_neg (by omega)]
set_option maxHeartbeats 1000000 in
set_option maxRecDepth 100000 in
theorem rowOf_run (m : Int) (w : World) : Calls Tryd.prog 26 #[.int .i64 m] w (Tells (.tuple #[.agg #[rowA m, rowB m], .bool (mok m)]) w) := by
  have KA := Lib.hid all_run
  have hb := heap_alloc_new w (.cells #[.nilFunc, .nilFunc] 55)
  have s0 : Stp [] w [] (w.alloc (.cells #[.nilFunc, .nilFunc] 55)) := Stp.alloc _ _ _
  have hg : w.heap.size < (w.alloc (.cells #[.nilFunc, .nilFunc] 55)).heap.size := by simp
  have hg0 : w.heap.size ≤ w.heap.size := Nat.le_refl _
  go_enter Tryd.func26, Tryd.ntmps26
  go_wp2_with fail
  generalize w.alloc (.cells #[.nilFunc, .nilFunc] 55) = wa at *
  generalize hgg : w.heap.size = g at *
  have HG : Aside (w.heap.size = g) := hgg
  clear hgg hg0
  refine (KA.out wa).mono ?_
  rintro _ w1 ⟨rfl, s1⟩
  have hb1 := (s1.block g hg (by simp)).trans hb
  have hl1 : g < w1.heap.size := Nat.lt_of_lt_of_le hg s1.size
  clear hb KA
  go_wp2
  have hB := heap_alloc_new w1 (.cells #[.nilFunc, .nilFunc, .nilFunc, .nilFunc, .nilFunc, .nilFunc] 74)
  have hch := chain6 hB fn0 fn1 fn2 fn3 fn4 fn5 rfl rfl rfl rfl rfl rfl
  have hs := set6 hB fn0 fn1 fn2 fn3 fn4 fn5
  have hq : Stp [] w1 [] ((w1.alloc (.cells #[.nilFunc, .nilFunc, .nilFunc, .nilFunc, .nilFunc, .nilFunc] 74)).setCells w1.heap.size 0 [fn0, fn1, fn2, fn3, fn4, fn5]) := ((Stp.alloc [] _ _).fresh (setCells_other w1.heap.size _ _ _) (by simp)).none
  clear hB
  rw [hch, Result.andThen_ok]
  clear hch
  generalize (w1.alloc (.cells #[.nilFunc, .nilFunc, .nilFunc, .nilFunc, .nilFunc, .nilFunc] 74)).setCells w1.heap.size 0 [fn0, fn1, fn2, fn3, fn4, fn5] = w2 at *
  have hb2 := (hq.block g hl1 (by simp)).trans hb1
  have S2 : Aside (Stp [] w [] w2) := (s0.trans s1).trans hq
  clear hb1 s0 s1 hq hl1 hg
  generalize w1.heap.size = r at *
  have c0 : w2.cell? ⟨r, 0, none⟩ = some fn0 := by rw [cell_of_row w2 r 0 _ _ _ hs]; rfl
  have c1 : w2.cell? ⟨r, 1, none⟩ = some fn1 := by rw [cell_of_row w2 r 1 _ _ _ hs]; rfl
  have c2 : w2.cell? ⟨r, 2, none⟩ = some fn2 := by rw [cell_of_row w2 r 2 _ _ _ hs]; rfl
  have c3 : w2.cell? ⟨r, 3, none⟩ = some fn3 := by rw [cell_of_row w2 r 3 _ _ _ hs]; rfl
  have c4 : w2.cell? ⟨r, 4, none⟩ = some fn4 := by rw [cell_of_row w2 r 4 _ _ _ hs]; rfl
  have c5 : w2.cell? ⟨r, 5, none⟩ = some fn5 := by rw [cell_of_row w2 r 5 _ _ _ hs]; rfl
  have HS := Lib.hid hs
  clear hs
  have HL := Lib.hid (fun x y hx hy => row_laid hb2 x y hx hy)
  rcases (by omega : m < 0 ∨ 2 < m ∨ m = 0 ∨ m = 1 ∨ m = 2) with h | h | rfl | rfl | rfl
  · obtain ⟨h1, h2, h3⟩ := HL.out .nilFunc .nilFunc rfl rfl
    have H3 := Lib.hid h3
    clear h3 HL hb2
    go_wp2
    refine bodyPost_ret (res_row2 rfl _ _ g _ _ rfl h2) rfl ?_
    have hk : mok m = false := by unfold mok; simp; omega
    refine ⟨by rw [(row_no hk).1, (row_no hk).2, hk]; rfl, (S2.out.fresh H3.out (by simp [HG.out])).none⟩
  · obtain ⟨h1, h2, h3⟩ := HL.out .nilFunc .nilFunc rfl rfl
    have H3 := Lib.hid h3
    clear h3 HL hb2
    have hm0 : ¬ m < 0 := by omega
    have hm3 : 3 ≤ m := by omega
    go_wp2
    refine bodyPost_ret (res_row2 rfl _ _ g _ _ rfl h2) rfl ?_
    have hk : mok m = false := by unfold mok; simp; omega
    refine ⟨by rw [(row_no hk).1, (row_no hk).2, hk]; rfl, (S2.out.fresh H3.out (by simp [HG.out])).none⟩
  · obtain ⟨h1, h2, h3⟩ := HL.out fn0 fn1 rfl rfl
    have H3 := Lib.hid h3
    clear h3 HL hb2
    go_wp2
    refine bodyPost_ret (res_row2 rfl _ _ g _ _ rfl h2) rfl ?_
    refine ⟨rfl, (S2.out.fresh H3.out (by simp [HG.out])).none⟩
  · obtain ⟨h1, h2, h3⟩ := HL.out fn2 fn3 rfl rfl
    have H3 := Lib.hid h3
    clear h3 HL hb2
    go_wp2
    refine bodyPost_ret (res_row2 rfl _ _ g _ _ rfl h2) rfl ?_
    refine ⟨rfl, (S2.out.fresh H3.out (by simp [HG.out])).none⟩
  · obtain ⟨h1, h2, h3⟩ := HL.out fn4 fn5 rfl rfl
    have H3 := Lib.hid h3
    clear h3 HL hb2
    go_wp2
    refine bodyPost_ret (res_row2 rfl _ _ g _ _ rfl h2) rfl ?_
    refine ⟨rfl, (S2.out.fresh H3.out (by simp [HG.out])).none⟩

end Go.Proofs.YtjenbhaaahpliaaDoor
