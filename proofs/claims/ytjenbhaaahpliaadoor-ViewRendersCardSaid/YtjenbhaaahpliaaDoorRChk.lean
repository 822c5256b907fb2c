/-
  The document's Check.
-/
import Derived.Test.YtjenbhaaahpliaaDoorRfn
import Derived.Test.YtjenbhaaahpliaaDoorChk
namespace Go.Proofs.YtjenbhaaahpliaaDoor
open Go.RowKit Go.Lib
set_option linter.unusedVariables false

set_option maxHeartbeats 1000000 in
set_option maxRecDepth 100000 in
theorem rcheck_run (l : List UInt8) (m r : Int) (w : World) (hl : l.length ≤ 100000) : Calls Tryd.prog 12 #[askv l m r] w (Tells (.int .i64 (chkN l m r : Int)) w) := by
  have hsz := st_size l
  have hb := heap_alloc_new w (.cells #[.string (st l), .int .i64 m, .int .i64 r] 23)
  have s0 : Stp [] w [] (w.alloc (.cells #[.string (st l), .int .i64 m, .int .i64 r] 23)) := Stp.alloc _ _ _
  have c0 := cell_of_row _ w.heap.size 0 _ _ _ hb
  simp only [List.getElem?_toArray, List.getElem?_cons_zero] at c0
  obtain ⟨a, cp, w1, hcv, hbt, hc1, hc2, s1⟩ := conv_st (w.alloc (.cells #[.string (st l), .int .i64 m, .int .i64 r] 23)) l (by omega)
  have hb1 := (s1.block w.heap.size (by simp) (by simp)).trans hb
  have KF := Lib.hid (rfine_run a l.length cp l w1 hbt rfl hc1 hc2)
  have H1 := Lib.hid (And.intro (s0.trans s1) hb1)
  obtain ⟨k, hk⟩ : ∃ k, k = chkN l m r := ⟨_, rfl⟩
  rw [← hk]
  have HK := Lib.hid hk
  clear hk hb hb1 s0 s1 hbt hc1 hc2
  unfold askv
  go_enter Tryd.func12, Tryd.ntmps12
  go_wp2_with fail
  refine KF.out.mono ?_
  rintro _ w3 ⟨rfl, s4⟩
  have hbx := (s4.block w.heap.size (Array.getElem?_eq_some_iff.1 H1.out.2).1 (by simp)).trans H1.out.2
  have c0' := cell_of_row _ w.heap.size 0 _ _ _ hbx
  have c1' := cell_of_row _ w.heap.size 1 _ _ _ hbx
  have c2' := cell_of_row _ w.heap.size 2 _ _ _ hbx
  simp only [List.getElem?_toArray, List.getElem?_cons_zero, List.getElem?_cons_succ] at c0' c1' c2'
  have H4 := Lib.hid (H1.out.1.trans s4)
  clear s4 hbx H1 KF c0 hcv
  cases hf : fiB l with
  | false =>
    have e : k = 8 := by rw [HK.out]; simp [chkN, hf]
    clear hf
    go_wp2
    go_ret
    rw [e]
    exact ⟨rfl, H4.out⟩
  | true =>
    by_cases h256 : 256 < l.length
    · have e : k = 10 := by rw [HK.out]; simp [chkN, hf, h256]
      clear hf
      have hz : (256 : Int) < (l.length : Int) := by omega
      go_wp2
      go_ret
      rw [e]
      exact ⟨rfl, H4.out⟩
    · have hz : ¬ (256 : Int) < (l.length : Int) := by omega
      by_cases h1 : m < 0
      · have e : k = 9 := by rw [HK.out]; simp [chkN, hf, h256, mok]; omega
        clear hf
        go_wp2
        go_ret
        rw [e]
        exact ⟨rfl, H4.out⟩
      · by_cases h2 : 2 < m
        · have e : k = 9 := by rw [HK.out]; simp [chkN, hf, h256, mok]; omega
          clear hf
          go_wp2
          go_ret
          rw [e]
          exact ⟨rfl, H4.out⟩
        · have hm : mok m = true := decide_eq_true (by omega)
          by_cases hr : r < 0
          · have e : k = 3 := by rw [HK.out]; simp [chkN, hf, h256, hm, hr]
            clear hf hm
            go_wp2
            go_ret
            rw [e]
            exact ⟨rfl, H4.out⟩
          · have e : k = 0 := by rw [HK.out]; simp [chkN, hf, h256, hm, hr]
            clear hf hm
            go_wp2
            go_ret
            rw [e]
            exact ⟨rfl, H4.out⟩
end Go.Proofs.YtjenbhaaahpliaaDoor
