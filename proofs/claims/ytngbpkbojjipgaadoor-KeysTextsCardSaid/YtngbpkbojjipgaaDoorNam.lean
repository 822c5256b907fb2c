/-
  The names that are told, the program's and the document's.
-/
import Derived.Test.YtngbpkbojjipgaaDoorKind
namespace Go.Proofs.YtngbpkbojjipgaaDoor
open Go.RowKit Go.Lib
set_option linter.unusedVariables false

theorem kns_take : ∀ i, i < 16 → kns.take (i + 1) = kns.take i ++ [kn i] := by decide +kernel
def Named (w : World) (e : Ending) (w' : World) : Prop := ∃ v, e = .returned v ∧ SOwn w' w.heap.size v kns ∧ Stp [] w [] w'
set_option maxHeartbeats 1000000 in
set_option maxRecDepth 100000 in
theorem names_run (w : World) (hT : Tabs w) : Calls Tryd.prog 9 #[] w (Named w) := by
  have hR := hT.range
  have hI := kinds_info
  have HV : Hid (∀ i : Nat, i < 16 → ∀ W, (Instr.index 50 (.agg NVs.toArray) (.int .i64 (i : Int))).run Tryd.prog W = .ok (.agg #[.string (st (kn i)), .string (st (kt i))]) W) := Lib.hid nv_index
  clear hT
  generalize NVs = cs at *
  go_enter Tryd.func9, Tryd.ntmps9
  go_wp2_with (refine wpList_load_mid rfl 50 (.global 0) rfl 0 0 rfl cs _ hR Tryd.underlying50 rfl hI ?_)
  clear hR hI
  generalize Value.agg cs.toArray = V at *
  go_loopg [1, 5] 16 (fun gk v1 vi wr => ∃ i : Nat, vi = .int .i64 (i : Int) ∧ i ≤ 16 ∧ 16 - i ≤ gk ∧ Aside (SOwn wr w.heap.size v1 (kns.take i) ∧ Stp [] w [] wr))
  case atStart => exact ⟨0, rfl, by omega, by omega, SOwn.nil _ _, Stp.refl _ _⟩
  case round =>
    obtain ⟨i, rfl, hi7, hg, HS⟩ := hrel
    by_cases hlt : i < 16
    · have hltz : (i : Int) < 16 := by omega
      have hix := HV.out i hlt
      obtain ⟨hO, hSt⟩ := HS.out
      obtain ⟨a3, cap3, hv3, hn3, hc3, hm3, hr3⟩ := hO.form
      subst hv3
      have hnl : (kns.take i).length ≤ 16 := by rw [List.length_take]; omega
      have HE : Aside (kns.take (i + 1) = kns.take i ++ [kn i]) := kns_take i hlt
      generalize kn i = s at *
      generalize st (kt i) = sm at *
      have hone := one_str (wr.alloc (.cells #[.string (st s), .string sm] 49)) (st s) s rfl
      have hsz1 : (wr.alloc (.cells #[.string (st s), .string sm] 49)).heap.size = wr.heap.size + 1 := World.size_alloc _ _
      rw [hsz1] at hone
      have hst2 : Stp [] wr [] ((wr.alloc (.cells #[.string (st s), .string sm] 49)).alloc (.cells #[.string (st s)] 9)) := (Stp.alloc _ _ _).trans (Stp.alloc _ _ _)
      have HL := Lib.hid (And.intro (hO.stays hst2) (And.intro (hSt.trans hst2) (And.intro hone hSt.size)))
      clear HS hO hSt hr3 hn3 hm3 hst2 hone hsz1
      go_wp2_with (at_builtin
                   refine wpList_appS rfl (.tmp 8) (.tmp 11) rfl w.heap.size (.slice a3 (kns.take i).length cap3) (kns.take i) rfl HL.out.1 ⟨wr.heap.size + 1, 0, none⟩ 1 1 [s] rfl rfl HL.out.2.2.1 (by simp only [List.length_singleton]; omega) (by have := HL.out.2.2.2; rw [World.size_alloc, World.size_alloc]; omega) ?_
                   intro v2 w2 ho2 hg2 hv2
                   have HW : Aside (SOwn w2 w.heap.size v2 (kns.take i ++ [s]) ∧ Stp [] w [] w2) := ⟨ho2, HL.out.1.grown (Nat.le_refl _) HL.out.2.1 hg2⟩
                   clear ho2 hg2 hv2)
      go_roundg (16 - (i + 1))
      case measure => omega
      case rel => exact ⟨i + 1, by go_num, by omega, by omega, by rw [HE.out]; exact HW.out.1, HW.out.2⟩
    · have hltz : ¬ (i : Int) < 16 := by omega
      obtain rfl : i = 16 := by omega
      go_wp2
      go_ret
      exact ⟨_, rfl, HS.out.1, HS.out.2⟩
set_option maxHeartbeats 1000000 in
set_option maxRecDepth 100000 in
theorem rnames_run (w : World) : Calls Tryd.prog 10 #[] w (Named w) := by
  have H0 : Aside (SOwn (w.alloc (.cells (kns.map fun x => Value.string (st x)).toArray 9)) w.heap.size (.slice (some ⟨w.heap.size, 0, none⟩) 16 16) kns) := by
    have := World.ownsRow_lit (base := w.heap.size) (e := 9) (size := 1) w (kns.map fun x => Value.string (st x)).toArray 16 (Nat.le_refl _) (by unfold maxLen; omega) rfl
    rw [List.toList_toArray] at this
    exact this
  go_enter Tryd.func10, Tryd.ntmps10
  go_wp2
  go_ret
  exact ⟨_, rfl, H0.out, Stp.alloc _ _ _⟩
end Go.Proofs.YtngbpkbojjipgaaDoor
