/-
  The kinds as a value; keys.kindOf.
-/
import Derived.Test.YtngbpkbojjipgaaDoorAt
namespace Go.Proofs.YtngbpkbojjipgaaDoor
open Go.RowKit Go.Lib
set_option linter.unusedVariables false

/-! ### The kinds, as a value -/
def NVs : List Value := [.string (st (kn 0)), .string (st (kt 0)), .string (st (kn 1)), .string (st (kt 1)), .string (st (kn 2)), .string (st (kt 2)), .string (st (kn 3)), .string (st (kt 3)), .string (st (kn 4)), .string (st (kt 4)), .string (st (kn 5)), .string (st (kt 5)), .string (st (kn 6)), .string (st (kt 6)), .string (st (kn 7)), .string (st (kt 7)), .string (st (kn 8)), .string (st (kt 8)), .string (st (kn 9)), .string (st (kt 9)), .string (st (kn 10)), .string (st (kt 10)), .string (st (kn 11)), .string (st (kt 11)), .string (st (kn 12)), .string (st (kt 12)), .string (st (kn 13)), .string (st (kt 13)), .string (st (kn 14)), .string (st (kt 14)), .string (st (kn 15)), .string (st (kt 15))]
def NV : Value := .agg NVs.toArray
theorem nv_0 (W : World) : (Instr.index 50 NV (.int .i64 ((0 : Nat) : Int))).run Tryd.prog W = .ok (.agg #[.string (st (kn 0)), .string (st (kt 0))]) W := by kernel_rfl
theorem nv_1 (W : World) : (Instr.index 50 NV (.int .i64 ((1 : Nat) : Int))).run Tryd.prog W = .ok (.agg #[.string (st (kn 1)), .string (st (kt 1))]) W := by kernel_rfl
theorem nv_2 (W : World) : (Instr.index 50 NV (.int .i64 ((2 : Nat) : Int))).run Tryd.prog W = .ok (.agg #[.string (st (kn 2)), .string (st (kt 2))]) W := by kernel_rfl
theorem nv_3 (W : World) : (Instr.index 50 NV (.int .i64 ((3 : Nat) : Int))).run Tryd.prog W = .ok (.agg #[.string (st (kn 3)), .string (st (kt 3))]) W := by kernel_rfl
theorem nv_4 (W : World) : (Instr.index 50 NV (.int .i64 ((4 : Nat) : Int))).run Tryd.prog W = .ok (.agg #[.string (st (kn 4)), .string (st (kt 4))]) W := by kernel_rfl
theorem nv_5 (W : World) : (Instr.index 50 NV (.int .i64 ((5 : Nat) : Int))).run Tryd.prog W = .ok (.agg #[.string (st (kn 5)), .string (st (kt 5))]) W := by kernel_rfl
theorem nv_6 (W : World) : (Instr.index 50 NV (.int .i64 ((6 : Nat) : Int))).run Tryd.prog W = .ok (.agg #[.string (st (kn 6)), .string (st (kt 6))]) W := by kernel_rfl
theorem nv_7 (W : World) : (Instr.index 50 NV (.int .i64 ((7 : Nat) : Int))).run Tryd.prog W = .ok (.agg #[.string (st (kn 7)), .string (st (kt 7))]) W := by kernel_rfl
theorem nv_8 (W : World) : (Instr.index 50 NV (.int .i64 ((8 : Nat) : Int))).run Tryd.prog W = .ok (.agg #[.string (st (kn 8)), .string (st (kt 8))]) W := by kernel_rfl
theorem nv_9 (W : World) : (Instr.index 50 NV (.int .i64 ((9 : Nat) : Int))).run Tryd.prog W = .ok (.agg #[.string (st (kn 9)), .string (st (kt 9))]) W := by kernel_rfl
theorem nv_10 (W : World) : (Instr.index 50 NV (.int .i64 ((10 : Nat) : Int))).run Tryd.prog W = .ok (.agg #[.string (st (kn 10)), .string (st (kt 10))]) W := by kernel_rfl
theorem nv_11 (W : World) : (Instr.index 50 NV (.int .i64 ((11 : Nat) : Int))).run Tryd.prog W = .ok (.agg #[.string (st (kn 11)), .string (st (kt 11))]) W := by kernel_rfl
theorem nv_12 (W : World) : (Instr.index 50 NV (.int .i64 ((12 : Nat) : Int))).run Tryd.prog W = .ok (.agg #[.string (st (kn 12)), .string (st (kt 12))]) W := by kernel_rfl
theorem nv_13 (W : World) : (Instr.index 50 NV (.int .i64 ((13 : Nat) : Int))).run Tryd.prog W = .ok (.agg #[.string (st (kn 13)), .string (st (kt 13))]) W := by kernel_rfl
theorem nv_14 (W : World) : (Instr.index 50 NV (.int .i64 ((14 : Nat) : Int))).run Tryd.prog W = .ok (.agg #[.string (st (kn 14)), .string (st (kt 14))]) W := by kernel_rfl
theorem nv_15 (W : World) : (Instr.index 50 NV (.int .i64 ((15 : Nat) : Int))).run Tryd.prog W = .ok (.agg #[.string (st (kn 15)), .string (st (kt 15))]) W := by kernel_rfl
theorem nv_index (i : Nat) (hi : i < 16) (W : World) : (Instr.index 50 NV (.int .i64 (i : Int))).run Tryd.prog W = .ok (.agg #[.string (st (kn i)), .string (st (kt i))]) W := by
  have h : i = 0 ∨ i = 1 ∨ i = 2 ∨ i = 3 ∨ i = 4 ∨ i = 5 ∨ i = 6 ∨ i = 7 ∨ i = 8 ∨ i = 9 ∨ i = 10 ∨ i = 11 ∨ i = 12 ∨ i = 13 ∨ i = 14 ∨ i = 15 := by omega
  rcases h with rfl | rfl | rfl | rfl | rfl | rfl | rfl | rfl | rfl | rfl | rfl | rfl | rfl | rfl | rfl | rfl
  · exact nv_0 W
  · exact nv_1 W
  · exact nv_2 W
  · exact nv_3 W
  · exact nv_4 W
  · exact nv_5 W
  · exact nv_6 W
  · exact nv_7 W
  · exact nv_8 W
  · exact nv_9 W
  · exact nv_10 W
  · exact nv_11 W
  · exact nv_12 W
  · exact nv_13 W
  · exact nv_14 W
  · exact nv_15 W

theorem nvs_at (i : Nat) (hi : i < 16) : NVs[2 * i]? = some (.string (st (kn i))) ∧ NVs[2 * i + 1]? = some (.string (st (kt i))) := by
  have h : i = 0 ∨ i = 1 ∨ i = 2 ∨ i = 3 ∨ i = 4 ∨ i = 5 ∨ i = 6 ∨ i = 7 ∨ i = 8 ∨ i = 9 ∨ i = 10 ∨ i = 11 ∨ i = 12 ∨ i = 13 ∨ i = 14 ∨ i = 15 := by omega
  rcases h with rfl | rfl | rfl | rfl | rfl | rfl | rfl | rfl | rfl | rfl | rfl | rfl | rfl | rfl | rfl | rfl
  all_goals exact ⟨rfl, rfl⟩
theorem Tabs.range {w : World} (h : Tabs w) : w.rangeAt 0 0 NVs := by
  intro j v hv
  have hj : j < 32 := (List.getElem?_eq_some_iff.1 hv).1
  rw [Nat.zero_add]
  rcases Nat.mod_two_eq_zero_or_one j with e | e
  · obtain ⟨i, rfl⟩ : ∃ i, j = 2 * i := ⟨j / 2, by omega⟩
    rw [(nvs_at i (by omega)).1] at hv
    rw [(h.kin i (by omega)).1]
    exact hv
  · obtain ⟨i, rfl⟩ : ∃ i, j = 2 * i + 1 := ⟨j / 2, by omega⟩
    rw [(nvs_at i (by omega)).2] at hv
    rw [(h.kin i (by omega)).2]
    exact hv
theorem kinds_info : (Tryd.prog.info? 50).map (·.size) = some NVs.length := by kernel_rfl
/-- The kinds, read whole. -/
theorem Tabs.load {w : World} (h : Tabs w) : (Instr.loadAt 50 (.pointer (some ⟨0, 0, none⟩))).run Tryd.prog w = .ok NV w :=
  run_loadAt_mid (P := Tryd.prog) w 0 0 50 NVs _ h.range Tryd.underlying50 rfl kinds_info

set_option maxHeartbeats 1000000 in
set_option maxRecDepth 100000 in
theorem kind_run (s : List UInt8) (w : World) (hT : Tabs w) : Calls Tryd.prog 29 #[.string (st s)] w (Tells (.int .i64 (kz s)) w) := by
  have hR := hT.range
  have hI := kinds_info
  have HV : Hid (∀ i : Nat, i < 16 → ∀ W, (Instr.index 50 (.agg NVs.toArray) (.int .i64 (i : Int))).run Tryd.prog W = .ok (.agg #[.string (st (kn i)), .string (st (kt i))]) W) := Lib.hid nv_index
  clear hT
  generalize NVs = cs at *
  go_enter Tryd.func29, Tryd.ntmps29
  go_wp2_with (refine wpList_load_mid rfl 50 (.global 0) rfl 0 0 rfl cs _ hR Tryd.underlying50 rfl hI ?_)
  clear hR hI
  generalize Value.agg cs.toArray = V at *
  go_loopg [6] 16 (fun gk vi wr => ∃ i : Nat, vi = .int .i64 (i : Int) ∧ i ≤ 16 ∧ 16 - i ≤ gk ∧ Aside (kix s i = none ∧ Stp [] w [] wr))
  case atStart => exact ⟨0, rfl, by omega, by omega, rfl, Stp.refl _ _⟩
  case round =>
    obtain ⟨i, rfl, hi16, hg, HS⟩ := hrel
    by_cases hlt : i < 16
    · have hltz : (i : Int) < 16 := by omega
      have hix := HV.out i hlt
      by_cases he : kn i = s
      · have hq : ((st (kn i)).toList == (st s).toList) = true := st_yes (by rw [he])
        have HE : Aside (kz s = (i : Int)) := by
          show kz s = (i : Int)
          unfold kz
          rw [kix_at16 hlt HS.out.1 he]
        clear he
        generalize st (kn i) = sn at *
        generalize st (kt i) = sm at *
        go_wp2
        go_ret
        exact ⟨by rw [HE.out]; rfl, HS.out.2.trans (Stp.alloc [] _ _)⟩
      · have hq : ((st (kn i)).toList == (st s).toList) = false := st_no (fun e => he (st_inj e))
        have HE : Aside (kix s (i + 1) = none) := kix_next HS.out.1 he
        clear he
        generalize st (kn i) = sn at *
        generalize st (kt i) = sm at *
        go_wp2
        go_roundg (16 - (i + 1))
        case measure => omega
        case rel => exact ⟨i + 1, by go_num, by omega, by omega, HE.out, HS.out.2.trans (Stp.alloc [] _ _)⟩
    · have hltz : ¬ (i : Int) < 16 := by omega
      obtain rfl : i = 16 := by omega
      have HE : Aside (kz s = -1) := by
        show kz s = -1
        unfold kz
        rw [HS.out.1]
      go_wp2
      go_ret
      exact ⟨by rw [HE.out]; rfl, HS.out.2⟩
end Go.Proofs.YtngbpkbojjipgaaDoor
