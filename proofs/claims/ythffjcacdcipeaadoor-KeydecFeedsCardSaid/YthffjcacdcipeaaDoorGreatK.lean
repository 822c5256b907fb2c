/-
  great of whispererlaw10; a row of keys cut.
-/
import Derived.Test.YthffjcacdcipeaaDoorReadD
import Derived.Test.YthffjcacdcipeaaDoorArgs
import Derived.Test.YthffjcacdcipeaaDoorWKeydecPieces
namespace Go.Proofs.YthffjcacdcipeaaDoor
open Go.RowKit Go.Lib
set_option linter.unusedVariables false

/-! ### A row of keys, cut -/
theorem elemK : Tryd.prog.elem 30 = 41 := by kernel_rfl
theorem sizeK (w : World) : (sizeOf 41).run Tryd.prog w = .ok 2 w := by kernel_rfl
theorem undK : Tryd.prog.underlying 30 = some (.slice (Tryd.prog.elem 30)) := by kernel_rfl
def cutk (a : Option Addr) (i N : Nat) : Option Addr := if N = i then a else a.map (·.add (i * 2))
theorem cutk_l (a : Option Addr) (n N i : Nat) (hi : i ≤ n) (w : World) :
    (Instr.slice 30 (.slice a n N) (some (.int .i64 (i : Int))) none none).run Tryd.prog w = .ok (.slice (cutk a i N) (n - i) (N - i)) w := by
  rw [run_slice_l (P := Tryd.prog) w _ a n N undK .i64 i (by omega) (by omega), elemK, sizeK]
  simp [Result.andThen, sliced, cutk]
theorem Kts.cutk {w : World} {a : Option Addr} {L : List Ky} (h : Kts w a L) {i N : Nat} (hi : i ≤ L.length) (hN : L.length ≤ N) : Kts w (cutk a i N) (L.drop i) := fun hl => by
  have h0 : 0 < (L.drop i).length := List.length_pos_iff.2 hl
  rw [List.length_drop] at h0
  obtain ⟨b, off, rfl, h2⟩ := h (by intro e; subst e; simp at h0)
  refine ⟨b, off + i * 2, ?_, fun k hk => ?_⟩
  · unfold Go.Proofs.YthffjcacdcipeaaDoor.cutk
    rw [if_neg (by omega)]
    simp [addr_add]
  · rw [List.length_drop] at hk
    have := h2 (i + k) (by omega)
    rw [show off + (i + k) * 2 = off + i * 2 + k * 2 by omega] at this
    simpa using this
/-! ### great -/
/-- How many bytes there are. -/
def total (L : List Sb) : Nat := (L.map (fun y => y.x.length)).sum
theorem total_snoc (L : List Sb) (k : Nat) (hk : k < L.length) : total (L.take (k + 1)) = total (L.take k) + (L[k]!).x.length := by
  unfold total
  rw [List.take_succ_eq_append_getElem hk, getElem!_pos L k hk, List.map_append, List.sum_append, List.map_cons, List.map_nil, List.sum_cons, List.sum_nil, Nat.add_zero]
theorem total_le (L : List Sb) (h : ∀ y ∈ L, y.x.length ≤ 140737488355328) : total L ≤ L.length * 140737488355328 := by
  unfold total
  induction L with
  | nil => simp
  | cons y L ih =>
    have h1 := ih (fun z hz => h z (List.mem_cons_of_mem _ hz))
    have h2 := h y (by simp)
    simp only [List.map_cons, List.sum_cons, List.length_cons]
    omega
/-- All bytes of pieces. -/
def cat (L : List Sb) : List UInt8 := L.flatMap Sb.x
theorem cat_snoc (L : List Sb) (k : Nat) (hk : k < L.length) : cat (L.take (k + 1)) = cat (L.take k) ++ (L[k]!).x := by
  unfold cat
  rw [List.take_succ_eq_append_getElem hk, getElem!_pos L k hk, List.flatMap_append, List.flatMap_cons, List.flatMap_nil, List.append_nil]
theorem cat_len (L : List Sb) : (cat L).length = total L := by
  unfold cat total
  rw [List.length_flatMap]
theorem total_mono (L : List Sb) (k : Nat) : total (L.take k) ≤ total L := by
  have e : L = L.take k ++ L.drop k := (List.take_append_drop k L).symm
  unfold total
  conv => rhs; rw [e]
  rw [List.map_append, List.sum_append]
  omega
def Greats (L : List Sb) (W : World) (e : Ending) (w' : World) : Prop := (∃ r : Bool, e = .returned (.bool r) ∧ (r = false → L.length ≤ 100 ∧ total L ≤ 2000)) ∧ w' = W
theorem maxLen_eq : maxLen ≤ 9223372036854775807 := by unfold maxLen; omega
set_option maxHeartbeats 1000000 in
set_option maxRecDepth 100000 in
theorem great_run (a0 : Option Addr) (cap0 n : Nat) (L : List Sb) (w : World) (hb : Ss w a0 L) (hn : n = L.length) (hn2 : n ≤ 9223372036854775807) (hsz : ∀ y ∈ L, y.x.length ≤ 140737488355328) : Calls Tryd.prog 12 #[.slice a0 n cap0] w (Greats L w) := by
  have HB := Lib.hid (And.intro hb (And.intro hn hsz))
  clear hb hn hsz
  by_cases hL : L.length ≤ 100
  · have hnl : n ≤ 100 := by rw [HB.out.2.1]; exact hL
    have hnz : ¬ (100 : Int) < (n : Int) := by omega
    go_enter Tryd.func12, Tryd.ntmps12
    go_wp2
    go_loopg [3, 8] n (fun gk v3 vi wr => ∃ k s : Nat, vi = .int .i64 (k : Int) ∧ v3 = .int .i64 (s : Int) ∧ k ≤ n ∧ n - k ≤ gk ∧ s ≤ 14073748835532800 ∧ Aside (wr = w ∧ s = total (L.take k)))
    case atStart => exact ⟨0, 0, rfl, rfl, by omega, by omega, by omega, rfl, by simp [total]⟩
    case round =>
      obtain ⟨k, s, rfl, rfl, hk, hg, hs, HS⟩ := hrel
      obtain rfl : wr = w := HS.out.1
      by_cases hlt : k < n
      · have hltz : (k : Int) < (n : Int) := by omega
        have hkl : k < L.length := by rw [← HB.out.2.1]; exact hlt
        obtain ⟨bb, off, rfl, _, hc⟩ := HB.out.1 (by intro e; rw [e] at hkl; simp at hkl)
        have hc0 := (hc k hkl).1
        have HT : Aside (total (L.take (k + 1)) = s + (L[k]!).x.length) := by
          show total (L.take (k + 1)) = s + (L[k]!).x.length
          rw [total_snoc L k hkl, HS.out.2]
        have HT2 : Aside (total (L.take (k + 1)) ≤ 14073748835532800) := by
          have h1 := total_le (L.take (k + 1)) (fun y hy => HB.out.2.2 y (List.mem_of_mem_take hy))
          have h2 : (L.take (k + 1)).length ≤ 100 := by rw [List.length_take]; omega
          show total (L.take (k + 1)) ≤ 14073748835532800
          omega
        have hx : (L[k]!).x.length ≤ 140737488355328 := HB.out.2.2 _ (by rw [getElem!_pos L k hkl]; exact List.getElem_mem hkl)
        generalize (L[k]!).x.length = xl at *
        generalize (L[k]!).p = yp at *
        generalize (L[k]!).cap = yc at *
        clear hc hkl
        go_wp2
        go_roundg (n - (k + 1))
        case measure => omega
        case rel => exact ⟨k + 1, s + xl, by go_num, by go_num, by omega, by omega, by have h1 := HT.out; have h2 := HT2.out; omega, rfl, HT.out.symm⟩
      · have hltz : ¬ (k : Int) < (n : Int) := by omega
        obtain rfl : k = n := by omega
        have HT : Aside (s = total L) := by
          have h1 := HS.out.2
          rw [List.take_of_length_le (by rw [HB.out.2.1]; exact Nat.le_refl _)] at h1
          exact h1
        by_cases h2 : s ≤ 2000
        · have h2z : ¬ (2000 : Int) < (s : Int) := by omega
          go_wp2
          go_ret
          exact ⟨⟨_, rfl, fun _ => ⟨hL, by rw [← HT.out]; exact h2⟩⟩, rfl⟩
        · have h2z : (2000 : Int) < (s : Int) := by omega
          go_wp2
          go_ret
          exact ⟨⟨true, by simp, fun h => by cases h⟩, rfl⟩
  · have hnl : 100 < n := by rw [HB.out.2.1]; omega
    have hnz : (100 : Int) < (n : Int) := by omega
    go_enter Tryd.func12, Tryd.ntmps12
    go_wp2
    go_loopg [3, 8] n (fun gk v3 vi wr => ∃ (k : Nat) (s : Int), vi = .int .i64 (k : Int) ∧ v3 = .int .i64 s ∧ k ≤ n ∧ n - k ≤ gk ∧ Aside (wr = w))
    case atStart => exact ⟨0, 0, rfl, rfl, by omega, by omega, rfl⟩
    case round =>
      obtain ⟨k, s, rfl, rfl, hk, hg, HS⟩ := hrel
      obtain rfl : wr = w := HS.out
      by_cases hlt : k < n
      · have hltz : (k : Int) < (n : Int) := by omega
        have hkl : k < L.length := by rw [← HB.out.2.1]; exact hlt
        obtain ⟨bb, off, rfl, _, hc⟩ := HB.out.1 (by intro e; rw [e] at hkl; simp at hkl)
        have hc0 := (hc k hkl).1
        have hk1 : (k : Int) + 1 ≤ 9223372036854775807 := by omega
        generalize (L[k]!).x.length = xl at *
        generalize (L[k]!).p = yp at *
        generalize (L[k]!).cap = yc at *
        clear hc hkl
        go_wp2
        go_roundg (n - (k + 1))
        case measure => omega
        case rel => exact ⟨k + 1, _, by go_num, rfl, by omega, by omega, rfl⟩
      · have hltz : ¬ (k : Int) < (n : Int) := by omega
        go_wp2
        go_ret
        exact ⟨⟨true, by simp, fun h => by cases h⟩, rfl⟩
end Go.Proofs.YthffjcacdcipeaaDoor
