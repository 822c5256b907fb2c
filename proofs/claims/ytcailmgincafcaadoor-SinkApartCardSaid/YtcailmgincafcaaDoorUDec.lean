/-
  The library's DecodeRune at a slice of at least one byte: the rune and its width. What lay in memory stays.
-/
import Derived.Test.YtcailmgincafcaaDoorUFull
import Derived.LoopTactic
import Derived.Deep.DeepFit
namespace Go.Proofs.YtcailmgincafcaaDoor.U
open Go.RowKit Go.Lib
set_option linter.unusedVariables false

/-- What the library's decoder hands back, over Int. -/
def Dec (r : Nat × Nat) (w : World) (e : Ending) (w' : World) : Prop := e = .returned (.tuple #[.int .i32 r.1, .int .i64 r.2]) ∧ Below w.heap.size w w'

theorem mask_240 : wrap32 515396075520 / 2147483648 = 0 := by unfold wrap32; omega
theorem mask_241 : wrap32 517543559168 / 2147483648 = -1 := by unfold wrap32; omega
set_option maxRecDepth 100000 in
theorem byte_kept : ∀ x : Fin 256, bits .or .i32 (bits .andNot .i32 ((x.val : Nat) : Int) 0) (bits .and .i32 65533 0) = ((x.val : Nat) : Int) := by decide
set_option maxRecDepth 100000 in
theorem byte_lost : ∀ x : Fin 256, bits .or .i32 (bits .andNot .i32 ((x.val : Nat) : Int) (-1)) (bits .and .i32 65533 (-1)) = 65533 := by decide

set_option maxHeartbeats 1000000 in
set_option maxRecDepth 100000 in
theorem slow_241 (b off n cap b0 : Nat) (w : World) (hn : 0 < n) (hc0 : w.cell? ⟨b, off, none⟩ = some (.int .u8 b0)) (l0 : b0 < 256)
    (hF : w.cell? ⟨0, b0, none⟩ = some (.int .u8 241)) :
    Calls Tryd.prog 38 #[.slice (some ⟨b, off, none⟩) n cap] w (Dec (65533, 1) w) := by
  have hz0 : (0 : Int) < (n : Int) := by omega
  have hz0' : ¬ ((n : Int) < 1) := by omega
  go_enter Tryd.func38, Tryd.ntmps38
  go_wp2
  rw [mask_241, byte_lost ⟨b0, l0⟩]
  go_ret2
  exact ⟨rfl, Below.refl _ _⟩

set_option maxHeartbeats 1000000 in
set_option maxRecDepth 100000 in
theorem slow_2 (b off n cap b0 b1 b2 b3 : Nat) (w : World) (hn : 0 < n) (hc0 : w.cell? ⟨b, off, none⟩ = some (.int .u8 b0)) (l0 : b0 < 256) (l1 : b1 < 256) (l2 : b2 < 256) (l3 : b3 < 256)
    (hc1 : 1 < n → w.cell? ⟨b, off + 1, none⟩ = some (.int .u8 b1)) (hc2 : 2 < n → w.cell? ⟨b, off + 2, none⟩ = some (.int .u8 b2)) (hc3 : 3 < n → w.cell? ⟨b, off + 3, none⟩ = some (.int .u8 b3))
    (hF : w.cell? ⟨0, b0, none⟩ = some (.int .u8 2)) (ha0 : w.cell? ⟨1, 0, none⟩ = some (.int .u8 128)) (ha1 : w.cell? ⟨1, 1, none⟩ = some (.int .u8 191)) :
    Calls Tryd.prog 38 #[.slice (some ⟨b, off, none⟩) n cap] w (Dec (slowN n b0 b1 b2 b3 2 128 191) w) := by
  have hb : b < w.heap.size := block_lt_of_cell hc0
  have hz0 : (0 : Int) < (n : Int) := by omega
  have hz0' : ¬ ((n : Int) < 1) := by omega
  by_cases hs : n < 2
  · have hnz : (n : Int) < 2 := by omega
    clear hc1 hc2 hc3
    go_enter Tryd.func38, Tryd.ntmps38
    go_wp2
    all_goals
      go_ret2
      refine ⟨?_, (Below.refl _ _).alloc (Nat.le_refl _) _⟩
      unfold slowN
      repeat' split
      all_goals first
        | (exfalso; omega)
        | rfl
  · have hz1 : (1 : Int) < (n : Int) := by omega
    have hs1 := hc1 (by omega)
    clear hc1 hc2 hc3
    go_enter Tryd.func38, Tryd.ntmps38
    go_wp2
    all_goals
      go_ret2
      refine ⟨?_, (Below.refl _ _).alloc (Nat.le_refl _) _⟩
      unfold slowN
      repeat' split
      all_goals first
        | (exfalso; omega)
        | rfl
        | (simp only [Int.natCast_add, Int.natCast_mul, Int.natCast_emod, Int.natCast_ofNat]; rfl)

set_option maxHeartbeats 1000000 in
set_option maxRecDepth 100000 in
theorem slow_19 (b off n cap b0 b1 b2 b3 : Nat) (w : World) (hn : 0 < n) (hc0 : w.cell? ⟨b, off, none⟩ = some (.int .u8 b0)) (l0 : b0 < 256) (l1 : b1 < 256) (l2 : b2 < 256) (l3 : b3 < 256)
    (hc1 : 1 < n → w.cell? ⟨b, off + 1, none⟩ = some (.int .u8 b1)) (hc2 : 2 < n → w.cell? ⟨b, off + 2, none⟩ = some (.int .u8 b2)) (hc3 : 3 < n → w.cell? ⟨b, off + 3, none⟩ = some (.int .u8 b3))
    (hF : w.cell? ⟨0, b0, none⟩ = some (.int .u8 19)) (ha0 : w.cell? ⟨1, 2, none⟩ = some (.int .u8 160)) (ha1 : w.cell? ⟨1, 3, none⟩ = some (.int .u8 191)) :
    Calls Tryd.prog 38 #[.slice (some ⟨b, off, none⟩) n cap] w (Dec (slowN n b0 b1 b2 b3 3 160 191) w) := by
  have hb : b < w.heap.size := block_lt_of_cell hc0
  have hz0 : (0 : Int) < (n : Int) := by omega
  have hz0' : ¬ ((n : Int) < 1) := by omega
  by_cases hs : n < 3
  · have hnz : (n : Int) < 3 := by omega
    clear hc1 hc2 hc3
    go_enter Tryd.func38, Tryd.ntmps38
    go_wp2
    all_goals
      go_ret2
      refine ⟨?_, (Below.refl _ _).alloc (Nat.le_refl _) _⟩
      unfold slowN
      repeat' split
      all_goals first
        | (exfalso; omega)
        | rfl
  · have hz1 : (1 : Int) < (n : Int) := by omega
    have hs1 := hc1 (by omega)
    have hz2 : (2 : Int) < (n : Int) := by omega
    have hs2 := hc2 (by omega)
    clear hc1 hc2 hc3
    go_enter Tryd.func38, Tryd.ntmps38
    go_wp2
    all_goals
      go_ret2
      refine ⟨?_, (Below.refl _ _).alloc (Nat.le_refl _) _⟩
      unfold slowN
      repeat' split
      all_goals first
        | (exfalso; omega)
        | rfl
        | (simp only [Int.natCast_add, Int.natCast_mul, Int.natCast_emod, Int.natCast_ofNat]; rfl)

set_option maxHeartbeats 1000000 in
set_option maxRecDepth 100000 in
theorem slow_3 (b off n cap b0 b1 b2 b3 : Nat) (w : World) (hn : 0 < n) (hc0 : w.cell? ⟨b, off, none⟩ = some (.int .u8 b0)) (l0 : b0 < 256) (l1 : b1 < 256) (l2 : b2 < 256) (l3 : b3 < 256)
    (hc1 : 1 < n → w.cell? ⟨b, off + 1, none⟩ = some (.int .u8 b1)) (hc2 : 2 < n → w.cell? ⟨b, off + 2, none⟩ = some (.int .u8 b2)) (hc3 : 3 < n → w.cell? ⟨b, off + 3, none⟩ = some (.int .u8 b3))
    (hF : w.cell? ⟨0, b0, none⟩ = some (.int .u8 3)) (ha0 : w.cell? ⟨1, 0, none⟩ = some (.int .u8 128)) (ha1 : w.cell? ⟨1, 1, none⟩ = some (.int .u8 191)) :
    Calls Tryd.prog 38 #[.slice (some ⟨b, off, none⟩) n cap] w (Dec (slowN n b0 b1 b2 b3 3 128 191) w) := by
  have hb : b < w.heap.size := block_lt_of_cell hc0
  have hz0 : (0 : Int) < (n : Int) := by omega
  have hz0' : ¬ ((n : Int) < 1) := by omega
  by_cases hs : n < 3
  · have hnz : (n : Int) < 3 := by omega
    clear hc1 hc2 hc3
    go_enter Tryd.func38, Tryd.ntmps38
    go_wp2
    all_goals
      go_ret2
      refine ⟨?_, (Below.refl _ _).alloc (Nat.le_refl _) _⟩
      unfold slowN
      repeat' split
      all_goals first
        | (exfalso; omega)
        | rfl
  · have hz1 : (1 : Int) < (n : Int) := by omega
    have hs1 := hc1 (by omega)
    have hz2 : (2 : Int) < (n : Int) := by omega
    have hs2 := hc2 (by omega)
    clear hc1 hc2 hc3
    go_enter Tryd.func38, Tryd.ntmps38
    go_wp2
    all_goals
      go_ret2
      refine ⟨?_, (Below.refl _ _).alloc (Nat.le_refl _) _⟩
      unfold slowN
      repeat' split
      all_goals first
        | (exfalso; omega)
        | rfl
        | (simp only [Int.natCast_add, Int.natCast_mul, Int.natCast_emod, Int.natCast_ofNat]; rfl)

set_option maxHeartbeats 1000000 in
set_option maxRecDepth 100000 in
theorem slow_35 (b off n cap b0 b1 b2 b3 : Nat) (w : World) (hn : 0 < n) (hc0 : w.cell? ⟨b, off, none⟩ = some (.int .u8 b0)) (l0 : b0 < 256) (l1 : b1 < 256) (l2 : b2 < 256) (l3 : b3 < 256)
    (hc1 : 1 < n → w.cell? ⟨b, off + 1, none⟩ = some (.int .u8 b1)) (hc2 : 2 < n → w.cell? ⟨b, off + 2, none⟩ = some (.int .u8 b2)) (hc3 : 3 < n → w.cell? ⟨b, off + 3, none⟩ = some (.int .u8 b3))
    (hF : w.cell? ⟨0, b0, none⟩ = some (.int .u8 35)) (ha0 : w.cell? ⟨1, 4, none⟩ = some (.int .u8 128)) (ha1 : w.cell? ⟨1, 5, none⟩ = some (.int .u8 159)) :
    Calls Tryd.prog 38 #[.slice (some ⟨b, off, none⟩) n cap] w (Dec (slowN n b0 b1 b2 b3 3 128 159) w) := by
  have hb : b < w.heap.size := block_lt_of_cell hc0
  have hz0 : (0 : Int) < (n : Int) := by omega
  have hz0' : ¬ ((n : Int) < 1) := by omega
  by_cases hs : n < 3
  · have hnz : (n : Int) < 3 := by omega
    clear hc1 hc2 hc3
    go_enter Tryd.func38, Tryd.ntmps38
    go_wp2
    all_goals
      go_ret2
      refine ⟨?_, (Below.refl _ _).alloc (Nat.le_refl _) _⟩
      unfold slowN
      repeat' split
      all_goals first
        | (exfalso; omega)
        | rfl
  · have hz1 : (1 : Int) < (n : Int) := by omega
    have hs1 := hc1 (by omega)
    have hz2 : (2 : Int) < (n : Int) := by omega
    have hs2 := hc2 (by omega)
    clear hc1 hc2 hc3
    go_enter Tryd.func38, Tryd.ntmps38
    go_wp2
    all_goals
      go_ret2
      refine ⟨?_, (Below.refl _ _).alloc (Nat.le_refl _) _⟩
      unfold slowN
      repeat' split
      all_goals first
        | (exfalso; omega)
        | rfl
        | (simp only [Int.natCast_add, Int.natCast_mul, Int.natCast_emod, Int.natCast_ofNat]; rfl)

set_option maxHeartbeats 1000000 in
set_option maxRecDepth 100000 in
theorem slow_52 (b off n cap b0 b1 b2 b3 : Nat) (w : World) (hn : 0 < n) (hc0 : w.cell? ⟨b, off, none⟩ = some (.int .u8 b0)) (l0 : b0 < 256) (l1 : b1 < 256) (l2 : b2 < 256) (l3 : b3 < 256)
    (hc1 : 1 < n → w.cell? ⟨b, off + 1, none⟩ = some (.int .u8 b1)) (hc2 : 2 < n → w.cell? ⟨b, off + 2, none⟩ = some (.int .u8 b2)) (hc3 : 3 < n → w.cell? ⟨b, off + 3, none⟩ = some (.int .u8 b3))
    (hF : w.cell? ⟨0, b0, none⟩ = some (.int .u8 52)) (ha0 : w.cell? ⟨1, 6, none⟩ = some (.int .u8 144)) (ha1 : w.cell? ⟨1, 7, none⟩ = some (.int .u8 191)) :
    Calls Tryd.prog 38 #[.slice (some ⟨b, off, none⟩) n cap] w (Dec (slowN n b0 b1 b2 b3 4 144 191) w) := by
  have hb : b < w.heap.size := block_lt_of_cell hc0
  have hz0 : (0 : Int) < (n : Int) := by omega
  have hz0' : ¬ ((n : Int) < 1) := by omega
  by_cases hs : n < 4
  · have hnz : (n : Int) < 4 := by omega
    clear hc1 hc2 hc3
    go_enter Tryd.func38, Tryd.ntmps38
    go_wp2
    all_goals
      go_ret2
      refine ⟨?_, (Below.refl _ _).alloc (Nat.le_refl _) _⟩
      unfold slowN
      repeat' split
      all_goals first
        | (exfalso; omega)
        | rfl
  · have hz1 : (1 : Int) < (n : Int) := by omega
    have hs1 := hc1 (by omega)
    have hz2 : (2 : Int) < (n : Int) := by omega
    have hs2 := hc2 (by omega)
    have hz3 : (3 : Int) < (n : Int) := by omega
    have hs3 := hc3 (by omega)
    clear hc1 hc2 hc3
    go_enter Tryd.func38, Tryd.ntmps38
    go_wp2
    all_goals
      go_ret2
      refine ⟨?_, (Below.refl _ _).alloc (Nat.le_refl _) _⟩
      unfold slowN
      repeat' split
      all_goals first
        | (exfalso; omega)
        | rfl
        | (simp only [Int.natCast_add, Int.natCast_mul, Int.natCast_emod, Int.natCast_ofNat]; rfl)

set_option maxHeartbeats 1000000 in
set_option maxRecDepth 100000 in
theorem slow_4 (b off n cap b0 b1 b2 b3 : Nat) (w : World) (hn : 0 < n) (hc0 : w.cell? ⟨b, off, none⟩ = some (.int .u8 b0)) (l0 : b0 < 256) (l1 : b1 < 256) (l2 : b2 < 256) (l3 : b3 < 256)
    (hc1 : 1 < n → w.cell? ⟨b, off + 1, none⟩ = some (.int .u8 b1)) (hc2 : 2 < n → w.cell? ⟨b, off + 2, none⟩ = some (.int .u8 b2)) (hc3 : 3 < n → w.cell? ⟨b, off + 3, none⟩ = some (.int .u8 b3))
    (hF : w.cell? ⟨0, b0, none⟩ = some (.int .u8 4)) (ha0 : w.cell? ⟨1, 0, none⟩ = some (.int .u8 128)) (ha1 : w.cell? ⟨1, 1, none⟩ = some (.int .u8 191)) :
    Calls Tryd.prog 38 #[.slice (some ⟨b, off, none⟩) n cap] w (Dec (slowN n b0 b1 b2 b3 4 128 191) w) := by
  have hb : b < w.heap.size := block_lt_of_cell hc0
  have hz0 : (0 : Int) < (n : Int) := by omega
  have hz0' : ¬ ((n : Int) < 1) := by omega
  by_cases hs : n < 4
  · have hnz : (n : Int) < 4 := by omega
    clear hc1 hc2 hc3
    go_enter Tryd.func38, Tryd.ntmps38
    go_wp2
    all_goals
      go_ret2
      refine ⟨?_, (Below.refl _ _).alloc (Nat.le_refl _) _⟩
      unfold slowN
      repeat' split
      all_goals first
        | (exfalso; omega)
        | rfl
  · have hz1 : (1 : Int) < (n : Int) := by omega
    have hs1 := hc1 (by omega)
    have hz2 : (2 : Int) < (n : Int) := by omega
    have hs2 := hc2 (by omega)
    have hz3 : (3 : Int) < (n : Int) := by omega
    have hs3 := hc3 (by omega)
    clear hc1 hc2 hc3
    go_enter Tryd.func38, Tryd.ntmps38
    go_wp2
    all_goals
      go_ret2
      refine ⟨?_, (Below.refl _ _).alloc (Nat.le_refl _) _⟩
      unfold slowN
      repeat' split
      all_goals first
        | (exfalso; omega)
        | rfl
        | (simp only [Int.natCast_add, Int.natCast_mul, Int.natCast_emod, Int.natCast_ofNat]; rfl)

set_option maxHeartbeats 1000000 in
set_option maxRecDepth 100000 in
theorem slow_68 (b off n cap b0 b1 b2 b3 : Nat) (w : World) (hn : 0 < n) (hc0 : w.cell? ⟨b, off, none⟩ = some (.int .u8 b0)) (l0 : b0 < 256) (l1 : b1 < 256) (l2 : b2 < 256) (l3 : b3 < 256)
    (hc1 : 1 < n → w.cell? ⟨b, off + 1, none⟩ = some (.int .u8 b1)) (hc2 : 2 < n → w.cell? ⟨b, off + 2, none⟩ = some (.int .u8 b2)) (hc3 : 3 < n → w.cell? ⟨b, off + 3, none⟩ = some (.int .u8 b3))
    (hF : w.cell? ⟨0, b0, none⟩ = some (.int .u8 68)) (ha0 : w.cell? ⟨1, 8, none⟩ = some (.int .u8 128)) (ha1 : w.cell? ⟨1, 9, none⟩ = some (.int .u8 143)) :
    Calls Tryd.prog 38 #[.slice (some ⟨b, off, none⟩) n cap] w (Dec (slowN n b0 b1 b2 b3 4 128 143) w) := by
  have hb : b < w.heap.size := block_lt_of_cell hc0
  have hz0 : (0 : Int) < (n : Int) := by omega
  have hz0' : ¬ ((n : Int) < 1) := by omega
  by_cases hs : n < 4
  · have hnz : (n : Int) < 4 := by omega
    clear hc1 hc2 hc3
    go_enter Tryd.func38, Tryd.ntmps38
    go_wp2
    all_goals
      go_ret2
      refine ⟨?_, (Below.refl _ _).alloc (Nat.le_refl _) _⟩
      unfold slowN
      repeat' split
      all_goals first
        | (exfalso; omega)
        | rfl
  · have hz1 : (1 : Int) < (n : Int) := by omega
    have hs1 := hc1 (by omega)
    have hz2 : (2 : Int) < (n : Int) := by omega
    have hs2 := hc2 (by omega)
    have hz3 : (3 : Int) < (n : Int) := by omega
    have hs3 := hc3 (by omega)
    clear hc1 hc2 hc3
    go_enter Tryd.func38, Tryd.ntmps38
    go_wp2
    all_goals
      go_ret2
      refine ⟨?_, (Below.refl _ _).alloc (Nat.le_refl _) _⟩
      unfold slowN
      repeat' split
      all_goals first
        | (exfalso; omega)
        | rfl
        | (simp only [Int.natCast_add, Int.natCast_mul, Int.natCast_emod, Int.natCast_ofNat]; rfl)


end Go.Proofs.YtcailmgincafcaaDoor.U
