/-
  The library's FullRune at a slice of at least one byte: whether its bytes are no mere beginning. What lay in memory stays.
-/
import Derived.Test.YtcailmgincafcaaDoorChecked
import Derived.Test.YtcailmgincafcaaDoorUPlain
import Derived.WalkKit
import Derived.Below
import Derived.Laws.BitsLemmas
import Derived.Deep.QuietTactic
import Derived.BigQuiet
import Derived.WalkSmall
namespace Go.Proofs.YtcailmgincafcaaDoor.U
open Go.RowKit Go.Lib
set_option linter.unusedVariables false

/-- The classes of first bytes: the entry of the library's table, the number of bytes, the least and the greatest second byte. -/
theorem classes (b : Nat) : (firstT b = 240 ∧ szB b = 1) ∨ (firstT b = 241 ∧ szB b = 0) ∨ (firstT b = 2 ∧ szB b = 2 ∧ loB b = 128 ∧ hiB b = 191) ∨
    (firstT b = 19 ∧ szB b = 3 ∧ loB b = 160 ∧ hiB b = 191) ∨ (firstT b = 3 ∧ szB b = 3 ∧ loB b = 128 ∧ hiB b = 191) ∨ (firstT b = 35 ∧ szB b = 3 ∧ loB b = 128 ∧ hiB b = 159) ∨
    (firstT b = 52 ∧ szB b = 4 ∧ loB b = 144 ∧ hiB b = 191) ∨ (firstT b = 4 ∧ szB b = 4 ∧ loB b = 128 ∧ hiB b = 191) ∨ (firstT b = 68 ∧ szB b = 4 ∧ loB b = 128 ∧ hiB b = 143) := by
  unfold firstT szB loB hiB
  (repeat' split) <;> simp_all <;> omega

/-- What the walk is told of the two tables at a first byte's entry. -/
def Ent (w : World) (b0 X i lo hi : Nat) : Prop :=
  w.cell? ⟨0, b0, none⟩ = some (.int .u8 X) ∧ w.cell? ⟨1, 2 * i, none⟩ = some (.int .u8 lo) ∧ w.cell? ⟨1, 2 * i + 1, none⟩ = some (.int .u8 hi)

set_option maxHeartbeats 1000000 in
set_option maxRecDepth 100000 in
theorem full_plain (b off k cap b0 X : Nat) (w : World) (hX : X = 240 ∨ X = 241) (hk : 0 < k) (hc0 : w.cell? ⟨b, off, none⟩ = some (.int .u8 b0)) (l0 : b0 < 256)
    (hF : w.cell? ⟨0, b0, none⟩ = some (.int .u8 X)) :
    Calls Tryd.prog 39 #[.slice (some ⟨b, off, none⟩) k cap] w fun e w' => e = .returned (.bool true) ∧ Below w.heap.size w w' := by
  have hz : ((k : Int) == 0) = false := by simp; omega
  have hz0 : (0 : Int) < (k : Int) := by omega
  have hz1 : (1 : Int) ≤ (k : Int) := by omega
  have hz2 : (0 : Int) ≤ (k : Int) := by omega
  rcases hX with rfl | rfl
  · go_enter Tryd.func39, Tryd.ntmps39
    go_wp2
    go_ret
    exact ⟨rfl, Below.refl _ _⟩
  · go_enter Tryd.func39, Tryd.ntmps39
    go_wp2
    go_ret
    exact ⟨rfl, Below.refl _ _⟩

set_option maxHeartbeats 1000000 in
set_option maxRecDepth 100000 in
theorem full_2 (b off k cap b0 b1 b2 : Nat) (w : World) (hk : 0 < k) (hc0 : w.cell? ⟨b, off, none⟩ = some (.int .u8 b0)) (l0 : b0 < 256)
    (hc1 : 1 < k → w.cell? ⟨b, off + 1, none⟩ = some (.int .u8 b1)) (hc2 : 2 < k → w.cell? ⟨b, off + 2, none⟩ = some (.int .u8 b2))
    (hF : w.cell? ⟨0, b0, none⟩ = some (.int .u8 2)) (ha0 : w.cell? ⟨1, 0, none⟩ = some (.int .u8 128)) (ha1 : w.cell? ⟨1, 1, none⟩ = some (.int .u8 191)) :
    Calls Tryd.prog 39 #[.slice (some ⟨b, off, none⟩) k cap] w fun e w' => e = .returned (.bool (decide (2 ≤ k ∨ (1 < k ∧ (b1 < 128 ∨ 191 < b1)) ∨ (2 < k ∧ (b2 < 128 ∨ 191 < b2))))) ∧ Below w.heap.size w w' := by
  have hz : ((k : Int) == 0) = false := by simp; omega
  have hz0 : (0 : Int) < (k : Int) := by omega
  by_cases hs : 2 ≤ k
  · have hd : decide (2 ≤ k ∨ (1 < k ∧ (b1 < 128 ∨ 191 < b1)) ∨ (2 < k ∧ (b2 < 128 ∨ 191 < b2))) = true := by simp; omega
    have hi : (2 : Int) ≤ (k : Int) := by omega
    rw [hd]
    clear hd hc1 hc2
    go_enter Tryd.func39, Tryd.ntmps39
    go_wp2
    go_ret
    exact ⟨rfl, Below.refl _ _⟩
  · rcases (by omega : k = 1) with rfl
    · have hd : decide (2 ≤ 1 ∨ (1 < 1 ∧ (b1 < 128 ∨ 191 < b1)) ∨ (2 < 1 ∧ (b2 < 128 ∨ 191 < b2))) = false := by simp
      rw [hd]
      clear hd hc1 hc2
      go_enter Tryd.func39, Tryd.ntmps39
      go_wp2
      go_quiet (fail)
      go_wp2
      go_ret
      exact ⟨rfl, below_drewN ((Below.refl _ _).alloc (Nat.le_refl _) _) _⟩
set_option maxHeartbeats 1000000 in
set_option maxRecDepth 100000 in
theorem full_19 (b off k cap b0 b1 b2 : Nat) (w : World) (hk : 0 < k) (hc0 : w.cell? ⟨b, off, none⟩ = some (.int .u8 b0)) (l0 : b0 < 256)
    (hc1 : 1 < k → w.cell? ⟨b, off + 1, none⟩ = some (.int .u8 b1)) (hc2 : 2 < k → w.cell? ⟨b, off + 2, none⟩ = some (.int .u8 b2))
    (hF : w.cell? ⟨0, b0, none⟩ = some (.int .u8 19)) (ha0 : w.cell? ⟨1, 2, none⟩ = some (.int .u8 160)) (ha1 : w.cell? ⟨1, 3, none⟩ = some (.int .u8 191)) :
    Calls Tryd.prog 39 #[.slice (some ⟨b, off, none⟩) k cap] w fun e w' => e = .returned (.bool (decide (3 ≤ k ∨ (1 < k ∧ (b1 < 160 ∨ 191 < b1)) ∨ (2 < k ∧ (b2 < 128 ∨ 191 < b2))))) ∧ Below w.heap.size w w' := by
  have hz : ((k : Int) == 0) = false := by simp; omega
  have hz0 : (0 : Int) < (k : Int) := by omega
  by_cases hs : 3 ≤ k
  · have hd : decide (3 ≤ k ∨ (1 < k ∧ (b1 < 160 ∨ 191 < b1)) ∨ (2 < k ∧ (b2 < 128 ∨ 191 < b2))) = true := by simp; omega
    have hi : (3 : Int) ≤ (k : Int) := by omega
    rw [hd]
    clear hd hc1 hc2
    go_enter Tryd.func39, Tryd.ntmps39
    go_wp2
    go_ret
    exact ⟨rfl, Below.refl _ _⟩
  · rcases (by omega : k = 1 ∨ k = 2) with rfl | rfl
    · have hd : decide (3 ≤ 1 ∨ (1 < 1 ∧ (b1 < 160 ∨ 191 < b1)) ∨ (2 < 1 ∧ (b2 < 128 ∨ 191 < b2))) = false := by simp
      rw [hd]
      clear hd hc1 hc2
      go_enter Tryd.func39, Tryd.ntmps39
      go_wp2
      go_quiet (fail)
      go_wp2
      go_ret
      exact ⟨rfl, below_drewN ((Below.refl _ _).alloc (Nat.le_refl _) _) _⟩
    · have hb : b < w.heap.size := block_lt_of_cell hc0
      have hq1 := hc1 (by omega)
      clear hc1 hc2
      by_cases g1 : b1 < 160
      · have i1 : (b1 : Int) < 160 := by omega
        have hd : decide (3 ≤ 2 ∨ (1 < 2 ∧ (b1 < 160 ∨ 191 < b1)) ∨ (2 < 2 ∧ (b2 < 128 ∨ 191 < b2))) = true := by simp; omega
        rw [hd]
        clear hd
        go_enter Tryd.func39, Tryd.ntmps39
        go_wp2
        go_quiet (fail)
        go_wp2
        go_ret
        exact ⟨rfl, below_drewN ((Below.refl _ _).alloc (Nat.le_refl _) _) _⟩
      · have i1 : ¬ ((b1 : Int) < 160) := by omega
        have d1 : decide ((b1 : Int) < 160) = false := by simpa using i1
        by_cases g2 : 191 < b1
        · have i2 : (191 : Int) < (b1 : Int) := by omega
          have hd : decide (3 ≤ 2 ∨ (1 < 2 ∧ (b1 < 160 ∨ 191 < b1)) ∨ (2 < 2 ∧ (b2 < 128 ∨ 191 < b2))) = true := by simp; omega
          rw [hd]
          clear hd
          go_enter Tryd.func39, Tryd.ntmps39
          go_wp2
          go_quiet (fail)
          go_wp2
          go_ret
          exact ⟨rfl, below_drewN ((Below.refl _ _).alloc (Nat.le_refl _) _) _⟩
        · have i2 : ¬ ((191 : Int) < (b1 : Int)) := by omega
          have d2 : decide ((191 : Int) < (b1 : Int)) = false := by simpa using i2
          have hd : decide (3 ≤ 2 ∨ (1 < 2 ∧ (b1 < 160 ∨ 191 < b1)) ∨ (2 < 2 ∧ (b2 < 128 ∨ 191 < b2))) = false := by simp; omega
          rw [hd]
          clear hd
          go_enter Tryd.func39, Tryd.ntmps39
          go_wp2
          go_quiet (fail)
          go_wp2
          go_ret
          exact ⟨rfl, below_drewN ((Below.refl _ _).alloc (Nat.le_refl _) _) _⟩
set_option maxHeartbeats 1000000 in
set_option maxRecDepth 100000 in
theorem full_3 (b off k cap b0 b1 b2 : Nat) (w : World) (hk : 0 < k) (hc0 : w.cell? ⟨b, off, none⟩ = some (.int .u8 b0)) (l0 : b0 < 256)
    (hc1 : 1 < k → w.cell? ⟨b, off + 1, none⟩ = some (.int .u8 b1)) (hc2 : 2 < k → w.cell? ⟨b, off + 2, none⟩ = some (.int .u8 b2))
    (hF : w.cell? ⟨0, b0, none⟩ = some (.int .u8 3)) (ha0 : w.cell? ⟨1, 0, none⟩ = some (.int .u8 128)) (ha1 : w.cell? ⟨1, 1, none⟩ = some (.int .u8 191)) :
    Calls Tryd.prog 39 #[.slice (some ⟨b, off, none⟩) k cap] w fun e w' => e = .returned (.bool (decide (3 ≤ k ∨ (1 < k ∧ (b1 < 128 ∨ 191 < b1)) ∨ (2 < k ∧ (b2 < 128 ∨ 191 < b2))))) ∧ Below w.heap.size w w' := by
  have hz : ((k : Int) == 0) = false := by simp; omega
  have hz0 : (0 : Int) < (k : Int) := by omega
  by_cases hs : 3 ≤ k
  · have hd : decide (3 ≤ k ∨ (1 < k ∧ (b1 < 128 ∨ 191 < b1)) ∨ (2 < k ∧ (b2 < 128 ∨ 191 < b2))) = true := by simp; omega
    have hi : (3 : Int) ≤ (k : Int) := by omega
    rw [hd]
    clear hd hc1 hc2
    go_enter Tryd.func39, Tryd.ntmps39
    go_wp2
    go_ret
    exact ⟨rfl, Below.refl _ _⟩
  · rcases (by omega : k = 1 ∨ k = 2) with rfl | rfl
    · have hd : decide (3 ≤ 1 ∨ (1 < 1 ∧ (b1 < 128 ∨ 191 < b1)) ∨ (2 < 1 ∧ (b2 < 128 ∨ 191 < b2))) = false := by simp
      rw [hd]
      clear hd hc1 hc2
      go_enter Tryd.func39, Tryd.ntmps39
      go_wp2
      go_quiet (fail)
      go_wp2
      go_ret
      exact ⟨rfl, below_drewN ((Below.refl _ _).alloc (Nat.le_refl _) _) _⟩
    · have hb : b < w.heap.size := block_lt_of_cell hc0
      have hq1 := hc1 (by omega)
      clear hc1 hc2
      by_cases g1 : b1 < 128
      · have i1 : (b1 : Int) < 128 := by omega
        have hd : decide (3 ≤ 2 ∨ (1 < 2 ∧ (b1 < 128 ∨ 191 < b1)) ∨ (2 < 2 ∧ (b2 < 128 ∨ 191 < b2))) = true := by simp; omega
        rw [hd]
        clear hd
        go_enter Tryd.func39, Tryd.ntmps39
        go_wp2
        go_quiet (fail)
        go_wp2
        go_ret
        exact ⟨rfl, below_drewN ((Below.refl _ _).alloc (Nat.le_refl _) _) _⟩
      · have i1 : ¬ ((b1 : Int) < 128) := by omega
        have d1 : decide ((b1 : Int) < 128) = false := by simpa using i1
        by_cases g2 : 191 < b1
        · have i2 : (191 : Int) < (b1 : Int) := by omega
          have hd : decide (3 ≤ 2 ∨ (1 < 2 ∧ (b1 < 128 ∨ 191 < b1)) ∨ (2 < 2 ∧ (b2 < 128 ∨ 191 < b2))) = true := by simp; omega
          rw [hd]
          clear hd
          go_enter Tryd.func39, Tryd.ntmps39
          go_wp2
          go_quiet (fail)
          go_wp2
          go_ret
          exact ⟨rfl, below_drewN ((Below.refl _ _).alloc (Nat.le_refl _) _) _⟩
        · have i2 : ¬ ((191 : Int) < (b1 : Int)) := by omega
          have d2 : decide ((191 : Int) < (b1 : Int)) = false := by simpa using i2
          have hd : decide (3 ≤ 2 ∨ (1 < 2 ∧ (b1 < 128 ∨ 191 < b1)) ∨ (2 < 2 ∧ (b2 < 128 ∨ 191 < b2))) = false := by simp; omega
          rw [hd]
          clear hd
          go_enter Tryd.func39, Tryd.ntmps39
          go_wp2
          go_quiet (fail)
          go_wp2
          go_ret
          exact ⟨rfl, below_drewN ((Below.refl _ _).alloc (Nat.le_refl _) _) _⟩
set_option maxHeartbeats 1000000 in
set_option maxRecDepth 100000 in
theorem full_35 (b off k cap b0 b1 b2 : Nat) (w : World) (hk : 0 < k) (hc0 : w.cell? ⟨b, off, none⟩ = some (.int .u8 b0)) (l0 : b0 < 256)
    (hc1 : 1 < k → w.cell? ⟨b, off + 1, none⟩ = some (.int .u8 b1)) (hc2 : 2 < k → w.cell? ⟨b, off + 2, none⟩ = some (.int .u8 b2))
    (hF : w.cell? ⟨0, b0, none⟩ = some (.int .u8 35)) (ha0 : w.cell? ⟨1, 4, none⟩ = some (.int .u8 128)) (ha1 : w.cell? ⟨1, 5, none⟩ = some (.int .u8 159)) :
    Calls Tryd.prog 39 #[.slice (some ⟨b, off, none⟩) k cap] w fun e w' => e = .returned (.bool (decide (3 ≤ k ∨ (1 < k ∧ (b1 < 128 ∨ 159 < b1)) ∨ (2 < k ∧ (b2 < 128 ∨ 191 < b2))))) ∧ Below w.heap.size w w' := by
  have hz : ((k : Int) == 0) = false := by simp; omega
  have hz0 : (0 : Int) < (k : Int) := by omega
  by_cases hs : 3 ≤ k
  · have hd : decide (3 ≤ k ∨ (1 < k ∧ (b1 < 128 ∨ 159 < b1)) ∨ (2 < k ∧ (b2 < 128 ∨ 191 < b2))) = true := by simp; omega
    have hi : (3 : Int) ≤ (k : Int) := by omega
    rw [hd]
    clear hd hc1 hc2
    go_enter Tryd.func39, Tryd.ntmps39
    go_wp2
    go_ret
    exact ⟨rfl, Below.refl _ _⟩
  · rcases (by omega : k = 1 ∨ k = 2) with rfl | rfl
    · have hd : decide (3 ≤ 1 ∨ (1 < 1 ∧ (b1 < 128 ∨ 159 < b1)) ∨ (2 < 1 ∧ (b2 < 128 ∨ 191 < b2))) = false := by simp
      rw [hd]
      clear hd hc1 hc2
      go_enter Tryd.func39, Tryd.ntmps39
      go_wp2
      go_quiet (fail)
      go_wp2
      go_ret
      exact ⟨rfl, below_drewN ((Below.refl _ _).alloc (Nat.le_refl _) _) _⟩
    · have hb : b < w.heap.size := block_lt_of_cell hc0
      have hq1 := hc1 (by omega)
      clear hc1 hc2
      by_cases g1 : b1 < 128
      · have i1 : (b1 : Int) < 128 := by omega
        have hd : decide (3 ≤ 2 ∨ (1 < 2 ∧ (b1 < 128 ∨ 159 < b1)) ∨ (2 < 2 ∧ (b2 < 128 ∨ 191 < b2))) = true := by simp; omega
        rw [hd]
        clear hd
        go_enter Tryd.func39, Tryd.ntmps39
        go_wp2
        go_quiet (fail)
        go_wp2
        go_ret
        exact ⟨rfl, below_drewN ((Below.refl _ _).alloc (Nat.le_refl _) _) _⟩
      · have i1 : ¬ ((b1 : Int) < 128) := by omega
        have d1 : decide ((b1 : Int) < 128) = false := by simpa using i1
        by_cases g2 : 159 < b1
        · have i2 : (159 : Int) < (b1 : Int) := by omega
          have hd : decide (3 ≤ 2 ∨ (1 < 2 ∧ (b1 < 128 ∨ 159 < b1)) ∨ (2 < 2 ∧ (b2 < 128 ∨ 191 < b2))) = true := by simp; omega
          rw [hd]
          clear hd
          go_enter Tryd.func39, Tryd.ntmps39
          go_wp2
          go_quiet (fail)
          go_wp2
          go_ret
          exact ⟨rfl, below_drewN ((Below.refl _ _).alloc (Nat.le_refl _) _) _⟩
        · have i2 : ¬ ((159 : Int) < (b1 : Int)) := by omega
          have d2 : decide ((159 : Int) < (b1 : Int)) = false := by simpa using i2
          have hd : decide (3 ≤ 2 ∨ (1 < 2 ∧ (b1 < 128 ∨ 159 < b1)) ∨ (2 < 2 ∧ (b2 < 128 ∨ 191 < b2))) = false := by simp; omega
          rw [hd]
          clear hd
          go_enter Tryd.func39, Tryd.ntmps39
          go_wp2
          go_quiet (fail)
          go_wp2
          go_ret
          exact ⟨rfl, below_drewN ((Below.refl _ _).alloc (Nat.le_refl _) _) _⟩
set_option maxHeartbeats 1000000 in
set_option maxRecDepth 100000 in
theorem full_52 (b off k cap b0 b1 b2 : Nat) (w : World) (hk : 0 < k) (hc0 : w.cell? ⟨b, off, none⟩ = some (.int .u8 b0)) (l0 : b0 < 256)
    (hc1 : 1 < k → w.cell? ⟨b, off + 1, none⟩ = some (.int .u8 b1)) (hc2 : 2 < k → w.cell? ⟨b, off + 2, none⟩ = some (.int .u8 b2))
    (hF : w.cell? ⟨0, b0, none⟩ = some (.int .u8 52)) (ha0 : w.cell? ⟨1, 6, none⟩ = some (.int .u8 144)) (ha1 : w.cell? ⟨1, 7, none⟩ = some (.int .u8 191)) :
    Calls Tryd.prog 39 #[.slice (some ⟨b, off, none⟩) k cap] w fun e w' => e = .returned (.bool (decide (4 ≤ k ∨ (1 < k ∧ (b1 < 144 ∨ 191 < b1)) ∨ (2 < k ∧ (b2 < 128 ∨ 191 < b2))))) ∧ Below w.heap.size w w' := by
  have hz : ((k : Int) == 0) = false := by simp; omega
  have hz0 : (0 : Int) < (k : Int) := by omega
  by_cases hs : 4 ≤ k
  · have hd : decide (4 ≤ k ∨ (1 < k ∧ (b1 < 144 ∨ 191 < b1)) ∨ (2 < k ∧ (b2 < 128 ∨ 191 < b2))) = true := by simp; omega
    have hi : (4 : Int) ≤ (k : Int) := by omega
    rw [hd]
    clear hd hc1 hc2
    go_enter Tryd.func39, Tryd.ntmps39
    go_wp2
    go_ret
    exact ⟨rfl, Below.refl _ _⟩
  · rcases (by omega : k = 1 ∨ k = 2 ∨ k = 3) with rfl | rfl | rfl
    · have hd : decide (4 ≤ 1 ∨ (1 < 1 ∧ (b1 < 144 ∨ 191 < b1)) ∨ (2 < 1 ∧ (b2 < 128 ∨ 191 < b2))) = false := by simp
      rw [hd]
      clear hd hc1 hc2
      go_enter Tryd.func39, Tryd.ntmps39
      go_wp2
      go_quiet (fail)
      go_wp2
      go_ret
      exact ⟨rfl, below_drewN ((Below.refl _ _).alloc (Nat.le_refl _) _) _⟩
    · have hb : b < w.heap.size := block_lt_of_cell hc0
      have hq1 := hc1 (by omega)
      clear hc1 hc2
      by_cases g1 : b1 < 144
      · have i1 : (b1 : Int) < 144 := by omega
        have hd : decide (4 ≤ 2 ∨ (1 < 2 ∧ (b1 < 144 ∨ 191 < b1)) ∨ (2 < 2 ∧ (b2 < 128 ∨ 191 < b2))) = true := by simp; omega
        rw [hd]
        clear hd
        go_enter Tryd.func39, Tryd.ntmps39
        go_wp2
        go_quiet (fail)
        go_wp2
        go_ret
        exact ⟨rfl, below_drewN ((Below.refl _ _).alloc (Nat.le_refl _) _) _⟩
      · have i1 : ¬ ((b1 : Int) < 144) := by omega
        have d1 : decide ((b1 : Int) < 144) = false := by simpa using i1
        by_cases g2 : 191 < b1
        · have i2 : (191 : Int) < (b1 : Int) := by omega
          have hd : decide (4 ≤ 2 ∨ (1 < 2 ∧ (b1 < 144 ∨ 191 < b1)) ∨ (2 < 2 ∧ (b2 < 128 ∨ 191 < b2))) = true := by simp; omega
          rw [hd]
          clear hd
          go_enter Tryd.func39, Tryd.ntmps39
          go_wp2
          go_quiet (fail)
          go_wp2
          go_ret
          exact ⟨rfl, below_drewN ((Below.refl _ _).alloc (Nat.le_refl _) _) _⟩
        · have i2 : ¬ ((191 : Int) < (b1 : Int)) := by omega
          have d2 : decide ((191 : Int) < (b1 : Int)) = false := by simpa using i2
          have hd : decide (4 ≤ 2 ∨ (1 < 2 ∧ (b1 < 144 ∨ 191 < b1)) ∨ (2 < 2 ∧ (b2 < 128 ∨ 191 < b2))) = false := by simp; omega
          rw [hd]
          clear hd
          go_enter Tryd.func39, Tryd.ntmps39
          go_wp2
          go_quiet (fail)
          go_wp2
          go_ret
          exact ⟨rfl, below_drewN ((Below.refl _ _).alloc (Nat.le_refl _) _) _⟩
    · have hb : b < w.heap.size := block_lt_of_cell hc0
      have hq1 := hc1 (by omega)
      have hq2 := hc2 (by omega)
      clear hc1 hc2
      by_cases g1 : b1 < 144
      · have i1 : (b1 : Int) < 144 := by omega
        have hd : decide (4 ≤ 3 ∨ (1 < 3 ∧ (b1 < 144 ∨ 191 < b1)) ∨ (2 < 3 ∧ (b2 < 128 ∨ 191 < b2))) = true := by simp; omega
        rw [hd]
        clear hd
        go_enter Tryd.func39, Tryd.ntmps39
        go_wp2
        go_quiet (fail)
        go_wp2
        go_ret
        exact ⟨rfl, below_drewN ((Below.refl _ _).alloc (Nat.le_refl _) _) _⟩
      · have i1 : ¬ ((b1 : Int) < 144) := by omega
        have d1 : decide ((b1 : Int) < 144) = false := by simpa using i1
        by_cases g2 : 191 < b1
        · have i2 : (191 : Int) < (b1 : Int) := by omega
          have hd : decide (4 ≤ 3 ∨ (1 < 3 ∧ (b1 < 144 ∨ 191 < b1)) ∨ (2 < 3 ∧ (b2 < 128 ∨ 191 < b2))) = true := by simp; omega
          rw [hd]
          clear hd
          go_enter Tryd.func39, Tryd.ntmps39
          go_wp2
          go_quiet (fail)
          go_wp2
          go_ret
          exact ⟨rfl, below_drewN ((Below.refl _ _).alloc (Nat.le_refl _) _) _⟩
        · have i2 : ¬ ((191 : Int) < (b1 : Int)) := by omega
          have d2 : decide ((191 : Int) < (b1 : Int)) = false := by simpa using i2
          by_cases g3 : b2 < 128
          · have i3 : (b2 : Int) < 128 := by omega
            have hd : decide (4 ≤ 3 ∨ (1 < 3 ∧ (b1 < 144 ∨ 191 < b1)) ∨ (2 < 3 ∧ (b2 < 128 ∨ 191 < b2))) = true := by simp; omega
            rw [hd]
            clear hd
            go_enter Tryd.func39, Tryd.ntmps39
            go_wp2
            go_quiet (fail)
            go_wp2
            go_ret
            exact ⟨rfl, below_drewN ((Below.refl _ _).alloc (Nat.le_refl _) _) _⟩
          · have i3 : ¬ ((b2 : Int) < 128) := by omega
            by_cases g4 : 191 < b2
            · have i4 : (191 : Int) < (b2 : Int) := by omega
              have hd : decide (4 ≤ 3 ∨ (1 < 3 ∧ (b1 < 144 ∨ 191 < b1)) ∨ (2 < 3 ∧ (b2 < 128 ∨ 191 < b2))) = true := by simp; omega
              rw [hd]
              clear hd
              go_enter Tryd.func39, Tryd.ntmps39
              go_wp2
              go_quiet (fail)
              go_wp2
              go_ret
              exact ⟨rfl, below_drewN ((Below.refl _ _).alloc (Nat.le_refl _) _) _⟩
            · have i4 : ¬ ((191 : Int) < (b2 : Int)) := by omega
              have hd : decide (4 ≤ 3 ∨ (1 < 3 ∧ (b1 < 144 ∨ 191 < b1)) ∨ (2 < 3 ∧ (b2 < 128 ∨ 191 < b2))) = false := by simp; omega
              rw [hd]
              clear hd
              go_enter Tryd.func39, Tryd.ntmps39
              go_wp2
              go_quiet (fail)
              go_wp2
              go_ret
              exact ⟨rfl, below_drewN ((Below.refl _ _).alloc (Nat.le_refl _) _) _⟩
set_option maxHeartbeats 1000000 in
set_option maxRecDepth 100000 in
theorem full_4 (b off k cap b0 b1 b2 : Nat) (w : World) (hk : 0 < k) (hc0 : w.cell? ⟨b, off, none⟩ = some (.int .u8 b0)) (l0 : b0 < 256)
    (hc1 : 1 < k → w.cell? ⟨b, off + 1, none⟩ = some (.int .u8 b1)) (hc2 : 2 < k → w.cell? ⟨b, off + 2, none⟩ = some (.int .u8 b2))
    (hF : w.cell? ⟨0, b0, none⟩ = some (.int .u8 4)) (ha0 : w.cell? ⟨1, 0, none⟩ = some (.int .u8 128)) (ha1 : w.cell? ⟨1, 1, none⟩ = some (.int .u8 191)) :
    Calls Tryd.prog 39 #[.slice (some ⟨b, off, none⟩) k cap] w fun e w' => e = .returned (.bool (decide (4 ≤ k ∨ (1 < k ∧ (b1 < 128 ∨ 191 < b1)) ∨ (2 < k ∧ (b2 < 128 ∨ 191 < b2))))) ∧ Below w.heap.size w w' := by
  have hz : ((k : Int) == 0) = false := by simp; omega
  have hz0 : (0 : Int) < (k : Int) := by omega
  by_cases hs : 4 ≤ k
  · have hd : decide (4 ≤ k ∨ (1 < k ∧ (b1 < 128 ∨ 191 < b1)) ∨ (2 < k ∧ (b2 < 128 ∨ 191 < b2))) = true := by simp; omega
    have hi : (4 : Int) ≤ (k : Int) := by omega
    rw [hd]
    clear hd hc1 hc2
    go_enter Tryd.func39, Tryd.ntmps39
    go_wp2
    go_ret
    exact ⟨rfl, Below.refl _ _⟩
  · rcases (by omega : k = 1 ∨ k = 2 ∨ k = 3) with rfl | rfl | rfl
    · have hd : decide (4 ≤ 1 ∨ (1 < 1 ∧ (b1 < 128 ∨ 191 < b1)) ∨ (2 < 1 ∧ (b2 < 128 ∨ 191 < b2))) = false := by simp
      rw [hd]
      clear hd hc1 hc2
      go_enter Tryd.func39, Tryd.ntmps39
      go_wp2
      go_quiet (fail)
      go_wp2
      go_ret
      exact ⟨rfl, below_drewN ((Below.refl _ _).alloc (Nat.le_refl _) _) _⟩
    · have hb : b < w.heap.size := block_lt_of_cell hc0
      have hq1 := hc1 (by omega)
      clear hc1 hc2
      by_cases g1 : b1 < 128
      · have i1 : (b1 : Int) < 128 := by omega
        have hd : decide (4 ≤ 2 ∨ (1 < 2 ∧ (b1 < 128 ∨ 191 < b1)) ∨ (2 < 2 ∧ (b2 < 128 ∨ 191 < b2))) = true := by simp; omega
        rw [hd]
        clear hd
        go_enter Tryd.func39, Tryd.ntmps39
        go_wp2
        go_quiet (fail)
        go_wp2
        go_ret
        exact ⟨rfl, below_drewN ((Below.refl _ _).alloc (Nat.le_refl _) _) _⟩
      · have i1 : ¬ ((b1 : Int) < 128) := by omega
        have d1 : decide ((b1 : Int) < 128) = false := by simpa using i1
        by_cases g2 : 191 < b1
        · have i2 : (191 : Int) < (b1 : Int) := by omega
          have hd : decide (4 ≤ 2 ∨ (1 < 2 ∧ (b1 < 128 ∨ 191 < b1)) ∨ (2 < 2 ∧ (b2 < 128 ∨ 191 < b2))) = true := by simp; omega
          rw [hd]
          clear hd
          go_enter Tryd.func39, Tryd.ntmps39
          go_wp2
          go_quiet (fail)
          go_wp2
          go_ret
          exact ⟨rfl, below_drewN ((Below.refl _ _).alloc (Nat.le_refl _) _) _⟩
        · have i2 : ¬ ((191 : Int) < (b1 : Int)) := by omega
          have d2 : decide ((191 : Int) < (b1 : Int)) = false := by simpa using i2
          have hd : decide (4 ≤ 2 ∨ (1 < 2 ∧ (b1 < 128 ∨ 191 < b1)) ∨ (2 < 2 ∧ (b2 < 128 ∨ 191 < b2))) = false := by simp; omega
          rw [hd]
          clear hd
          go_enter Tryd.func39, Tryd.ntmps39
          go_wp2
          go_quiet (fail)
          go_wp2
          go_ret
          exact ⟨rfl, below_drewN ((Below.refl _ _).alloc (Nat.le_refl _) _) _⟩
    · have hb : b < w.heap.size := block_lt_of_cell hc0
      have hq1 := hc1 (by omega)
      have hq2 := hc2 (by omega)
      clear hc1 hc2
      by_cases g1 : b1 < 128
      · have i1 : (b1 : Int) < 128 := by omega
        have hd : decide (4 ≤ 3 ∨ (1 < 3 ∧ (b1 < 128 ∨ 191 < b1)) ∨ (2 < 3 ∧ (b2 < 128 ∨ 191 < b2))) = true := by simp; omega
        rw [hd]
        clear hd
        go_enter Tryd.func39, Tryd.ntmps39
        go_wp2
        go_quiet (fail)
        go_wp2
        go_ret
        exact ⟨rfl, below_drewN ((Below.refl _ _).alloc (Nat.le_refl _) _) _⟩
      · have i1 : ¬ ((b1 : Int) < 128) := by omega
        have d1 : decide ((b1 : Int) < 128) = false := by simpa using i1
        by_cases g2 : 191 < b1
        · have i2 : (191 : Int) < (b1 : Int) := by omega
          have hd : decide (4 ≤ 3 ∨ (1 < 3 ∧ (b1 < 128 ∨ 191 < b1)) ∨ (2 < 3 ∧ (b2 < 128 ∨ 191 < b2))) = true := by simp; omega
          rw [hd]
          clear hd
          go_enter Tryd.func39, Tryd.ntmps39
          go_wp2
          go_quiet (fail)
          go_wp2
          go_ret
          exact ⟨rfl, below_drewN ((Below.refl _ _).alloc (Nat.le_refl _) _) _⟩
        · have i2 : ¬ ((191 : Int) < (b1 : Int)) := by omega
          have d2 : decide ((191 : Int) < (b1 : Int)) = false := by simpa using i2
          by_cases g3 : b2 < 128
          · have i3 : (b2 : Int) < 128 := by omega
            have hd : decide (4 ≤ 3 ∨ (1 < 3 ∧ (b1 < 128 ∨ 191 < b1)) ∨ (2 < 3 ∧ (b2 < 128 ∨ 191 < b2))) = true := by simp; omega
            rw [hd]
            clear hd
            go_enter Tryd.func39, Tryd.ntmps39
            go_wp2
            go_quiet (fail)
            go_wp2
            go_ret
            exact ⟨rfl, below_drewN ((Below.refl _ _).alloc (Nat.le_refl _) _) _⟩
          · have i3 : ¬ ((b2 : Int) < 128) := by omega
            by_cases g4 : 191 < b2
            · have i4 : (191 : Int) < (b2 : Int) := by omega
              have hd : decide (4 ≤ 3 ∨ (1 < 3 ∧ (b1 < 128 ∨ 191 < b1)) ∨ (2 < 3 ∧ (b2 < 128 ∨ 191 < b2))) = true := by simp; omega
              rw [hd]
              clear hd
              go_enter Tryd.func39, Tryd.ntmps39
              go_wp2
              go_quiet (fail)
              go_wp2
              go_ret
              exact ⟨rfl, below_drewN ((Below.refl _ _).alloc (Nat.le_refl _) _) _⟩
            · have i4 : ¬ ((191 : Int) < (b2 : Int)) := by omega
              have hd : decide (4 ≤ 3 ∨ (1 < 3 ∧ (b1 < 128 ∨ 191 < b1)) ∨ (2 < 3 ∧ (b2 < 128 ∨ 191 < b2))) = false := by simp; omega
              rw [hd]
              clear hd
              go_enter Tryd.func39, Tryd.ntmps39
              go_wp2
              go_quiet (fail)
              go_wp2
              go_ret
              exact ⟨rfl, below_drewN ((Below.refl _ _).alloc (Nat.le_refl _) _) _⟩
set_option maxHeartbeats 1000000 in
set_option maxRecDepth 100000 in
theorem full_68 (b off k cap b0 b1 b2 : Nat) (w : World) (hk : 0 < k) (hc0 : w.cell? ⟨b, off, none⟩ = some (.int .u8 b0)) (l0 : b0 < 256)
    (hc1 : 1 < k → w.cell? ⟨b, off + 1, none⟩ = some (.int .u8 b1)) (hc2 : 2 < k → w.cell? ⟨b, off + 2, none⟩ = some (.int .u8 b2))
    (hF : w.cell? ⟨0, b0, none⟩ = some (.int .u8 68)) (ha0 : w.cell? ⟨1, 8, none⟩ = some (.int .u8 128)) (ha1 : w.cell? ⟨1, 9, none⟩ = some (.int .u8 143)) :
    Calls Tryd.prog 39 #[.slice (some ⟨b, off, none⟩) k cap] w fun e w' => e = .returned (.bool (decide (4 ≤ k ∨ (1 < k ∧ (b1 < 128 ∨ 143 < b1)) ∨ (2 < k ∧ (b2 < 128 ∨ 191 < b2))))) ∧ Below w.heap.size w w' := by
  have hz : ((k : Int) == 0) = false := by simp; omega
  have hz0 : (0 : Int) < (k : Int) := by omega
  by_cases hs : 4 ≤ k
  · have hd : decide (4 ≤ k ∨ (1 < k ∧ (b1 < 128 ∨ 143 < b1)) ∨ (2 < k ∧ (b2 < 128 ∨ 191 < b2))) = true := by simp; omega
    have hi : (4 : Int) ≤ (k : Int) := by omega
    rw [hd]
    clear hd hc1 hc2
    go_enter Tryd.func39, Tryd.ntmps39
    go_wp2
    go_ret
    exact ⟨rfl, Below.refl _ _⟩
  · rcases (by omega : k = 1 ∨ k = 2 ∨ k = 3) with rfl | rfl | rfl
    · have hd : decide (4 ≤ 1 ∨ (1 < 1 ∧ (b1 < 128 ∨ 143 < b1)) ∨ (2 < 1 ∧ (b2 < 128 ∨ 191 < b2))) = false := by simp
      rw [hd]
      clear hd hc1 hc2
      go_enter Tryd.func39, Tryd.ntmps39
      go_wp2
      go_quiet (fail)
      go_wp2
      go_ret
      exact ⟨rfl, below_drewN ((Below.refl _ _).alloc (Nat.le_refl _) _) _⟩
    · have hb : b < w.heap.size := block_lt_of_cell hc0
      have hq1 := hc1 (by omega)
      clear hc1 hc2
      by_cases g1 : b1 < 128
      · have i1 : (b1 : Int) < 128 := by omega
        have hd : decide (4 ≤ 2 ∨ (1 < 2 ∧ (b1 < 128 ∨ 143 < b1)) ∨ (2 < 2 ∧ (b2 < 128 ∨ 191 < b2))) = true := by simp; omega
        rw [hd]
        clear hd
        go_enter Tryd.func39, Tryd.ntmps39
        go_wp2
        go_quiet (fail)
        go_wp2
        go_ret
        exact ⟨rfl, below_drewN ((Below.refl _ _).alloc (Nat.le_refl _) _) _⟩
      · have i1 : ¬ ((b1 : Int) < 128) := by omega
        have d1 : decide ((b1 : Int) < 128) = false := by simpa using i1
        by_cases g2 : 143 < b1
        · have i2 : (143 : Int) < (b1 : Int) := by omega
          have hd : decide (4 ≤ 2 ∨ (1 < 2 ∧ (b1 < 128 ∨ 143 < b1)) ∨ (2 < 2 ∧ (b2 < 128 ∨ 191 < b2))) = true := by simp; omega
          rw [hd]
          clear hd
          go_enter Tryd.func39, Tryd.ntmps39
          go_wp2
          go_quiet (fail)
          go_wp2
          go_ret
          exact ⟨rfl, below_drewN ((Below.refl _ _).alloc (Nat.le_refl _) _) _⟩
        · have i2 : ¬ ((143 : Int) < (b1 : Int)) := by omega
          have d2 : decide ((143 : Int) < (b1 : Int)) = false := by simpa using i2
          have hd : decide (4 ≤ 2 ∨ (1 < 2 ∧ (b1 < 128 ∨ 143 < b1)) ∨ (2 < 2 ∧ (b2 < 128 ∨ 191 < b2))) = false := by simp; omega
          rw [hd]
          clear hd
          go_enter Tryd.func39, Tryd.ntmps39
          go_wp2
          go_quiet (fail)
          go_wp2
          go_ret
          exact ⟨rfl, below_drewN ((Below.refl _ _).alloc (Nat.le_refl _) _) _⟩
    · have hb : b < w.heap.size := block_lt_of_cell hc0
      have hq1 := hc1 (by omega)
      have hq2 := hc2 (by omega)
      clear hc1 hc2
      by_cases g1 : b1 < 128
      · have i1 : (b1 : Int) < 128 := by omega
        have hd : decide (4 ≤ 3 ∨ (1 < 3 ∧ (b1 < 128 ∨ 143 < b1)) ∨ (2 < 3 ∧ (b2 < 128 ∨ 191 < b2))) = true := by simp; omega
        rw [hd]
        clear hd
        go_enter Tryd.func39, Tryd.ntmps39
        go_wp2
        go_quiet (fail)
        go_wp2
        go_ret
        exact ⟨rfl, below_drewN ((Below.refl _ _).alloc (Nat.le_refl _) _) _⟩
      · have i1 : ¬ ((b1 : Int) < 128) := by omega
        have d1 : decide ((b1 : Int) < 128) = false := by simpa using i1
        by_cases g2 : 143 < b1
        · have i2 : (143 : Int) < (b1 : Int) := by omega
          have hd : decide (4 ≤ 3 ∨ (1 < 3 ∧ (b1 < 128 ∨ 143 < b1)) ∨ (2 < 3 ∧ (b2 < 128 ∨ 191 < b2))) = true := by simp; omega
          rw [hd]
          clear hd
          go_enter Tryd.func39, Tryd.ntmps39
          go_wp2
          go_quiet (fail)
          go_wp2
          go_ret
          exact ⟨rfl, below_drewN ((Below.refl _ _).alloc (Nat.le_refl _) _) _⟩
        · have i2 : ¬ ((143 : Int) < (b1 : Int)) := by omega
          have d2 : decide ((143 : Int) < (b1 : Int)) = false := by simpa using i2
          by_cases g3 : b2 < 128
          · have i3 : (b2 : Int) < 128 := by omega
            have hd : decide (4 ≤ 3 ∨ (1 < 3 ∧ (b1 < 128 ∨ 143 < b1)) ∨ (2 < 3 ∧ (b2 < 128 ∨ 191 < b2))) = true := by simp; omega
            rw [hd]
            clear hd
            go_enter Tryd.func39, Tryd.ntmps39
            go_wp2
            go_quiet (fail)
            go_wp2
            go_ret
            exact ⟨rfl, below_drewN ((Below.refl _ _).alloc (Nat.le_refl _) _) _⟩
          · have i3 : ¬ ((b2 : Int) < 128) := by omega
            by_cases g4 : 191 < b2
            · have i4 : (191 : Int) < (b2 : Int) := by omega
              have hd : decide (4 ≤ 3 ∨ (1 < 3 ∧ (b1 < 128 ∨ 143 < b1)) ∨ (2 < 3 ∧ (b2 < 128 ∨ 191 < b2))) = true := by simp; omega
              rw [hd]
              clear hd
              go_enter Tryd.func39, Tryd.ntmps39
              go_wp2
              go_quiet (fail)
              go_wp2
              go_ret
              exact ⟨rfl, below_drewN ((Below.refl _ _).alloc (Nat.le_refl _) _) _⟩
            · have i4 : ¬ ((191 : Int) < (b2 : Int)) := by omega
              have hd : decide (4 ≤ 3 ∨ (1 < 3 ∧ (b1 < 128 ∨ 143 < b1)) ∨ (2 < 3 ∧ (b2 < 128 ∨ 191 < b2))) = false := by simp; omega
              rw [hd]
              clear hd
              go_enter Tryd.func39, Tryd.ntmps39
              go_wp2
              go_quiet (fail)
              go_wp2
              go_ret
              exact ⟨rfl, below_drewN ((Below.refl _ _).alloc (Nat.le_refl _) _) _⟩

end Go.Proofs.YtcailmgincafcaaDoor.U
