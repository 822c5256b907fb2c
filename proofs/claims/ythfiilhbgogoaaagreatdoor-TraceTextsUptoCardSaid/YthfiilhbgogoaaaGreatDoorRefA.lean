/-
  The document: bit, Names.
-/
import Derived.Test.YthfiilhbgogoaaaGreatDoorAt
import Derived.Test.YthfiilhbgogoaaaGreatDoorRead
namespace Go.Proofs.YthfiilhbgogoaaaGreatDoor
open Go.RowKit Go.Lib
set_option linter.unusedVariables false

set_option maxHeartbeats 1000000 in
set_option maxRecDepth 100000 in
theorem bit_run (n i : Nat) (hn : n < 4294967296) (hi : i ≤ 32) (w : World) : Calls Tryz.prog 61 #[.int .u32 (n : Int), .int .i64 (i : Int)] w (Gives (.bool (n.testBit i)) w) := by
  have HB : Aside (∀ k : Nat, ((((n / 2 ^ k % 2 : Nat) : Int)) == 1) = n.testBit k) := fun k => by
    rw [Nat.testBit_eq_decide_div_mod_eq]
    by_cases h : n / 2 ^ k % 2 = 1
    · simp [h]
    · rw [decide_eq_false h]
      exact beq_eq_false_iff_ne.2 (by omega)
  go_enter Tryz.func61, Tryz.ntmps61
  go_wp2
  go_loopg [0, 5] i (fun gk v0 vi wr => ∃ k q : Nat, v0 = .int .u32 (q : Int) ∧ vi = .int .i64 (k : Int) ∧ k ≤ i ∧ i - k ≤ gk ∧ q ≤ n ∧ Aside (q = n / 2 ^ k ∧ wr = w))
  case atStart => exact ⟨0, n, rfl, rfl, by omega, by omega, by omega, by simp, rfl⟩
  case round =>
    obtain ⟨k, q, rfl, rfl, hk, hg, hq, HS⟩ := hrel
    obtain rfl : wr = w := HS.out.2
    by_cases hlt : k < i
    · have hltz : (k : Int) < (i : Int) := by omega
      have hd : (q : Int) / 2 = ((q / 2 : Nat) : Int) := by omega
      have HE : Aside (q / 2 = n / 2 ^ (k + 1)) := by
        show q / 2 = n / 2 ^ (k + 1)
        rw [HS.out.1, Nat.pow_succ, Nat.div_div_eq_div_mul]
      have hle : q / 2 ≤ n := by omega
      clear HS
      generalize q / 2 = q' at *
      go_wp2
      go_roundg (i - (k + 1))
      case measure => omega
      case rel => exact ⟨k + 1, q', by go_num, by go_num, by omega, by omega, hle, HE.out, rfl⟩
    · have hltz : ¬ (k : Int) < (i : Int) := by omega
      obtain rfl : k = i := by omega
      have hb := HB.out k
      have e := HS.out.1
      rw [← e] at hb
      have hm : (q : Int) % 2 = ((q % 2 : Nat) : Int) := by omega
      clear HS HB e
      generalize n.testBit k = b at *
      generalize q % 2 = r at *
      go_wp2
      go_ret
      exact ⟨rfl, rfl⟩

/-! ### Names -/
def Nam (W : World) (g : Nat) : Prop := ∀ i, i < 7 → W.cell? ⟨g, i, none⟩ = some (.string (st (nm i)))
theorem Nam.stays {W W' : World} {g : Nat} (h : Nam W g) (hs : Stp [] W [] W') : Nam W' g := fun i hi => hs.keeps rfl (h i hi)
theorem Nam.new (W : World) : Nam (W.alloc (.cells #[.string ⟨#[101, 99, 104, 111]⟩, .string ⟨#[99, 97, 110, 111, 110]⟩, .string ⟨#[115, 105, 103, 110, 97, 108, 115]⟩, .string ⟨#[101, 120, 116, 101, 110, 100]⟩, .string ⟨#[102, 108, 111, 119]⟩, .string ⟨#[99, 114, 116, 111, 110, 108]⟩, .string ⟨#[112, 111, 115, 116]⟩] 9)) W.heap.size := fun i hi => by
  rw [cell_of_row _ W.heap.size _ _ _ _ (heap_alloc_new W _)]
  have : i = 0 ∨ i = 1 ∨ i = 2 ∨ i = 3 ∨ i = 4 ∨ i = 5 ∨ i = 6 := by omega
  rcases this with rfl | rfl | rfl | rfl | rfl | rfl | rfl <;> rfl
set_option maxHeartbeats 1000000 in
set_option maxRecDepth 100000 in
theorem rnames_run (w : World) : Calls Tryz.prog 60 #[] w fun e w' => ∃ g, e = .returned (.slice (some ⟨g, 0, none⟩) 7 7) ∧ Nam w' g ∧ Stp [] w [] w' := by
  go_enter Tryz.func60, Tryz.ntmps60
  go_wp2
  go_ret
  exact ⟨_, rfl, Nam.new w, Stp.alloc _ _ _⟩
end Go.Proofs.YthfiilhbgogoaaaGreatDoor
