/-
  Bytes taken away: lacks and Delete; and Clean, Zero, Copy.
-/
import Derived.Test.YtcailmgincafcaaDoorInsert
namespace Go.Proofs.YtcailmgincafcaaDoor
open Go.RowKit Go.Lib
set_option linter.unusedVariables false

section
variable {W : World} {b g N u : Nat} {C : List UInt8}
end
theorem delete_list {N i j : Nat} {l : List UInt8} (hi : i ≤ j) (hj : j ≤ l.length) (hn : l.length ≤ N) :
    lay (lay (pad N l) i (((pad N l).drop j).take (l.length - j))) (i + (l.length - j)) (List.replicate (l.length - (i + (l.length - j))) 0) = pad N (l.take i ++ l.drop j) := by
  have hp : (pad N l).length = N := pad_length hn
  rw [pad_cut hj]
  have e1 : lay (pad N l) i (l.drop j) = l.take i ++ (l.drop j ++ (pad N l).drop (i + (l.length - j))) := by
    unfold lay
    rw [List.length_drop]
    congr 1
    unfold pad
    rw [List.take_append_of_le_length (by omega)]
  rw [e1]
  have e2 : (pad N l).drop (i + (l.length - j)) = ((pad N l).drop (i + (l.length - j))).take (l.length - (i + (l.length - j))) ++ List.replicate (N - l.length) 0 := by
    conv => lhs; rw [← List.take_append_drop (l.length - (i + (l.length - j))) (List.drop (i + (l.length - j)) (pad N l))]
    congr 1
    rw [List.drop_drop, show i + (l.length - j) + (l.length - (i + (l.length - j))) = l.length by omega]
    simp [pad]
  rw [← List.append_assoc, lay_at (A := l.take i ++ l.drop j) (B := ((pad N l).drop (i + (l.length - j))).take (l.length - (i + (l.length - j)))) (D := List.replicate (N - l.length) 0) (by rw [← e2]) (by simp; omega) (by simp [hp]; omega)]
  unfold pad
  congr 1
  rw [List.replicate_append_replicate]
  congr 1
  simp
  omega
end Go.Proofs.YtcailmgincafcaaDoor
