/-
  What the document reads of a line, without memory: all the forms.
-/
import Derived.Test.YthfiilhbgogoaaaGreatDoorRefRa
namespace Go.Proofs.YthfiilhbgogoaaaGreatDoor
open Go.RowKit Go.Lib
set_option linter.unusedVariables false

/-- What the document reads of the pieces of a line. -/
def rfL : List (List UInt8) → Option (Nat × Ef)
  | [a, b] => if a = [115, 105, 103, 110, 97, 108] then (tks [.num] [b] E0).map fun x => (4, x) else none
  | [a, b, c] => if a = [114, 101, 97, 100] then (tks [.ok, .num] [b, c] E0).map fun x => (3, x) else none
  | [a, b, c, d] => if a = [119, 114, 111, 116, 101] then (tks [.ok, .data, .num] [b, c, d] E0).map fun x => (2, x) else none
  | [a, b, c, d, e] => if a = [103, 111, 116] then (tks [.ok, .attrs] [b, c ++ 32 :: (d ++ 32 :: e)] E0).map fun x => (0, x)
    else if a = [119, 97, 115] then (tks [.ok, .attrs] [b, c ++ 32 :: (d ++ 32 :: e)] E0).map fun x => (1, x) else none
  | _ => none
/-- What the document reads of a line. -/
def rf (s : List UInt8) : Option (Nat × Ef) :=
  if s = [101, 110, 100] then some (5, E0) else if s = [104, 105, 115, 116, 111, 114, 121] then some (6, E0) else rfL (spl 32 s)
theorem rdL_all (s : List UInt8) : rdAll s = match rd1 [103, 111, 116] [.ok, .attrs] s with
    | some x => some (0, x)
    | none => match rd1 [119, 97, 115] [.ok, .attrs] s with
    | some x => some (1, x)
    | none => match rd1 [119, 114, 111, 116, 101] [.ok, .data, .num] s with
    | some x => some (2, x)
    | none => match rd1 [114, 101, 97, 100] [.ok, .num] s with
    | some x => some (3, x)
    | none => match rd1 [115, 105, 103, 110, 97, 108] [.num] s with
    | some x => some (4, x)
    | none => match rd1 [101, 110, 100] [] s with
    | some x => some (5, x)
    | none => match rd1 [104, 105, 115, 116, 111, 114, 121] [] s with
    | some x => some (6, x)
    | none => none := by
  simp only [rdAll, FL, rdL]
  rfl
/-- The program reads of a line what the document does. -/
theorem rdAll_rf (s : List UInt8) : rdAll s = rf s := by
  rw [rdL_all, rdA, rdA, rdW, rdR, rdS, rdN, rdN]
  unfold rf
  by_cases h5 : s = [101, 110, 100]
  · subst h5
    rfl
  · by_cases h6 : s = [104, 105, 115, 116, 111, 114, 121]
    · subst h6
      rfl
    · simp only [if_neg h5, if_neg h6]
      generalize spl 32 s = L
      rcases L with _ | ⟨a, _ | ⟨b, _ | ⟨c, _ | ⟨d, _ | ⟨e, _ | ⟨f, r⟩⟩⟩⟩⟩⟩
      · rfl
      · rfl
      · simp only [rfL]
        by_cases g : a = [115, 105, 103, 110, 97, 108]
        · simp only [if_pos g]
          cases tks [.num] [b] E0 <;> rfl
        · simp only [if_neg g]
      · simp only [rfL]
        by_cases g : a = [114, 101, 97, 100]
        · simp only [if_pos g]
          cases tks [.ok, .num] [b, c] E0 <;> rfl
        · simp only [if_neg g]
      · simp only [rfL]
        by_cases g : a = [119, 114, 111, 116, 101]
        · simp only [if_pos g]
          cases tks [.ok, .data, .num] [b, c, d] E0 <;> rfl
        · simp only [if_neg g]
      · simp only [rfL]
        by_cases g : a = [103, 111, 116]
        · subst g
          have g2 : ¬ ([103, 111, 116] : List UInt8) = [119, 97, 115] := by decide
          simp only [if_pos, if_neg g2]
          cases tks [.ok, .attrs] [b, c ++ 32 :: (d ++ 32 :: e)] E0 <;> rfl
        · simp only [if_neg g]
          by_cases g2 : a = [119, 97, 115]
          · simp only [if_pos g2]
            cases tks [.ok, .attrs] [b, c ++ 32 :: (d ++ 32 :: e)] E0 <;> rfl
          · simp only [if_neg g2]
      · rfl
end Go.Proofs.YthfiilhbgogoaaaGreatDoor
