/-
  What the document reads of a line, without memory: what the program reads.
-/
import Derived.Test.YthfiilhbgogoaaaGreatDoorRefRf
import Derived.Test.YthfiilhbgogoaaaGreatDoorEff
namespace Go.Proofs.YthfiilhbgogoaaaGreatDoor
open Go.RowKit Go.Lib
set_option linter.unusedVariables false

theorem num_space {p : List UInt8} (h : 32 ∈ p) : num p = none := by
  rw [num_rnum]
  cases e : rnum 10 18 p with
  | none => rfl
  | some v =>
    have h1 := rnum_sound e
    have h2 := (dig_no (b := 10) (by omega) (by omega) v).1
    rw [h1] at h2
    exact absurd h h2
theorem join_space (d e : List UInt8) (r : List (List UInt8)) : (32 : UInt8) ∈ Lib.join (d :: e :: r) [32] := by
  rw [join_cons2]
  simp
theorem rdS (nm s : List UInt8) : rd1 nm [.num] s = match spl 32 s with
    | [a, b] => if a = nm then tks [.num] [b] E0 else none
    | _ => none := by
  show (if (splN 1 s).length = 2 ∧ (splN 1 s)[0]? = some nm then tks [.num] ((splN 1 s).drop 1) E0 else none) = _
  by_cases h : (spl 32 s).length ≤ 2
  · rw [splN_few 1 s h]
    generalize spl 32 s = L at *
    rcases L with _ | ⟨a, _ | ⟨b, _ | ⟨c, r⟩⟩⟩
    · simp
    · simp
    · simp
    · simp at h
  · rw [splN_more 1 s (by omega)]
    generalize spl 32 s = L at *
    rcases L with _ | ⟨a, _ | ⟨b, _ | ⟨c, r⟩⟩⟩
    · simp at h
    · simp at h
    · simp at h
    · simp [tks, tk, num_space (join_space b c r)]
theorem rdR (nm s : List UInt8) : rd1 nm [.ok, .num] s = match spl 32 s with
    | [a, b, c] => if a = nm then tks [.ok, .num] [b, c] E0 else none
    | _ => none := by
  show (if (splN 2 s).length = 3 ∧ (splN 2 s)[0]? = some nm then tks [.ok, .num] ((splN 2 s).drop 1) E0 else none) = _
  by_cases h : (spl 32 s).length ≤ 3
  · rw [splN_few 2 s h]
    generalize spl 32 s = L at *
    rcases L with _ | ⟨a, _ | ⟨b, _ | ⟨c, _ | ⟨d, r⟩⟩⟩⟩
    · simp
    · simp
    · simp
    · simp
    · simp at h
  · rw [splN_more 2 s (by omega)]
    generalize spl 32 s = L at *
    rcases L with _ | ⟨a, _ | ⟨b, _ | ⟨c, _ | ⟨d, r⟩⟩⟩⟩
    · simp at h
    · simp at h
    · simp at h
    · simp at h
    · have h2 : ∀ x, tks [.num] [Lib.join (c :: d :: r) [32]] x = none := fun x => by simp [tks, tk, num_space (join_space c d r)]
      simp only [List.take_succ_cons, List.take_zero, List.drop_succ_cons, List.drop_zero, List.cons_append, List.nil_append]
      have h3 : tks [.ok, .num] [b, Lib.join (c :: d :: r) [32]] E0 = none := by
        unfold tks
        split
        · rfl
        · exact h2 _
      simp [h3]
theorem rdW (nm s : List UInt8) : rd1 nm [.ok, .data, .num] s = match spl 32 s with
    | [a, b, c, d] => if a = nm then tks [.ok, .data, .num] [b, c, d] E0 else none
    | _ => none := by
  show (if (splN 3 s).length = 4 ∧ (splN 3 s)[0]? = some nm then tks [.ok, .data, .num] ((splN 3 s).drop 1) E0 else none) = _
  by_cases h : (spl 32 s).length ≤ 4
  · rw [splN_few 3 s h]
    generalize spl 32 s = L at *
    rcases L with _ | ⟨a, _ | ⟨b, _ | ⟨c, _ | ⟨d, _ | ⟨e, r⟩⟩⟩⟩⟩
    · simp
    · simp
    · simp
    · simp
    · simp
    · simp at h
  · rw [splN_more 3 s (by omega)]
    generalize spl 32 s = L at *
    rcases L with _ | ⟨a, _ | ⟨b, _ | ⟨c, _ | ⟨d, _ | ⟨e, r⟩⟩⟩⟩⟩
    · simp at h
    · simp at h
    · simp at h
    · simp at h
    · simp at h
    · have h2 : ∀ x, tks [.num] [Lib.join (d :: e :: r) [32]] x = none := fun x => by simp [tks, tk, num_space (join_space d e r)]
      have h4 : ∀ x, tks [.data, .num] [c, Lib.join (d :: e :: r) [32]] x = none := fun x => by
        unfold tks
        split
        · rfl
        · exact h2 _
      have h3 : tks [.ok, .data, .num] [b, c, Lib.join (d :: e :: r) [32]] E0 = none := by
        unfold tks
        split
        · rfl
        · exact h4 _
      simp only [List.take_succ_cons, List.take_zero, List.drop_succ_cons, List.drop_zero, List.cons_append, List.nil_append]
      simp [h3]
theorem rdN (nm s : List UInt8) : rd1 nm [] s = if s = nm then some E0 else none := by
  unfold rd1
  simp [splN, tks]
theorem spl_no (c : UInt8) : ∀ l, ∀ p ∈ spl c l, c ∉ p
  | [], p, hp => by simp [spl] at hp; subst hp; simp
  | x :: l, p, hp => by
    have ih := spl_no c l
    unfold spl at hp
    by_cases g : x = c
    · rw [if_pos g] at hp
      rcases List.mem_cons.1 hp with rfl | h
      · simp
      · exact ih p h
    · rw [if_neg g] at hp
      cases e : spl c l with
      | nil => exact absurd e (spl_ne c l)
      | cons h t =>
        rw [e] at hp ih
        simp only at hp
        rcases List.mem_cons.1 hp with rfl | h2
        · have h3 := ih h (by simp)
          simp only [List.mem_cons, not_or]
          exact ⟨fun e => g e.symm, h3⟩
        · exact ih p (by simp [h2])
/-- Attributes stand in three pieces. -/
theorem attrs_three {x : Ef} {p : List UInt8} (h : (spl 32 p).length ≠ 3) : tk .attrs x p = none := by
  show (if text (rdf p) (rdm p) (rdt p) = p then some { x with f := rdf p, m := rdm p, t := rdt p } else none) = none
  rw [if_neg]
  intro e
  apply h
  rw [← e, text_spl]
  rfl
theorem rdA (nm s : List UInt8) : rd1 nm [.ok, .attrs] s = match spl 32 s with
    | [a, b, c, d, e] => if a = nm then tks [.ok, .attrs] [b, c ++ 32 :: (d ++ 32 :: e)] E0 else none
    | _ => none := by
  have hn := spl_no 32 s
  show (if (splN 2 s).length = 3 ∧ (splN 2 s)[0]? = some nm then tks [.ok, .attrs] ((splN 2 s).drop 1) E0 else none) = _
  by_cases h : (spl 32 s).length ≤ 3
  · rw [splN_few 2 s h]
    generalize spl 32 s = L at *
    rcases L with _ | ⟨a, _ | ⟨b, _ | ⟨c, _ | ⟨d, r⟩⟩⟩⟩
    · simp
    · simp
    · simp
    · have h2 : ∀ x, tk .attrs x c = none := fun x => attrs_three (by rw [spl_none (hn c (by simp))]; simp)
      have h3 : tks [.ok, .attrs] [b, c] E0 = none := by
        unfold tks
        split
        · rfl
        · unfold tks; rw [h2]
      simp [h3]
    · simp at h
  · rw [splN_more 2 s (by omega)]
    generalize spl 32 s = L at *
    rcases L with _ | ⟨a, _ | ⟨b, _ | ⟨c, _ | ⟨d, r⟩⟩⟩⟩
    · simp at h
    · simp at h
    · simp at h
    · simp at h
    · simp only [List.take_succ_cons, List.take_zero, List.drop_succ_cons, List.drop_zero, List.cons_append, List.nil_append]
      have hs : spl 32 (Lib.join (c :: d :: r) [32]) = c :: d :: r := spl_join (by simp) (fun p hp => hn p (by simp at hp ⊢; exact .inr (.inr hp)))
      rcases r with _ | ⟨e, _ | ⟨f, r⟩⟩
      · have h2 : ∀ x, tk .attrs x (Lib.join [c, d] [32]) = none := fun x => attrs_three (by rw [hs]; simp)
        have h3 : tks [.ok, .attrs] [b, Lib.join [c, d] [32]] E0 = none := by
          unfold tks
          split
          · rfl
          · unfold tks; rw [h2]
        simp [h3]
      · rw [join_cons2, join_cons2, Lib.join_one]
        simp
      · have h2 : ∀ x, tk .attrs x (Lib.join (c :: d :: e :: f :: r) [32]) = none := fun x => attrs_three (by rw [hs]; simp)
        have h3 : tks [.ok, .attrs] [b, Lib.join (c :: d :: e :: f :: r) [32]] E0 = none := by
          unfold tks
          split
          · rfl
          · unfold tks; rw [h2]
        simp [h3]
end Go.Proofs.YthfiilhbgogoaaaGreatDoor
