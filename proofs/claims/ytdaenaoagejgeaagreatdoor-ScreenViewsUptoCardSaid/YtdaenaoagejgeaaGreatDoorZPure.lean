/-
  What is seen behind what is rendered. No walk stands in this text.
-/
import Derived.Test.YtdaenaoagejgeaaGreatDoorLw
import Derived.Test.YtdaenaoagejgeaaGreatDoorVRen
namespace Go.Proofs.YtdaenaoagejgeaaGreatDoor
open Go.RowKit Go.Lib
set_option linter.unusedVariables false

/-- Characters laid one behind another. -/
def typ (S : Sn) (cs : List Nat) : Sn := cs.foldl (fun S c => { S with cur := laid S.cur S.col c, col := S.col + 1 }) S
theorem laid_at (P R : List Nat) (c : Nat) : laid (P ++ R) P.length c = (P ++ [c]) ++ R.drop 1 := by
  unfold laid
  cases R with
  | nil =>
    rw [if_neg (by simp), List.append_nil, Nat.sub_self]
    simp
  | cons x R =>
    rw [if_pos (by simp), List.set_append_right P.length c (Nat.le_refl _)]
    simp
theorem typ_mid (up : List (List Nat)) (be : Nat) (pa : Bool) (od : Nat) : ∀ (Y P R : List Nat), typ ⟨up, P ++ R, P.length, be, pa, od⟩ Y = ⟨up, P ++ Y ++ R.drop Y.length, P.length + Y.length, be, pa, od⟩
  | [], P, R => by simp [typ]
  | c :: Y, P, R => by
    have h1 : typ ⟨up, P ++ R, P.length, be, pa, od⟩ (c :: Y) = typ ⟨up, (P ++ [c]) ++ R.drop 1, (P ++ [c]).length, be, pa, od⟩ Y := by
      unfold typ
      rw [List.foldl_cons]
      simp only [laid_at, List.length_append, List.length_singleton]
    rw [h1, typ_mid up be pa od Y (P ++ [c]) (R.drop 1)]
    simp
    omega
theorem seen_typ : ∀ (X : List Nat) (L : List UInt8), Pr X → held L = [] → seen (L ++ fl X) = typ (seen L) X ∧ held (L ++ fl X) = []
  | [], L, _, hh => by simp [fl, typ, hh]
  | c :: X, L, hp, hh => by
    have h1 := seen_chr hh (hp c (by simp))
    have h2 := seen_typ X (L ++ enc8 c) (fun x hx => hp x (by simp [hx])) h1.2
    rw [fl_cons, ← List.append_assoc]
    refine ⟨?_, h2.2⟩
    rw [h2.1, h1.1]
    rfl
theorem pr_star (s : Nat) : Pr (List.replicate s 42) := fun c hc => by
  rw [List.eq_of_mem_replicate hc]
  decide
theorem fl_star : ∀ s, fl (List.replicate s 42) = List.replicate s 42
  | 0 => rfl
  | s + 1 => by
    rw [List.replicate_succ, fl_cons, fl_star s]
    rfl
/-- A line, behind whatever stood there. -/
theorem seen_line {L : List UInt8} {cur : List Nat} {col : Nat} (hh : held L = []) (hs : seen L = ⟨[], cur, col, 0, false, 0⟩) {X : List Nat} (hX : Pr X) (s b : Nat) (hb : b ≤ 9999) :
    seen (L ++ lineL (fl X) s b) = ⟨[], X ++ List.replicate s 42, X.length + s - b, 0, false, 0⟩ ∧ held (L ++ lineL (fl X) s b) = [] := by
  have h1 := seen_back0 hh
  rw [hs] at h1
  have h2 := seen_typ (X ++ List.replicate s 42) (L ++ [13]) (hX.app (pr_star s)) h1.2
  have h3 : typ ⟨[], cur, 0, 0, false, 0⟩ (X ++ List.replicate s 42) = ⟨[], (X ++ List.replicate s 42) ++ cur.drop (X ++ List.replicate s 42).length, (X ++ List.replicate s 42).length, 0, false, 0⟩ := by
    have := typ_mid [] 0 false 0 (X ++ List.replicate s 42) [] cur
    simpa using this
  rw [h1.1, h3] at h2
  have h4 := seen_S1 h2.2
  rw [h2.1] at h4
  have e4 : ((X ++ List.replicate s 42) ++ cur.drop (X ++ List.replicate s 42).length).take (X ++ List.replicate s 42).length = X ++ List.replicate s 42 := by
    rw [List.take_append_of_le_length (Nat.le_refl _), List.take_length]
  simp only [e4] at h4
  have hl : (X ++ List.replicate s 42).length = X.length + s := by simp
  have e5 : lineL (fl X) s b = [13] ++ fl (X ++ List.replicate s 42) ++ S1 ++ (if b = 0 then [] else SD b) := by
    unfold lineL S1 SD
    rw [fl_app, fl_star]
    split <;> simp
  rw [e5]
  by_cases h0 : b = 0
  · rw [if_pos h0, List.append_nil, ← List.append_assoc, ← List.append_assoc]
    refine ⟨?_, h4.2⟩
    rw [h4.1, hl, h0]
    rfl
  · rw [if_neg h0, ← List.append_assoc, ← List.append_assoc, ← List.append_assoc]
    have h6 := seen_SD (n := b) h4.2 (by omega) hb
    refine ⟨?_, h6.2⟩
    rw [h6.1, h4.1, hl]
end Go.Proofs.YtdaenaoagejgeaaGreatDoor
