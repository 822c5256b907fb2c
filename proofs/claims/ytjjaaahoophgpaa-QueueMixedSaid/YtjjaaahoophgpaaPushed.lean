/-
  What a queue holds behind a row of pushes, each number its place in the row.
-/
import Derived.Test.YtjjaaahoophgpaaArgs
namespace Go.Proofs.Ytjjaaahoophgpaa
open Go.RowKit Go.Lib
set_option linter.unusedVariables false

def mkE (m : Mo) (n : Int) (t : Nat) : Ent := if h : t < 4611686018427387904 then ⟨m, n, t, h⟩ else default
theorem mkE_m {m : Mo} {n : Int} {t : Nat} (h : t < 4611686018427387904) : (mkE m n t).m = m := by unfold mkE; rw [dif_pos h]
theorem mkE_n {m : Mo} {n : Int} {t : Nat} (h : t < 4611686018427387904) : (mkE m n t).n = n := by unfold mkE; rw [dif_pos h]
theorem mkE_t {m : Mo} {n : Int} {t : Nat} (h : t < 4611686018427387904) : (mkE m n t).t = t := by unfold mkE; rw [dif_pos h]
theorem mkE_all {m : Mo} {n : Int} {t : Nat} (h : t < 4611686018427387904) : (mkE m n t).m = m ∧ (mkE m n t).n = n ∧ (mkE m n t).t = t := ⟨mkE_m h, mkE_n h, mkE_t h⟩

/-- Behind k pushes. -/
def pushed (l : List Mo) : Nat → List Ent
  | 0 => []
  | k + 1 => ins (mkE (l[k]!) (k : Int) k) (pushed l k)
theorem pushed_length (l : List Mo) : ∀ k, (pushed l k).length = k
  | 0 => rfl
  | k + 1 => by rw [pushed, ins_length, pushed_length l k]
theorem pushed_mem (l : List Mo) : ∀ k x, x ∈ pushed l k → ∃ j, j < k ∧ x = mkE (l[j]!) (j : Int) j
  | 0, x, h => by cases h
  | k + 1, x, h => by
    rcases List.mem_cons.1 ((ins_perm _ _).mem_iff.1 h) with e | e
    · exact ⟨k, by omega, e⟩
    · obtain ⟨j, hj, e⟩ := pushed_mem l k x e
      exact ⟨j, by omega, e⟩
theorem drop_cons {α : Type} [Inhabited α] (s : List α) (i : Nat) (h : i < s.length) : s.drop i = s[i]! :: s.drop (i + 1) := by
  rw [getElem!_pos s i h]
  exact List.drop_eq_getElem_cons h
theorem Qs.next {W : World} {F : List Nat} {b t : Nat} {s : List Ent} {i : Nat} (h : Qs W F b (s.drop i) t) (hi : i < s.length) : Qs W F b (s[i]! :: s.drop (i + 1)) t := by
  rw [← drop_cons s i hi]
  exact h
theorem Us.cell {w wr : World} {a : Option Addr} {l : List Mo} (h : Us w a l) {F : List Nat} (hs : Stp [] w F wr) {i : Nat} (hi : i < l.length) : ∃ b off, a = some ⟨b, off, none⟩ ∧ wr.cell? ⟨b, off + i, none⟩ = some (.int .u64 ((l[i]!).v : Int)) := by
  obtain ⟨b, off, h1, _, h2⟩ := (h.below hs.under).at hi
  exact ⟨b, off, h1, h2⟩
end Go.Proofs.Ytjjaaahoophgpaa
