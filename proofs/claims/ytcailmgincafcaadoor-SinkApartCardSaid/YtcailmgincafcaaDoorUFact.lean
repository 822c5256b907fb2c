/-
  utf: what a first character is, and what stands behind it plays no part. Over lists of numbers, and of bytes.
-/
import Derived.Test.YtcailmgincafcaaDoorUNx
namespace Go.Proofs.YtcailmgincafcaaDoor.U
open Go.RowKit Go.Lib
set_option linter.unusedVariables false

/-- A beginning is all that there is, and shorter than four bytes. -/
theorem nx_seven (l : List Nat) (h : (nx l).2.2 = 7) : (nx l).2.1 = l.length ∧ l.length < 4 := by
  have key : ∀ n b0 b1 b2 b3 (r : Nat × Nat × Nat), r = nextN n b0 b1 b2 b3 → r.2.2 = 7 → r.2.1 = n ∧ n < 4 := by
    intro n b0 b1 b2 b3 r hr h7
    unfold nextN at hr
    generalize szB b0 = s at hr
    generalize loB b0 = lo at hr
    generalize hiB b0 = hi at hr
    by_cases hn : n = 0
    · rw [if_pos hn] at hr
      subst hr
      simp at h7
    · rw [if_neg hn] at hr
      repeat' split at hr
      all_goals
        subst hr
        simp only at h7
        first
          | omega
          | (simp only; omega)
  exact key _ _ _ _ _ _ rfl h

theorem nextN_more (n m b0 b1 b2 b3 c1 c2 c3 : Nat) (hn : 0 < n) (hm : n ≤ m) (h1 : 1 < n → c1 = b1) (h2 : 2 < n → c2 = b2) (h3 : 3 < n → c3 = b3) (h : (nextN n b0 b1 b2 b3).2.2 ≠ 7) :
    nextN m b0 c1 c2 c3 = nextN n b0 b1 b2 b3 := by
  obtain ⟨r, hr⟩ : ∃ r, r = nextN n b0 b1 b2 b3 := ⟨_, rfl⟩
  rw [← hr] at h ⊢
  unfold nextN at hr ⊢
  generalize szB b0 = s at hr ⊢
  generalize loB b0 = lo at hr ⊢
  generalize hiB b0 = hi at hr ⊢
  rw [if_neg (by omega)] at hr ⊢
  by_cases s0 : s = 0
  · rw [if_pos s0] at hr ⊢; exact hr.symm
  rw [if_neg s0] at hr ⊢
  by_cases s1 : s = 1
  · rw [if_pos s1] at hr ⊢; exact hr.symm
  rw [if_neg s1] at hr ⊢
  by_cases n1 : n = 1
  · rw [if_pos n1] at hr
    subst hr
    exact absurd rfl h
  rw [if_neg n1] at hr
  rw [if_neg (by omega), h1 (by omega)]
  by_cases p1 : b1 < lo ∨ hi < b1
  · rw [if_pos p1] at hr ⊢; exact hr.symm
  rw [if_neg p1] at hr ⊢
  by_cases s2 : s = 2
  · rw [if_pos s2] at hr ⊢; exact hr.symm
  rw [if_neg s2] at hr ⊢
  by_cases n2 : n = 2
  · rw [if_pos n2] at hr
    subst hr
    exact absurd rfl h
  rw [if_neg n2] at hr
  rw [if_neg (by omega), h2 (by omega)]
  by_cases p2 : b2 < 128 ∨ 191 < b2
  · rw [if_pos p2] at hr ⊢; exact hr.symm
  rw [if_neg p2] at hr ⊢
  by_cases s3 : s = 3
  · rw [if_pos s3] at hr ⊢; exact hr.symm
  rw [if_neg s3] at hr ⊢
  by_cases n3 : n = 3
  · rw [if_pos n3] at hr
    subst hr
    exact absurd rfl h
  rw [if_neg n3] at hr
  rw [if_neg (by omega), h3 (by omega)]
  exact hr.symm

/-- Bytes behind what is told don't change it, but for a beginning. -/
theorem nx_app (l m : List Nat) (hl : l ≠ []) (h : (nx l).2.2 ≠ 7) : nx (l ++ m) = nx l := by
  have h0 : 0 < l.length := List.length_pos_iff.2 hl
  have hg : ∀ i, i < l.length → (l ++ m).getD i 0 = l.getD i 0 := by
    intro i hi
    simp [List.getD, List.getElem?_append_left hi]
  unfold nx at h ⊢
  rw [hg 0 h0]
  exact nextN_more _ _ _ _ _ _ _ _ _ h0 (by simp) (hg 1) (hg 2) (hg 3) h

theorem nx_pos {l : List Nat} (hl : l ≠ []) (hb : ∀ x ∈ l, x < 256) : 1 ≤ (nx l).2.1 ∧ (nx l).2.1 ≤ l.length ∧ (nx l).2.1 ≤ 4 := by
  have h := nextN_bd l.length (l.getD 0 0) (l.getD 1 0) (l.getD 2 0) (l.getD 3 0) (getD_lt hb 0)
  have h0 : 0 < l.length := List.length_pos_iff.2 hl
  exact ⟨h.2.2.2.1 h0, h.2.2.1, h.2.1⟩

end Go.Proofs.YtcailmgincafcaaDoor.U
namespace Go.Proofs.YtcailmgincafcaaDoor
set_option linter.unusedVariables false
/-- The first character of bytes: number, how many bytes, error. -/
def nx8 (l : List UInt8) : Nat × Nat × Nat := U.nx (l.map UInt8.toNat)
theorem nat_lt (l : List UInt8) : ∀ x ∈ l.map UInt8.toNat, x < 256 := fun x hx => by
  obtain ⟨y, _, rfl⟩ := List.mem_map.1 hx
  exact y.toNat_lt
theorem nx8_pos {l : List UInt8} (h : l ≠ []) : 1 ≤ (nx8 l).2.1 ∧ (nx8 l).2.1 ≤ l.length ∧ (nx8 l).2.1 ≤ 4 := by
  have := U.nx_pos (l := l.map UInt8.toNat) (by simpa using h) (nat_lt l)
  simpa [nx8] using this
theorem nx8_seven {l : List UInt8} (h : (nx8 l).2.2 = 7) : (nx8 l).2.1 = l.length ∧ l.length < 4 := by
  have := U.nx_seven (l.map UInt8.toNat) h
  simpa [nx8] using this
theorem nx8_app {l : List UInt8} (m : List UInt8) (h : l ≠ []) (h7 : (nx8 l).2.2 ≠ 7) : nx8 (l ++ m) = nx8 l := by
  have := U.nx_app (l.map UInt8.toNat) (m.map UInt8.toNat) (by simpa using h) h7
  unfold nx8
  rw [List.map_append]
  exact this
theorem nx8_e {l : List UInt8} (h : l ≠ []) : (nx8 l).2.2 = 0 ∨ (nx8 l).2.2 = 7 ∨ (nx8 l).2.2 = 8 := by
  have h0 : 0 < (l.map UInt8.toNat).length := by rw [List.length_map]; exact List.length_pos_iff.2 h
  have key : ∀ n b0 b1 b2 b3 (r : Nat × Nat × Nat), 0 < n → r = U.nextN n b0 b1 b2 b3 → r.2.2 = 0 ∨ r.2.2 = 7 ∨ r.2.2 = 8 := by
    intro n b0 b1 b2 b3 r hn hr
    unfold U.nextN at hr
    rw [if_neg (by omega)] at hr
    repeat' split at hr
    all_goals
      subst hr
      simp
  exact key _ _ _ _ _ _ h0 rfl
theorem nx8_lt {l : List UInt8} : (nx8 l).1 < 2097152 := by
  have h := U.nextN_bd (l.map UInt8.toNat).length ((l.map UInt8.toNat).getD 0 0) ((l.map UInt8.toNat).getD 1 0) ((l.map UInt8.toNat).getD 2 0) ((l.map UInt8.toNat).getD 3 0) (U.getD_lt (nat_lt l) 0)
  exact h.1
end Go.Proofs.YtcailmgincafcaaDoor
