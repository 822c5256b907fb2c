/-
  What a key is told by, gone through by the decoder: that key, and nothing is held.
-/
import Derived.Test.YthffjcacdcipeaaDoorDcd
import Derived.Test.YthffjcacdcipeaaDoorKStr
namespace Go.Proofs.YthffjcacdcipeaaDoor.U
open Go.RowKit Go.Lib
set_option linter.unusedVariables false

theorem nx_enc (c : Nat) (hc : isCh c = true) : nx (enc c) = (c, (enc c).length, 0) := by
  have h := of_decide_eq_true hc
  unfold enc
  by_cases h1 : c < 128
  · rw [if_pos h1]
    have s : szB c = 1 := by unfold szB; rw [if_pos h1]
    simp [nx, nextN, s]
  · rw [if_neg h1]
    by_cases h2 : c < 2048
    · rw [if_pos h2]
      have s : szB (192 + c / 64) = 2 := by unfold szB; (repeat' split) <;> omega
      have l : loB (192 + c / 64) = 128 := by unfold loB; (repeat' split) <;> omega
      have u : hiB (192 + c / 64) = 191 := by unfold hiB; (repeat' split) <;> omega
      show nextN 2 (192 + c / 64) (128 + c % 64) 0 0 = (c, 2, 0)
      unfold nextN
      rw [s, l, u, if_neg (by omega), if_neg (by omega), if_neg (by omega), if_neg (by omega), if_neg (by omega), if_pos rfl, show (192 + c / 64) % 32 * 64 + (128 + c % 64) % 64 = c from by omega]
    · rw [if_neg h2]
      by_cases h3 : c < 65536
      · rw [if_pos h3]
        have s : szB (224 + c / 4096) = 3 := by unfold szB; (repeat' split) <;> omega
        have l : loB (224 + c / 4096) ≤ 128 + c / 64 % 64 := by unfold loB; (repeat' split) <;> omega
        have u : 128 + c / 64 % 64 ≤ hiB (224 + c / 4096) := by unfold hiB; (repeat' split) <;> omega
        have q : ¬ (128 + c / 64 % 64 < loB (224 + c / 4096) ∨ hiB (224 + c / 4096) < 128 + c / 64 % 64) := by omega
        show nextN 3 (224 + c / 4096) (128 + c / 64 % 64) (128 + c % 64) 0 = (c, 3, 0)
        unfold nextN
        rw [s, if_neg (by omega), if_neg (by omega), if_neg (by omega), if_neg (by omega), if_neg q, if_neg (by omega), if_neg (by omega), if_neg (by omega), if_pos rfl, show (224 + c / 4096) % 16 * 4096 + (128 + c / 64 % 64) % 64 * 64 + (128 + c % 64) % 64 = c from by omega]
      · rw [if_neg h3]
        have s : szB (240 + c / 262144) = 4 := by unfold szB; (repeat' split) <;> omega
        have l : loB (240 + c / 262144) ≤ 128 + c / 4096 % 64 := by unfold loB; (repeat' split) <;> omega
        have u : 128 + c / 4096 % 64 ≤ hiB (240 + c / 262144) := by unfold hiB; (repeat' split) <;> omega
        have q : ¬ (128 + c / 4096 % 64 < loB (240 + c / 262144) ∨ hiB (240 + c / 262144) < 128 + c / 4096 % 64) := by omega
        show nextN 4 (240 + c / 262144) (128 + c / 4096 % 64) (128 + c / 64 % 64) (128 + c % 64) = (c, 4, 0)
        unfold nextN
        rw [s, if_neg (by omega), if_neg (by omega), if_neg (by omega), if_neg (by omega), if_neg q, if_neg (by omega), if_neg (by omega), if_neg (by omega), if_neg (by omega), if_neg (by omega), if_neg (by omega), show (240 + c / 262144) % 8 * 262144 + (128 + c / 4096 % 64) % 64 * 4096 + (128 + c / 64 % 64) % 64 * 64 + (128 + c % 64) % 64 = c from by omega]

end Go.Proofs.YthffjcacdcipeaaDoor.U
namespace Go.Proofs.YthffjcacdcipeaaDoor
set_option linter.unusedVariables false

/-- The key that a key's bytes have, by whether a paste is begun. -/
def wnt (p : Bool) (k : Nat) (c : Int) : Ky := if (p = false ∧ k = 14) ∨ (p = true ∧ k ≠ 0 ∧ k ≠ 14) then (15, 0) else ((k : Int), c)
/-- Is a paste begun behind it? -/
def wpa (p : Bool) (k : Nat) : Bool := if (p = false ∧ k = 14) ∨ (p = true ∧ k ≠ 0 ∧ k ≠ 14) then p else if k = 13 ∨ k = 14 then k == 13 else p
/-- Does the decoder read a kind's bytes so? -/
def okk (p : Bool) (k : Nat) : Bool := match fst1 p (K.kt k) with
  | none => false
  | some f => decide (f.x.1 = (wnt p k 0).1) && (decide (f.x.2 = (wnt p k 0).2) && (decide (f.n = (K.kt k).length) && (f.p == wpa p k)))
theorem okk_all : ∀ k, k < 16 → k = 0 ∨ (okk false k = true ∧ okk true k = true) := by decide +kernel
theorem kt_fst (k : Nat) (hk : k < 16) (h0 : k ≠ 0) (p : Bool) : fst1 p (K.kt k) = some ⟨wnt p k 0, (K.kt k).length, wpa p k⟩ := by
  have h : okk p k = true := by
    rcases okk_all k hk with e | ⟨h1, h2⟩
    · exact absurd e h0
    · cases p
      · exact h1
      · exact h2
  unfold okk at h
  cases h2 : fst1 p (K.kt k) with
  | none => rw [h2] at h; cases h
  | some f =>
    rw [h2] at h
    simp only [Bool.and_eq_true, decide_eq_true_eq, beq_iff_eq] at h
    obtain ⟨h3, h4, h5, h6⟩ := h
    obtain ⟨x, n, q⟩ := f
    have : x = wnt p k 0 := Prod.ext h3 h4
    subst this
    simp only at h5 h6
    rw [h5, h6]
theorem enc8_fst {c : Nat} (hs : K.shown (c : Int) = true) (p : Bool) : fst1 p (K.enc8 c) = some ⟨(0, (c : Int)), (K.enc8 c).length, p⟩ := by
  have h := of_decide_eq_true hs
  have hc : c ≤ 1114111 := by omega
  have hn := U.nx_enc c (by simp [U.isCh]; omega)
  have h8 : nx8 (K.enc8 c) = (c, (K.enc8 c).length, 0) := by
    unfold nx8
    rw [K.enc8_nat hc, hn]
    unfold K.enc8
    simp
  have hl := K.enc8_len c
  have hn8 := K.enc8_nat hc
  have ho : ock p (c : Int) = (0, (c : Int)) := by
    unfold ock
    rw [if_neg (by rw [hs]; simp)]
    unfold K.ofk
    rw [hs]
    rfl
  cases he : K.enc8 c with
  | nil => rw [he] at hl; simp at hl
  | cons x r =>
    have hx : x ≠ 27 := by
      intro e
      subst e
      rw [he] at hn8
      unfold U.enc at hn8
      (repeat' split at hn8) <;> simp at hn8 <;> omega
    rw [he] at h8
    rw [fst1_chr p r hx, h8, if_neg (by simp), if_pos rfl]
    show some (Fs.mk (ock p (c : Int)) _ p) = _
    rw [ho]
theorem kb_rd {k c : Nat} (h : K.chk (k : Int) (c : Int) = 0) (p : Bool) : rd p (K.kb k c) = ⟨[wnt p k (c : Int)], [], wpa p k⟩ := by
  obtain ⟨k', c', e1, e2, hk, h0, h1⟩ := K.chk_zero h
  obtain rfl : k = k' := by omega
  obtain rfl : c = c' := by omega
  by_cases g : k = 0
  · subst g
    have e : K.kb 0 c = K.enc8 c := rfl
    have hf := enc8_fst (h0 rfl).1 p
    rw [e, rd_some hf]
    simp only [List.drop_length, rd_nil]
    cases p <;> rfl
  · obtain rfl := h1 g
    have e : K.kb k 0 = K.kt k := by unfold K.kb; rw [if_neg g]
    rw [e, rd_some (kt_fst k hk g p)]
    simp only [List.drop_length, rd_nil]
    rfl
end Go.Proofs.YthffjcacdcipeaaDoor
