/-
  Bytes of right characters, one behind the other. No walk stands in this text.
-/
import Derived.Test.YtcailmgincafcaaDoorUChars
namespace Go.Proofs.YtcailmgincafcaaDoor.U
open Go.RowKit Go.Lib
set_option linter.unusedVariables false

/-- What is put is what is next. -/
theorem nx_enc (c : Nat) (hc : isCh c = true) : nx (enc c) = (c, (enc c).length, 0) := by
  have h := of_decide_eq_true hc
  unfold enc
  by_cases h1 : c < 128
  · rw [if_pos h1]
    have s : szB c = 1 := by unfold szB; rw [if_pos h1]
    simp [nx, nextN, s]
  · rw [if_neg h1]
    by_cases h2 : c < 2048
    · rw [if_pos h2]
      have s : szB (192 + c / 64) = 2 := by unfold szB; (repeat' split) <;> omega
      have l : loB (192 + c / 64) = 128 := by unfold loB; (repeat' split) <;> omega
      have u : hiB (192 + c / 64) = 191 := by unfold hiB; (repeat' split) <;> omega
      show nextN 2 (192 + c / 64) (128 + c % 64) 0 0 = (c, 2, 0)
      unfold nextN
      rw [s, l, u, if_neg (by omega), if_neg (by omega), if_neg (by omega), if_neg (by omega), if_neg (by omega), if_pos rfl, show (192 + c / 64) % 32 * 64 + (128 + c % 64) % 64 = c from by omega]
    · rw [if_neg h2]
      by_cases h3 : c < 65536
      · rw [if_pos h3]
        have s : szB (224 + c / 4096) = 3 := by unfold szB; (repeat' split) <;> omega
        have l : loB (224 + c / 4096) ≤ 128 + c / 64 % 64 := by unfold loB; (repeat' split) <;> omega
        have u : 128 + c / 64 % 64 ≤ hiB (224 + c / 4096) := by unfold hiB; (repeat' split) <;> omega
        have q : ¬ (128 + c / 64 % 64 < loB (224 + c / 4096) ∨ hiB (224 + c / 4096) < 128 + c / 64 % 64) := by omega
        show nextN 3 (224 + c / 4096) (128 + c / 64 % 64) (128 + c % 64) 0 = (c, 3, 0)
        unfold nextN
        rw [s, if_neg (by omega), if_neg (by omega), if_neg (by omega), if_neg (by omega), if_neg q, if_neg (by omega), if_neg (by omega), if_neg (by omega), if_pos rfl, show (224 + c / 4096) % 16 * 4096 + (128 + c / 64 % 64) % 64 * 64 + (128 + c % 64) % 64 = c from by omega]
      · rw [if_neg h3]
        have s : szB (240 + c / 262144) = 4 := by unfold szB; (repeat' split) <;> omega
        have l : loB (240 + c / 262144) ≤ 128 + c / 4096 % 64 := by unfold loB; (repeat' split) <;> omega
        have u : 128 + c / 4096 % 64 ≤ hiB (240 + c / 262144) := by unfold hiB; (repeat' split) <;> omega
        have q : ¬ (128 + c / 4096 % 64 < loB (240 + c / 262144) ∨ hiB (240 + c / 262144) < 128 + c / 4096 % 64) := by omega
        show nextN 4 (240 + c / 262144) (128 + c / 4096 % 64) (128 + c / 64 % 64) (128 + c % 64) = (c, 4, 0)
        unfold nextN
        rw [s, if_neg (by omega), if_neg (by omega), if_neg (by omega), if_neg (by omega), if_neg q, if_neg (by omega), if_neg (by omega), if_neg (by omega), if_neg (by omega), if_neg (by omega), if_neg (by omega), show (240 + c / 262144) % 8 * 262144 + (128 + c / 4096 % 64) % 64 * 4096 + (128 + c / 64 % 64) % 64 * 64 + (128 + c % 64) % 64 = c from by omega]

theorem enc_ne (c : Nat) : enc c ≠ [] := by
  intro e
  have := (enc_len c).1
  rw [e] at this
  simp at this

theorem chars_enc (c : Nat) (hc : isCh c = true) (m : List Nat) (hm : ∀ x ∈ m, x < 256) : chars (enc c ++ m) = c :: chars m := by
  have h := of_decide_eq_true hc
  have hlt := enc_lt c (by omega)
  have hb : ∀ x ∈ enc c ++ m, x < 256 := by
    intro x hx
    rcases List.mem_append.1 hx with hx | hx
    · exact hlt x hx
    · exact hm x hx
  have e := nx_app (enc c) m (enc_ne c) (by rw [nx_enc c hc]; simp)
  rw [nx_enc c hc] at e
  have hne : enc c ++ m ≠ [] := by
    intro e1
    exact enc_ne c (List.append_eq_nil_iff.1 e1).1
  rw [chars_cons hne hb]
  unfold chr
  rw [e]
  simp

theorem chars_all {l : List Nat} (hb : ∀ x ∈ l, x < 256) : ∀ c ∈ chars l, isCh c = true := by
  have key : ∀ n (l : List Nat), l.length ≤ n → (∀ x ∈ l, x < 256) → ∀ c ∈ chars l, isCh c = true := by
    intro n
    induction n with
    | zero =>
      intro l hl hb c hc
      have : l = [] := List.length_eq_zero_iff.1 (by omega)
      subst this
      simp [chars_nil] at hc
    | succ n ih =>
      intro l hl hb c hc
      by_cases e : l = []
      · subst e
        simp [chars_nil] at hc
      · have hp := nx_pos e hb
        rw [chars_cons e hb] at hc
        rcases List.mem_cons.1 hc with rfl | hc
        · exact chr_isCh hb
        · exact ih (l.drop (nx l).2.1) (by simp; omega) (drop_lt hb _) c hc
  exact key l.length l (Nat.le_refl _) hb

theorem flat_lt {cs : List Nat} (h : ∀ c ∈ cs, isCh c = true) : ∀ x ∈ cs.flatMap enc, x < 256 := by
  intro x hx
  obtain ⟨c, hc, hx⟩ := List.mem_flatMap.1 hx
  have := of_decide_eq_true (h c hc)
  exact enc_lt c (by omega) x hx

theorem chars_flat (cs : List Nat) (h : ∀ c ∈ cs, isCh c = true) (m : List Nat) (hm : ∀ x ∈ m, x < 256) : chars (cs.flatMap enc ++ m) = cs ++ chars m := by
  induction cs with
  | nil => simp
  | cons c cs ih =>
    have hc := h c (by simp)
    have hr : ∀ c' ∈ cs, isCh c' = true := fun c' hc' => h c' (by simp [hc'])
    rw [List.flatMap_cons, List.append_assoc, chars_enc c hc _ (by
      intro x hx
      rcases List.mem_append.1 hx with hx | hx
      · exact flat_lt hr x hx
      · exact hm x hx), ih hr]
    rfl

end Go.Proofs.YtcailmgincafcaaDoor.U
