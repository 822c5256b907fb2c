/-
  Texts of right characters, one behind the other. No walk stands in this text.
-/
import Derived.Test.YtgnmjhhfefnmcaaDoorText
import Derived.Test.YtgnmjhhfefnmcaaDoorWUtfBack
namespace Go.Proofs.YtgnmjhhfefnmcaaDoor
open Go.RowKit Go.Lib
set_option linter.unusedVariables false

theorem enc_ne (c : Nat) : enc c ≠ [] := by
  intro e
  have := (enc_len c).1
  rw [e] at this
  simp at this

theorem chars_enc (c : Nat) (hc : isCh c = true) (m : List Nat) (hm : ∀ x ∈ m, x < 256) : chars (enc c ++ m) = c :: chars m := by
  have h := of_decide_eq_true hc
  have hlt := enc_lt c (by omega)
  have hb : ∀ x ∈ enc c ++ m, x < 256 := by
    intro x hx
    rcases List.mem_append.1 hx with hx | hx
    · exact hlt x hx
    · exact hm x hx
  have e := nx_app (enc c) m (enc_ne c) (by rw [UtfBack.nx_enc c hc]; simp)
  rw [UtfBack.nx_enc c hc] at e
  have hne : enc c ++ m ≠ [] := by
    intro e1
    exact enc_ne c (List.append_eq_nil_iff.1 e1).1
  rw [chars_cons hne hb]
  unfold chr
  rw [e]
  simp

theorem chars_all {l : List Nat} (hb : ∀ x ∈ l, x < 256) : ∀ c ∈ chars l, isCh c = true := by
  have key : ∀ n (l : List Nat), l.length ≤ n → (∀ x ∈ l, x < 256) → ∀ c ∈ chars l, isCh c = true := by
    intro n
    induction n with
    | zero =>
      intro l hl hb c hc
      have : l = [] := List.length_eq_zero_iff.1 (by omega)
      subst this
      simp [chars_nil] at hc
    | succ n ih =>
      intro l hl hb c hc
      by_cases e : l = []
      · subst e
        simp [chars_nil] at hc
      · have hp := nx_pos e hb
        rw [chars_cons e hb] at hc
        rcases List.mem_cons.1 hc with rfl | hc
        · exact chr_isCh hb
        · exact ih (l.drop (nx l).2.1) (by simp; omega) (drop_lt hb _) c hc
  exact key l.length l (Nat.le_refl _) hb

theorem flat_lt {cs : List Nat} (h : ∀ c ∈ cs, isCh c = true) : ∀ x ∈ cs.flatMap enc, x < 256 := by
  intro x hx
  obtain ⟨c, hc, hx⟩ := List.mem_flatMap.1 hx
  have := of_decide_eq_true (h c hc)
  exact enc_lt c (by omega) x hx

theorem chars_flat (cs : List Nat) (h : ∀ c ∈ cs, isCh c = true) (m : List Nat) (hm : ∀ x ∈ m, x < 256) : chars (cs.flatMap enc ++ m) = cs ++ chars m := by
  induction cs with
  | nil => simp
  | cons c cs ih =>
    have hc := h c (by simp)
    have hr : ∀ c' ∈ cs, isCh c' = true := fun c' hc' => h c' (by simp [hc'])
    rw [List.flatMap_cons, List.append_assoc, chars_enc c hc _ (by
      intro x hx
      rcases List.mem_append.1 hx with hx | hx
      · exact flat_lt hr x hx
      · exact hm x hx), ih hr]
    rfl

theorem chars_bad (b : Nat) (hb : b < 256) (hs : szB b = 0) (m : List Nat) (hm : ∀ x ∈ m, x < 256) : chars (b :: m) = 65533 :: chars m := by
  have hbb : ∀ x ∈ b :: m, x < 256 := by
    intro x hx
    rcases List.mem_cons.1 hx with rfl | hx
    · exact hb
    · exact hm x hx
  have e : nx (b :: m) = (0, 1, 8) := by
    unfold nx nextN
    have h0 : ¬ (b :: m).length = 0 := by simp
    rw [if_neg h0]
    have h1 : (b :: m).getD 0 0 = b := rfl
    rw [h1, if_pos hs]
  rw [chars_cons (by simp) hbb]
  unfold chr
  rw [e]
  simp

theorem textL_lt {l : List Nat} (hb : ∀ x ∈ l, x < 256) : ∀ x ∈ textL l, x < 256 := flat_lt (chars_all hb)
theorem flat_len (cs : List Nat) : (cs.flatMap enc).length ≤ 4 * cs.length := by
  induction cs with
  | nil => simp
  | cons c cs ih =>
    rw [List.flatMap_cons, List.length_append, List.length_cons]
    have := (enc_len c).2
    omega
theorem textL_len {l : List Nat} (hb : ∀ x ∈ l, x < 256) : (textL l).length ≤ 4 * l.length := by
  have h1 := flat_len (chars l)
  have h2 := chars_len l hb
  unfold textL
  omega

theorem chars_text {l : List Nat} (hb : ∀ x ∈ l, x < 256) : chars (textL l) = chars l := by
  have := chars_flat (chars l) (chars_all hb) [] (by simp)
  simpa [textL, chars_nil] using this
theorem text_text {l : List Nat} (hb : ∀ x ∈ l, x < 256) : textL (textL l) = textL l := by
  unfold textL
  rw [show chars ((chars l).flatMap enc) = chars l from chars_text hb]
theorem chars_both {l m : List Nat} (hl : ∀ x ∈ l, x < 256) (hm : ∀ x ∈ m, x < 256) : chars (textL l ++ textL m) = chars l ++ chars m := by
  have := chars_flat (chars l) (chars_all hl) (textL m) (textL_lt hm)
  rw [chars_text hm] at this
  exact this
theorem text_both {l m : List Nat} (hl : ∀ x ∈ l, x < 256) (hm : ∀ x ∈ m, x < 256) : textL (textL l ++ textL m) = textL l ++ textL m := by
  have e := chars_both hl hm
  unfold textL at e ⊢
  rw [e, List.flatMap_append]
theorem text_bad {l m : List Nat} (hl : ∀ x ∈ l, x < 256) (hm : ∀ x ∈ m, x < 256) (b : Nat) (hb : b < 256) (hs : szB b = 0) : textL (textL l ++ [b] ++ textL m) = textL l ++ [239, 191, 189] ++ textL m := by
  have e : chars (textL l ++ [b] ++ textL m) = chars l ++ 65533 :: chars m := by
    rw [List.append_assoc]
    have h1 := chars_flat (chars l) (chars_all hl) ([b] ++ textL m) (by
      intro x hx
      rcases List.mem_append.1 hx with hx | hx
      · simp at hx; omega
      · exact textL_lt hm x hx)
    rw [show [b] ++ textL m = b :: textL m from rfl, chars_bad b hb hs _ (textL_lt hm), chars_text hm] at h1
    exact h1
  have e3 : enc 65533 = [239, 191, 189] := by decide
  unfold textL at e ⊢
  rw [e, List.flatMap_append, List.flatMap_cons, e3, List.append_assoc]

theorem str_append (l m : List Nat) : str l ++ str m = str (l ++ m) := by
  apply ByteArray.ext
  simp [str, strOfNums, ByteArray.data_append]

end Go.Proofs.YtgnmjhhfefnmcaaDoor
