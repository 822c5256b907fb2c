/-
  Of bytes without control characters the decoder's keys are the characters of the text.
-/
import Derived.Test.YthffjcacdcipeaaDoorUChars
import Derived.Test.YthffjcacdcipeaaDoorFin
namespace Go.Proofs.YthffjcacdcipeaaDoor
set_option linter.unusedVariables false

/-- Is a byte neither a control character nor 127? -/
def isT (c : UInt8) : Bool := decide (32 ≤ c.toNat) && decide (c.toNat ≠ 127)
/-- The characters of bytes. -/
def chs (l : List UInt8) : List Nat := U.chars (l.map UInt8.toNat)
/-- The key of a character of a text. -/
def tk (c : Nat) : Ky := if K.shown (c : Int) = true then (0, (c : Int)) else (15, 0)
theorem getD_nat (l : List UInt8) (i : Nat) : (l.map UInt8.toNat).getD i 0 < 256 := U.getD_lt (nat_lt l) i
theorem nx8_ge {c : UInt8} {r : List UInt8} (hc : isT c = true) (h : (nx8 (c :: r)).2.2 = 0) : 32 ≤ (nx8 (c :: r)).1 ∧ (nx8 (c :: r)).1 ≠ 127 := by
  unfold isT at hc
  simp only [Bool.and_eq_true, decide_eq_true_eq] at hc
  exact U.nextN_ge _ _ _ _ _ (getD_nat (c :: r) 0) (getD_nat (c :: r) 1) (getD_nat (c :: r) 2) (getD_nat (c :: r) 3) (by simpa using hc) h
theorem kof_text {c : Int} (h : 32 ≤ c ∧ c ≠ 127) : K.kof c = 15 := by
  unfold K.kof
  rw [if_neg (by omega), if_neg (by omega), if_neg (by omega), if_neg (by omega), if_neg (by omega), if_neg (by omega), if_neg (by omega), if_neg (by omega), if_neg (by omega), if_neg (by omega), if_neg (by omega), if_neg (by omega), if_neg (by omega)]
theorem ock_tk (p : Bool) (c : Nat) (h : K.shown (c : Int) = true ∨ (32 ≤ c ∧ c ≠ 127)) : ock p (c : Int) = tk c := by
  unfold ock tk K.ofk
  cases hs : K.shown (c : Int) with
  | true => simp
  | false =>
    have h2 : 32 ≤ c ∧ c ≠ 127 := by
      rcases h with h | h
      · rw [hs] at h; cases h
      · exact h
    have h3 := kof_text (c := (c : Int)) (by omega)
    cases p <;> simp [h3]
theorem chs_nil : chs [] = [] := rfl
theorem chs_cons (c : UInt8) (r : List UInt8) : chs (c :: r) = (if (nx8 (c :: r)).2.2 = 0 then (nx8 (c :: r)).1 else 65533) :: chs ((c :: r).drop (nx8 (c :: r)).2.1) := by
  unfold chs
  rw [U.chars_cons (by simp) (nat_lt (c :: r)), List.map_drop]
  rfl
theorem shown_instead : K.shown 65533 = true := by decide +kernel
/-- The decoder's keys, and the one of what is held at the end, are the characters'. -/
theorem rd_text : ∀ p l, (∀ c ∈ l, isT c = true) → (rd p l).ks ++ lastk (rd p l).h = (chs l).map tk := by
  refine rd_ind (fun p l h ht => ?_) (fun p l f h ih ht => ?_)
  · rw [rd_none h]
    rcases l with _ | ⟨c, r⟩
    · rfl
    · have hc := ht c (by simp)
      have hne : c ≠ 27 := by intro e; subst e; revert hc; decide
      rw [fst1_chr p r hne] at h
      by_cases he : (nx8 (c :: r)).2.2 = 7
      · have h7 := nx8_seven he
        rw [chs_cons, if_neg (by rw [he]; decide), h7.1, List.drop_length, chs_nil]
        show [] ++ (if c = 27 then [((15, 0) : Ky)] else [(0, 65533)]) = [tk 65533]
        rw [if_neg hne]
        unfold tk
        rw [if_pos (show K.shown ((65533 : Nat) : Int) = true from shown_instead)]
        rfl
      · rw [if_neg he] at h
        cases h
  · rcases l with _ | ⟨c, r⟩
    · cases h
    · have hc := ht c (by simp)
      have hne : c ≠ 27 := by intro e; subst e; revert hc; decide
      have hd := ih (fun x hx => ht x (List.mem_of_mem_drop hx))
      rw [rd_some h]
      rw [fst1_chr p r hne] at h
      by_cases he : (nx8 (c :: r)).2.2 = 7
      · rw [if_pos he] at h
        cases h
      · rw [if_neg he] at h
        have hf := Option.some.inj h
        have h1 : f.x = tk (if (nx8 (c :: r)).2.2 = 0 then (nx8 (c :: r)).1 else 65533) := by
          rw [← hf]
          by_cases h0 : (nx8 (c :: r)).2.2 = 0
          · rw [if_pos h0, if_pos h0]
            exact ock_tk p _ (.inr (nx8_ge hc h0))
          · rw [if_neg h0, if_neg h0]
            exact ock_tk p 65533 (.inl shown_instead)
        have h2 : f.n = (nx8 (c :: r)).2.1 := by rw [← hf]
        rw [chs_cons, List.map_cons, List.cons_append, hd, h1, h2]
theorem ex_paste : rd false ([] ++ [27, 91, 50, 48, 48, 126]) = ⟨[(13, 0)], [], true⟩ := by
  have h : (rd false [27, 91, 50, 48, 48, 126]).ks = [(13, 0)] ∧ (rd false [27, 91, 50, 48, 48, 126]).h = [] ∧ (rd false [27, 91, 50, 48, 48, 126]).p = true := by decide +kernel
  obtain ⟨h1, h2, h3⟩ := h
  show rd false [27, 91, 50, 48, 48, 126] = _
  generalize rd false [27, 91, 50, 48, 48, 126] = r at *
  cases r
  simp_all
end Go.Proofs.YthffjcacdcipeaaDoor
