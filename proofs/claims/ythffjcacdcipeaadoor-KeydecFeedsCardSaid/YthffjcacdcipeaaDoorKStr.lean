/-
  Bytes as numbers and as bytes; what a key is told by.
-/
import Derived.Test.YthffjcacdcipeaaDoorKKp
import Derived.Test.YthffjcacdcipeaaDoorUPut2
namespace Go.Proofs.YthffjcacdcipeaaDoor.K
open Go.RowKit Go.Lib
set_option linter.unusedVariables false

/-! ### Numbers and bytes -/
theorem bts_of_U {w : World} {a : Option Addr} {l : List Nat} (h : U.Bts w a l) : Bts w a (l.map UInt8.ofNat) := fun hl => by
  obtain ⟨b, off, h1, h2⟩ := h.2 (by intro e; subst e; exact hl rfl)
  refine ⟨b, off, h1, fun i hi => ?_⟩
  rw [List.length_map] at hi
  have hx := h.1 l[i] (List.getElem_mem hi)
  have h3 := h2 i hi
  rw [List.getD_eq_getElem?_getD, List.getElem?_eq_getElem hi, Option.getD_some] at h3
  rw [h3, getElem!_pos _ i (by rw [List.length_map]; exact hi), List.getElem_map]
  unfold bval
  rw [UInt8.toNat_ofNat', Nat.mod_eq_of_lt hx]
theorem bts_to_U {w : World} {a : Option Addr} {l : List UInt8} (h : Bts w a l) : U.Bts w a (l.map UInt8.toNat) := by
  refine ⟨fun x hx => ?_, fun hl => ?_⟩
  · obtain ⟨y, _, rfl⟩ := List.mem_map.1 hx
    exact y.toNat_lt
  · obtain ⟨b, off, h1, h2⟩ := h (by intro e; subst e; exact hl rfl)
    refine ⟨b, off, h1, fun i hi => ?_⟩
    rw [List.length_map] at hi
    rw [h2 i hi, getElem!_pos l i hi, List.getD_eq_getElem?_getD, List.getElem?_map, List.getElem?_eq_getElem hi]
    rfl
/-- A character's bytes. -/
def enc8 (c : Nat) : List UInt8 := (U.enc c).map UInt8.ofNat
/-- What a key is told by. -/
def kb (k c : Nat) : List UInt8 := if k = 0 then enc8 c else kt k
theorem enc_inj {c d : Nat} (hc : c ≤ 1114111) (hd : d ≤ 1114111) (h : U.enc c = U.enc d) : c = d := by
  unfold U.enc at h
  (repeat' split at h) <;> simp at h <;> omega
theorem ofNat_inj {l m : List Nat} (hl : ∀ x ∈ l, x < 256) (hm : ∀ x ∈ m, x < 256) (h : l.map UInt8.ofNat = m.map UInt8.ofNat) : l = m := by
  have key : ∀ l : List Nat, (∀ x ∈ l, x < 256) → (l.map UInt8.ofNat).map UInt8.toNat = l := by
    intro l hl
    rw [List.map_map]
    have : ∀ x ∈ l, (UInt8.toNat ∘ UInt8.ofNat) x = x := by
      intro x hx
      simp only [Function.comp, UInt8.toNat_ofNat']
      exact Nat.mod_eq_of_lt (hl x hx)
    rw [List.map_congr_left this]
    simp
  rw [← key l hl, h, key m hm]
theorem enc8_inj {c d : Nat} (hc : c ≤ 1114111) (hd : d ≤ 1114111) (h : enc8 c = enc8 d) : c = d := enc_inj hc hd (ofNat_inj (U.enc_lt c hc) (U.enc_lt d hd) h)
theorem enc8_nat {c : Nat} (hc : c ≤ 1114111) : (enc8 c).map UInt8.toNat = U.enc c := by
  unfold enc8
  rw [List.map_map]
  have : ∀ x ∈ U.enc c, (UInt8.toNat ∘ UInt8.ofNat) x = x := by
    intro x hx
    simp only [Function.comp, UInt8.toNat_ofNat']
    exact Nat.mod_eq_of_lt (U.enc_lt c hc x hx)
  rw [List.map_congr_left this]
  simp
theorem enc8_len (c : Nat) : 1 ≤ (enc8 c).length ∧ (enc8 c).length ≤ 4 := by
  unfold enc8
  rw [List.length_map]
  exact U.enc_len c
/-- No Rune is told by what another kind is told by. -/
theorem kt_enc {k c : Nat} (hk : k < 16) (hs : shown (c : Int) = true) : kt k ≠ enc8 c := by
  intro h
  have hs2 := of_decide_eq_true hs
  have hc : c ≤ 1114111 := by omega
  have h2 := congrArg (List.map UInt8.toNat) h
  rw [enc8_nat hc] at h2
  have hsw : ∀ k, k < 16 → ((kt k).map UInt8.toNat = [] ∨ (∃ b, (kt k).map UInt8.toNat = [b] ∧ (b < 32 ∨ b = 127)) ∨ ((kt k).map UInt8.toNat).head? = some 27) := by
    intro k hk
    have : k = 0 ∨ k = 1 ∨ k = 2 ∨ k = 3 ∨ k = 4 ∨ k = 5 ∨ k = 6 ∨ k = 7 ∨ k = 8 ∨ k = 9 ∨ k = 10 ∨ k = 11 ∨ k = 12 ∨ k = 13 ∨ k = 14 ∨ k = 15 := by omega
    rcases this with rfl | rfl | rfl | rfl | rfl | rfl | rfl | rfl | rfl | rfl | rfl | rfl | rfl | rfl | rfl | rfl
    all_goals first
      | exact .inl rfl
      | exact .inr (.inr rfl)
      | exact .inr (.inl ⟨_, rfl, by decide⟩)
  have hl := U.enc_len c
  rcases hsw k hk with e | ⟨b, e, hb⟩ | e
  · rw [← h2, e] at hl
    simp at hl
  · rw [e] at h2
    unfold U.enc at h2
    (repeat' split at h2) <;> simp at h2
    omega
  · rw [h2] at e
    unfold U.enc at e
    (repeat' split at e) <;> simp at e <;> omega
theorem kb_inj {k c k' c' : Nat} (h : chk (k : Int) (c : Int) = 0) (h' : chk (k' : Int) (c' : Int) = 0) (e : kb k c = kb k' c') : k = k' ∧ c = c' := by
  obtain ⟨n, m, e1, e2, hn, h0, h1⟩ := chk_zero h
  obtain rfl : k = n := by omega
  obtain rfl : c = m := by omega
  obtain ⟨n', m', e1', e2', hn', h0', h1'⟩ := chk_zero h'
  obtain rfl : k' = n' := by omega
  obtain rfl : c' = m' := by omega
  unfold kb at e
  by_cases g : k = 0
  · by_cases g' : k' = 0
    · rw [if_pos g, if_pos g'] at e
      exact ⟨by omega, enc8_inj (h0 g).2 (h0' g').2 e⟩
    · rw [if_pos g, if_neg g'] at e
      exact absurd e.symm (kt_enc hn' (h0 g).1)
  · by_cases g' : k' = 0
    · rw [if_neg g, if_pos g'] at e
      exact absurd e (kt_enc hn (h0' g').1)
    · rw [if_neg g, if_neg g'] at e
      exact ⟨kt_inj k hn k' hn' e, by rw [h1 g, h1' g']⟩
theorem kb_len {k c : Nat} (hk : k < 16) : (kb k c).length ≤ 6 := by
  unfold kb
  split
  · have := enc8_len c
    omega
  · exact kt_len k hk
end Go.Proofs.YthffjcacdcipeaaDoor.K
