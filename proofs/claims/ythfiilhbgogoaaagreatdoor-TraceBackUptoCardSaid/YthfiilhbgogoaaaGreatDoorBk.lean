/-
  What is written is read, and what is read is written: of one line. No walk stands in this text.
-/
import Derived.Test.YthfiilhbgogoaaaGreatDoorRefRb
import Derived.Test.YthfiilhbgogoaaaGreatDoorLine
namespace Go.Proofs.YthfiilhbgogoaaaGreatDoor
open Go.RowKit Go.Lib
set_option linter.unusedVariables false

/-- An effect is what was read. -/
structure Mt (x : Ev) (y : Nat × Ef) : Prop where
  k : x.k = (y.1 : Int)
  f : x.f = y.2.f
  m : x.m = y.2.m
  t : x.t = y.2.t
  l : x.l = y.2.d
  n : x.n = (y.2.n : Int)
  ok : x.ok = y.2.ok
/-- What an effect's line tells. -/
def efo (x : Ev) : Nat × Ef := (x.k.toNat, ⟨x.f, x.m, x.t, x.l, x.n.toNat, x.ok⟩)

/-! ### Numbers, bytes, attributes -/
theorem num_sound {s : List UInt8} {n : Nat} (h : num s = some n) : dig 10 n = s := by
  rw [num_rnum] at h
  exact rnum_sound h
theorem num_dig {n : Nat} (h : n < 10 ^ 18) : num (dig 10 n) = some n := by
  rw [num_rnum]
  exact rnum_dig (.inl rfl) (dig_len (by omega) 17 n h)
theorem dig_pow : ∀ n : Nat, n < 10 ^ (dig 10 n).length := by
  intro n
  induction n using Nat.strongRecOn with
  | _ n ih =>
    rcases Nat.lt_or_ge n 10 with h | h
    · rw [dig_lt h]
      simpa using h
    · rw [dig_ge (by omega) h, List.length_append, List.length_singleton, Nat.pow_succ]
      have := ih (n / 10) (by omega)
      omega
theorem num_lt {s : List UInt8} {n : Nat} (h : num s = some n) : n < 10 ^ 18 := by
  have h1 := num_sound h
  rw [num_rnum] at h
  have h2 := rnum_short h
  have h3 := dig_pow n
  rw [h1] at h3
  exact Nat.lt_of_lt_of_le h3 (Nat.pow_le_pow_right (by omega) h2)
theorem hx_hexd : ∀ d, d < 16 → hx (hexd d) = (d : Int) := by decide
theorem hx_only (c : UInt8) (h : ¬ hx c < 0) : c = hexd (hx c).toNat ∧ (hx c).toNat < 16 := by
  have key : ∀ n, n < 256 → (¬ hx (UInt8.ofNat n) < 0 → UInt8.ofNat n = hexd (hx (UInt8.ofNat n)).toNat ∧ (hx (UInt8.ofNat n)).toNat < 16) := by decide +kernel
  have := key c.toNat c.toNat_lt
  rw [UInt8.ofNat_toNat] at this
  exact this h
theorem hexd_no : ∀ d, d < 16 → hexd d ≠ 32 ∧ hexd d ≠ 10 := by decide
theorem hexs_cons (c : UInt8) (l : List UInt8) : hexs (c :: l) = hexd (c.toNat / 16) :: hexd (c.toNat % 16) :: hexs l := rfl
theorem pairs_hexs (l : List UInt8) : pairs (hexs l) = some l := by
  induction l with
  | nil => rfl
  | cons c l ih =>
    have h1 : c.toNat / 16 < 16 := by have := c.toNat_lt; omega
    have h2 : c.toNat % 16 < 16 := by omega
    rw [hexs_cons]
    unfold pairs
    rw [hx_hexd _ h1, hx_hexd _ h2, if_neg (by omega), ih]
    simp only [Option.map_some, Option.some.injEq, List.cons.injEq, and_true]
    have e : ((c.toNat / 16 : Nat) : Int) * 16 + ((c.toNat % 16 : Nat) : Int) = ((c.toNat : Nat) : Int) := by omega
    rw [e]
    simp
theorem pairs_sound : ∀ (s d : List UInt8), pairs s = some d → hexs d = s
  | [], d, h => by
    simp only [pairs, Option.some.injEq] at h
    rw [← h]
    rfl
  | [_], d, h => by simp [pairs] at h
  | a :: b :: r, d, h => by
    unfold pairs at h
    by_cases hn : hx a < 0 ∨ hx b < 0
    · rw [if_pos hn] at h
      cases h
    · rw [if_neg hn] at h
      obtain ⟨ha, ha2⟩ := hx_only a (fun g => hn (.inl g))
      obtain ⟨hb, hb2⟩ := hx_only b (fun g => hn (.inr g))
      cases hp : pairs r with
      | none => rw [hp] at h; cases h
      | some d' =>
        rw [hp] at h
        simp only [Option.map_some, Option.some.injEq] at h
        subst h
        have e1 : (hx a * 16 + hx b).toNat = (hx a).toNat * 16 + (hx b).toNat := by omega
        have e2 : ((hx a * 16 + hx b).toNat.toUInt8).toNat = (hx a).toNat * 16 + (hx b).toNat := by
          rw [e1]
          simp only [Nat.toUInt8, UInt8.toNat_ofNat']
          exact Nat.mod_eq_of_lt (by omega)
        rw [hexs_cons, e2, show ((hx a).toNat * 16 + (hx b).toNat) / 16 = (hx a).toNat by omega, show ((hx a).toNat * 16 + (hx b).toNat) % 16 = (hx b).toNat by omega, ← ha, ← hb, pairs_sound r d' hp]
theorem unhex_hext (l : List UInt8) : unhex (hext l) = some l := by
  cases l with
  | nil => rfl
  | cons c l =>
    have e : hext (c :: l) = hexs (c :: l) := rfl
    have hl := hexs_len (c :: l)
    rw [e]
    unfold unhex
    rw [if_neg (fun g => by rw [g] at hl; simp at hl; omega), if_neg (fun g => by
      rcases g with g | g
      · rw [g] at hl; simp at hl
      · omega), pairs_hexs]
theorem hext_unhex {s d : List UInt8} (h : unhex s = some d) : hext d = s := by
  unfold unhex at h
  by_cases h1 : s = [45]
  · rw [if_pos h1] at h
    cases h
    rw [h1]
    rfl
  · rw [if_neg h1] at h
    by_cases h2 : s = [] ∨ s.length % 2 ≠ 0
    · rw [if_pos h2] at h
      cases h
    · rw [if_neg h2] at h
      have e := pairs_sound s d h
      unfold hext
      rw [if_neg]
      · exact e
      · intro g
        subst g
        exact h2 (.inl e.symm)

/-! ### No blank, and no line's end, in a word -/
theorem dch_ten : ∀ d, d < 16 → dch d ≠ 10 := by decide
theorem dig_ten {b : Nat} (hb : 2 ≤ b) (h16 : b ≤ 16) (n : Nat) : (10 : UInt8) ∉ dig b n := by
  intro h
  obtain ⟨d, hd, e⟩ := dig_mem hb h16 n _ h
  exact dch_ten d (by omega) e.symm
theorem nm_ten : ∀ j, j < 7 → (10 : UInt8) ∉ nm j := by decide
theorem ftext_ten (f : Nat) : (10 : UInt8) ∉ ftext f := by
  unfold ftext
  split
  · decide
  · refine join_mem (by decide) (fun p hp => ?_)
    rcases parts_mem f p hp with ⟨j, hj, rfl, _⟩ | ⟨rfl, _⟩
    · exact nm_ten j hj
    · simp only [List.mem_cons, not_or]
      exact ⟨by decide, dig_ten (by omega) (by omega) _⟩
theorem hext_no (l : List UInt8) : (32 : UInt8) ∉ hext l ∧ (10 : UInt8) ∉ hext l := by
  have key : ∀ l : List UInt8, (32 : UInt8) ∉ hexs l ∧ (10 : UInt8) ∉ hexs l := by
    intro l
    induction l with
    | nil => exact ⟨by simp [hexs], by simp [hexs]⟩
    | cons c l ih =>
      have h1 := hexd_no (c.toNat / 16) (by have := c.toNat_lt; omega)
      have h2 := hexd_no (c.toNat % 16) (by omega)
      rw [hexs_cons]
      simp only [List.mem_cons, not_or]
      exact ⟨⟨fun e => h1.1 e.symm, fun e => h2.1 e.symm, ih.1⟩, ⟨fun e => h1.2 e.symm, fun e => h2.2 e.symm, ih.2⟩⟩
  cases l with
  | nil => exact ⟨by decide, by decide⟩
  | cons c l => exact key (c :: l)
def okt (b : Bool) : List UInt8 := if b then [111, 107] else [102, 97, 105, 108]
theorem okt_no (b : Bool) : (32 : UInt8) ∉ okt b ∧ (10 : UInt8) ∉ okt b := by cases b <;> decide
theorem tk_okt (b : Bool) (x : Ef) : tk .ok x (okt b) = some { x with ok := b } := by cases b <;> rfl
theorem tk_ok_only {x y : Ef} {s : List UInt8} (h : tk .ok x s = some y) : s = okt y.ok ∧ y = { x with ok := y.ok } := by
  unfold tk at h
  simp only at h
  by_cases h1 : s = [111, 107]
  · rw [if_pos h1] at h
    cases h
    exact ⟨h1, rfl⟩
  · rw [if_neg h1] at h
    by_cases h2 : s = [102, 97, 105, 108]
    · rw [if_pos h2] at h
      cases h
      exact ⟨h2, rfl⟩
    · rw [if_neg h2] at h
      cases h
theorem tk_num_only {x y : Ef} {s : List UInt8} (h : tk .num x s = some y) : s = dig 10 y.n ∧ y = { x with n := y.n } ∧ y.n < 10 ^ 18 := by
  unfold tk at h
  simp only at h
  cases e : num s with
  | none => rw [e] at h; cases h
  | some n =>
    rw [e] at h
    cases h
    exact ⟨(num_sound e).symm, rfl, num_lt e⟩
theorem tk_data_only {x y : Ef} {s : List UInt8} (h : tk .data x s = some y) : s = hext y.d ∧ y = { x with d := y.d } := by
  unfold tk at h
  simp only at h
  cases e : unhex s with
  | none => rw [e] at h; cases h
  | some n =>
    rw [e] at h
    cases h
    exact ⟨(hext_unhex e).symm, rfl⟩
theorem tk_attrs_only {x y : Ef} {s : List UInt8} (h : tk .attrs x s = some y) : s = text y.f y.m y.t ∧ y = { x with f := y.f, m := y.m, t := y.t } ∧ Ok y.f y.m y.t := by
  unfold tk at h
  simp only at h
  by_cases h1 : text (rdf s) (rdm s) (rdt s) = s
  · rw [if_pos h1] at h
    cases h
    exact ⟨h1.symm, rfl, rd_ok s⟩
  · rw [if_neg h1] at h
    cases h

/-! ### What is read is written -/
/-- The words of a line, one behind the other. -/
def lineOf (y : Nat × Ef) : List UInt8 := match y.1 with
  | 0 => [103, 111, 116] ++ 32 :: (okt y.2.ok ++ 32 :: text y.2.f y.2.m y.2.t)
  | 1 => [119, 97, 115] ++ 32 :: (okt y.2.ok ++ 32 :: text y.2.f y.2.m y.2.t)
  | 2 => [119, 114, 111, 116, 101] ++ 32 :: (okt y.2.ok ++ 32 :: (hext y.2.d ++ 32 :: dig 10 y.2.n))
  | 3 => [114, 101, 97, 100] ++ 32 :: (okt y.2.ok ++ 32 :: dig 10 y.2.n)
  | 4 => [115, 105, 103, 110, 97, 108] ++ 32 :: dig 10 y.2.n
  | 5 => [101, 110, 100]
  | _ => [104, 105, 115, 116, 111, 114, 121]
/-- It has no more than its line tells. -/
def Lean1 (y : Nat × Ef) : Prop := match y.1 with
  | 0 | 1 => y.2.d = [] ∧ y.2.n = 0
  | 2 => y.2.f = 0 ∧ y.2.m = 0 ∧ y.2.t = 0
  | 3 => y.2.f = 0 ∧ y.2.m = 0 ∧ y.2.t = 0 ∧ y.2.d = []
  | 4 => y.2.f = 0 ∧ y.2.m = 0 ∧ y.2.t = 0 ∧ y.2.d = [] ∧ y.2.ok = false
  | 5 | 6 => y.2.f = 0 ∧ y.2.m = 0 ∧ y.2.t = 0 ∧ y.2.d = [] ∧ y.2.ok = false ∧ y.2.n = 0
  | _ => False
theorem rf_join {s : List UInt8} {L : List (List UInt8)} (h : spl 32 s = L) : s = Lib.join L [32] := by rw [← h, spl_glue]
theorem rd_line {s : List UInt8} {y : Nat × Ef} (h : rdAll s = some y) : s = lineOf y ∧ Lean1 y ∧ Ok y.2.f y.2.m y.2.t ∧ y.2.n < 10 ^ 18 := by
  have hz : Ok 0 0 0 := ⟨by omega, by omega, by omega⟩
  have h0 : (0 : Nat) < 10 ^ 18 := by decide
  rw [rdAll_rf] at h
  unfold rf at h
  by_cases h5 : s = [101, 110, 100]
  · rw [if_pos h5] at h
    cases h
    exact ⟨h5, ⟨rfl, rfl, rfl, rfl, rfl, rfl⟩, hz, h0⟩
  rw [if_neg h5] at h
  by_cases h6 : s = [104, 105, 115, 116, 111, 114, 121]
  · rw [if_pos h6] at h
    cases h
    exact ⟨h6, ⟨rfl, rfl, rfl, rfl, rfl, rfl⟩, hz, h0⟩
  rw [if_neg h6] at h
  obtain ⟨L, hL⟩ : ∃ L, spl 32 s = L := ⟨_, rfl⟩
  have hs := rf_join hL
  rw [hL] at h
  rcases L with _ | ⟨a, _ | ⟨b, _ | ⟨c, _ | ⟨d, _ | ⟨e, _ | ⟨f, r⟩⟩⟩⟩⟩⟩
  · cases h
  · cases h
  · unfold rfL at h
    dsimp only at h
    by_cases g : a = [115, 105, 103, 110, 97, 108]
    · rw [if_pos g] at h
      simp only [tks] at h
      cases e1 : tk .num E0 b with
      | none => rw [e1] at h; cases h
      | some z =>
        rw [e1] at h
        obtain ⟨q1, q2, q0⟩ := tk_num_only e1
        cases h
        refine ⟨?_, ?_, ?_, q0⟩
        · rw [hs, join_cons2, Lib.join_one, g, q1]
          rfl
        · rw [q2]
          exact ⟨rfl, rfl, rfl, rfl, rfl⟩
        · rw [q2]
          exact hz
    · rw [if_neg g] at h
      cases h
  · unfold rfL at h
    dsimp only at h
    by_cases g : a = [114, 101, 97, 100]
    · rw [if_pos g] at h
      simp only [tks] at h
      cases e1 : tk .ok E0 b with
      | none => rw [e1] at h; cases h
      | some z =>
        rw [e1] at h
        simp only at h
        obtain ⟨q1, q2⟩ := tk_ok_only e1
        cases e2 : tk .num z c with
        | none => rw [e2] at h; cases h
        | some u =>
          rw [e2] at h
          obtain ⟨q3, q4, q0⟩ := tk_num_only e2
          cases h
          have hok : z.ok = u.ok := by rw [q4]
          rw [q2] at q4
          refine ⟨?_, ?_, ?_, q0⟩
          · rw [hs, join_cons2, join_cons2, Lib.join_one, g, q1, q3, hok]
            rfl
          · rw [q4]
            exact ⟨rfl, rfl, rfl, rfl⟩
          · rw [q4]
            exact hz
    · rw [if_neg g] at h
      cases h
  · unfold rfL at h
    dsimp only at h
    by_cases g : a = [119, 114, 111, 116, 101]
    · rw [if_pos g] at h
      simp only [tks] at h
      cases e1 : tk .ok E0 b with
      | none => rw [e1] at h; cases h
      | some z =>
        rw [e1] at h
        simp only at h
        obtain ⟨q1, q2⟩ := tk_ok_only e1
        cases e2 : tk .data z c with
        | none => rw [e2] at h; cases h
        | some u =>
          rw [e2] at h
          simp only at h
          obtain ⟨q3, q4⟩ := tk_data_only e2
          cases e3 : tk .num u d with
          | none => rw [e3] at h; cases h
          | some v =>
            rw [e3] at h
            obtain ⟨q5, q6, q0⟩ := tk_num_only e3
            cases h
            have hok : z.ok = v.ok := by rw [q6, q4]
            have hd : u.d = v.d := by rw [q6]
            rw [q2] at q4
            rw [q4] at q6
            refine ⟨?_, ?_, ?_, q0⟩
            · rw [hs, join_cons2, join_cons2, join_cons2, Lib.join_one, g, q1, q3, q5, hok, hd]
              rfl
            · rw [q6]
              exact ⟨rfl, rfl, rfl⟩
            · rw [q6]
              exact hz
    · rw [if_neg g] at h
      cases h
  · unfold rfL at h
    dsimp only at h
    have two : ∀ (k : Nat) (nmx : List UInt8), k = 0 ∧ nmx = [103, 111, 116] ∨ k = 1 ∧ nmx = [119, 97, 115] → a = nmx → ((tks [.ok, .attrs] [b, c ++ 32 :: (d ++ 32 :: e)] E0).map fun x => (k, x)) = some y → s = lineOf y ∧ Lean1 y ∧ Ok y.2.f y.2.m y.2.t ∧ y.2.n < 10 ^ 18 := by
      intro k nmx hk g h
      simp only [tks] at h
      cases e1 : tk .ok E0 b with
      | none => rw [e1] at h; cases h
      | some z =>
        rw [e1] at h
        simp only at h
        obtain ⟨q1, q2⟩ := tk_ok_only e1
        cases e2 : tk .attrs z (c ++ 32 :: (d ++ 32 :: e)) with
        | none => rw [e2] at h; cases h
        | some u =>
          rw [e2] at h
          obtain ⟨q3, q4, q5⟩ := tk_attrs_only e2
          cases h
          rw [q2] at q4
          have q6 : s = nmx ++ 32 :: (okt u.ok ++ 32 :: text u.f u.m u.t) := by
            rw [hs, join_cons2, join_cons2, join_cons2, join_cons2, Lib.join_one, g, q3, q1]
            rw [show z.ok = u.ok by rw [q4]]
          refine ⟨?_, ?_, q5, by rw [q4]; exact h0⟩
          · rw [q6]
            rcases hk with ⟨rfl, rfl⟩ | ⟨rfl, rfl⟩ <;> rfl
          · rcases hk with ⟨rfl, rfl⟩ | ⟨rfl, rfl⟩
            · exact ⟨by rw [q4]; rfl, by rw [q4]; rfl⟩
            · exact ⟨by rw [q4]; rfl, by rw [q4]; rfl⟩
    by_cases g : a = [103, 111, 116]
    · rw [if_pos g] at h
      exact two 0 _ (.inl ⟨rfl, rfl⟩) g h
    · rw [if_neg g] at h
      by_cases g2 : a = [119, 97, 115]
      · rw [if_pos g2] at h
        exact two 1 _ (.inr ⟨rfl, rfl⟩) g2 h
      · rw [if_neg g2] at h
        cases h
  · cases h
end Go.Proofs.YthfiilhbgogoaaaGreatDoor
