/-
  Plain facts for attributes' texts: digits to a base, the number of digits, parts between a byte, the text of flags; and that a text is one's alone.
-/
import Derived.Lib.ItoaNum
import Derived.Lib.Join
namespace Go.Proofs.YtdaenaoagejgeaaGreatDoor
set_option linter.unusedVariables false

/-! ### Digits -/
def dch (d : Nat) : UInt8 := UInt8.ofNat (if d < 10 then 48 + d else 87 + d)
def dig (b n : Nat) : List UInt8 := if h : n < b ∨ b < 2 then [dch n] else dig b (n / b) ++ [dch (n % b)]
termination_by n
decreasing_by exact Nat.div_lt_self (by omega) (by omega)
theorem dig_lt {b n : Nat} (h : n < b) : dig b n = [dch n] := by
  rw [dig, dif_pos (.inl h)]
theorem dig_ge {b n : Nat} (hb : 2 ≤ b) (h : b ≤ n) : dig b n = dig b (n / b) ++ [dch (n % b)] := by
  rw [dig, dif_neg (by omega)]
theorem dig_ne (b n : Nat) : dig b n ≠ [] := by
  rw [dig]
  split <;> simp
/-- What a byte is as a digit. -/
def dv (c : UInt8) : Option Nat :=
  if 48 ≤ c.toNat ∧ c.toNat ≤ 57 then some (c.toNat - 48) else if 97 ≤ (c ||| 32).toNat ∧ (c ||| 32).toNat ≤ 122 then some ((c ||| 32).toNat - 87) else none
theorem dv_dch : ∀ d, d < 16 → dv (dch d) = some d := by decide
theorem dch_mem : ∀ d, d < 16 → dch d ≠ 32 ∧ dch d ≠ 43 ∧ dch d ≠ 120 ∧ (0 < d → dch d ≠ 48) := by decide
theorem dig_mem {b : Nat} (hb : 2 ≤ b) (h16 : b ≤ 16) : ∀ (n : Nat) (c : UInt8), c ∈ dig b n → ∃ d, d < b ∧ c = dch d := by
  intro n
  induction n using Nat.strongRecOn with
  | _ n ih =>
    intro c hc
    rcases Nat.lt_or_ge n b with h | h
    · rw [dig_lt h] at hc
      exact ⟨n, h, by simpa using hc⟩
    · rw [dig_ge hb h, List.mem_append] at hc
      rcases hc with hc | hc
      · exact ih (n / b) (Nat.div_lt_self (by omega) (by omega)) c hc
      · exact ⟨n % b, Nat.mod_lt _ (by omega), by simpa using hc⟩
theorem dig_head {b : Nat} (hb : 2 ≤ b) (h16 : b ≤ 16) : ∀ n, 0 < n → ∃ c r, dig b n = c :: r ∧ c ≠ 48 := by
  intro n
  induction n using Nat.strongRecOn with
  | _ n ih =>
    intro hn
    rcases Nat.lt_or_ge n b with h | h
    · rw [dig_lt h]
      exact ⟨dch n, [], rfl, (dch_mem n (by omega)).2.2.2 hn⟩
    · rw [dig_ge hb h]
      obtain ⟨c, r, e, hc⟩ := ih (n / b) (Nat.div_lt_self (by omega) (by omega)) (Nat.div_pos h (by omega))
      exact ⟨c, r ++ [dch (n % b)], by rw [e]; rfl, hc⟩
theorem dig_len {b : Nat} (hb : 2 ≤ b) : ∀ k n, n < b ^ (k + 1) → (dig b n).length ≤ k + 1 := by
  intro k
  induction k with
  | zero =>
    intro n h
    rw [dig_lt (by simpa using h)]
    simp
  | succ k ih =>
    intro n h
    rcases Nat.lt_or_ge n b with g | g
    · rw [dig_lt g]
      simp
    · rw [dig_ge hb g, List.length_append]
      have := ih (n / b) (by rw [Nat.div_lt_iff_lt_mul (by omega)]; rw [Nat.pow_succ] at h; exact h)
      simp
      omega
theorem dch_ofNat {d : Nat} (h : d < 10) : dch d = UInt8.ofNat (48 + d) := by
  unfold dch
  rw [if_pos h]
theorem dec_dig : ∀ n, Lib.decDigits n = dig 10 n := by
  intro n
  induction n using Nat.strongRecOn with
  | _ n ih =>
    rw [Lib.decDigits]
    rcases Nat.lt_or_ge n 10 with h | h
    · rw [dif_pos h, dig_lt h, dch_ofNat h]
    · rw [dif_neg (by omega), dig_ge (by omega) h, ih _ (by omega), dch_ofNat (Nat.mod_lt _ (by omega))]
theorem itoa_dig (n : Nat) : Lib.itoa (n : Int) = dig 10 n := by
  unfold Lib.itoa
  rw [if_neg (by omega), Int.toNat_natCast, dec_dig]

/-! ### Numbers of digits -/
/-- The number of digits to a base, at most M, from acc on. -/
def par (b M acc : Nat) : List UInt8 → Option Nat
  | [] => some acc
  | c :: r => match dv c with
    | none => none
    | some d => if b ≤ d then none else if M < acc * b + d then none else par b M (acc * b + d) r
theorem par_append (b M : Nat) : ∀ (l m : List UInt8) (acc : Nat), par b M acc (l ++ m) = (par b M acc l).bind fun a => par b M a m
  | [], m, acc => rfl
  | c :: r, m, acc => by
    simp only [List.cons_append, par]
    split
    · rfl
    · split
      · rfl
      · split
        · rfl
        · exact par_append b M r m _
theorem par_dig {b M : Nat} (hb : 2 ≤ b) (h16 : b ≤ 16) : ∀ n, n ≤ M → par b M 0 (dig b n) = some n := by
  intro n
  induction n using Nat.strongRecOn with
  | _ n ih =>
    intro hn
    have one : ∀ a d, d < b → a * b + d ≤ M → par b M a [dch d] = some (a * b + d) := by
      intro a d hd hm
      simp only [par]
      rw [dv_dch d (by omega)]
      simp only
      rw [if_neg (by omega), if_neg (by omega)]
    rcases Nat.lt_or_ge n b with h | h
    · rw [dig_lt h, one 0 n h (by omega)]
      simp
    · have e := Nat.div_add_mod n b
      have e2 : n / b * b + n % b = n := by rw [Nat.mul_comm]; exact e
      rw [dig_ge hb h, par_append, ih (n / b) (Nat.div_lt_self (by omega) (by omega)) (Nat.le_trans (Nat.div_le_self _ _) hn)]
      show par b M (n / b) [dch (n % b)] = some n
      rw [one (n / b) (n % b) (Nat.mod_lt _ (by omega)) (by omega), e2]
theorem par_le {b M : Nat} : ∀ (l : List UInt8) (acc v : Nat), acc ≤ M → par b M acc l = some v → v ≤ M
  | [], acc, v, h, e => by
    simp only [par, Option.some.injEq] at e
    omega
  | c :: r, acc, v, h, e => by
    simp only [par] at e
    split at e
    · cases e
    · split at e
      · cases e
      · split at e
        · cases e
        · exact par_le r _ v (by omega) e
/-- What is gathered of a text. -/
def gat (b M : Nat) (l : List UInt8) : Nat := if l = [] then 0 else (par b M 0 l).getD 0
theorem gat_le (b M : Nat) (l : List UInt8) : gat b M l ≤ M := by
  unfold gat
  split
  · omega
  · cases e : par b M 0 l with
    | none => simp
    | some v => exact par_le l 0 v (by omega) e
theorem gat_dig {b M : Nat} (hb : 2 ≤ b) (h16 : b ≤ 16) {n : Nat} (hn : n ≤ M) : gat b M (dig b n) = n := by
  unfold gat
  rw [if_neg (dig_ne b n), par_dig hb h16 n hn]
  rfl

/-! ### Parts between a byte -/
def spl (c : UInt8) : List UInt8 → List (List UInt8)
  | [] => [[]]
  | x :: l => if x = c then [] :: spl c l else match spl c l with
    | h :: t => (x :: h) :: t
    | [] => [[x]]
theorem spl_ne (c : UInt8) : ∀ l, spl c l ≠ []
  | [] => by simp [spl]
  | x :: l => by
    unfold spl
    split
    · simp
    · split <;> simp
theorem spl_none {c : UInt8} : ∀ {l : List UInt8}, c ∉ l → spl c l = [l]
  | [], _ => rfl
  | x :: l, h => by
    rw [List.mem_cons, not_or] at h
    rw [spl, if_neg (fun e => h.1 e.symm), spl_none h.2]
theorem spl_app {c : UInt8} (m : List UInt8) : ∀ {l : List UInt8}, c ∉ l → spl c (l ++ c :: m) = l :: spl c m
  | [], _ => by simp [spl]
  | x :: l, h => by
    rw [List.mem_cons, not_or] at h
    rw [List.cons_append, spl, if_neg (fun e => h.1 e.symm), spl_app m h.2]
theorem join_cons2 (c : UInt8) (x y : List UInt8) (r : List (List UInt8)) : Lib.join (x :: y :: r) [c] = x ++ c :: Lib.join (y :: r) [c] := by
  simp [Lib.join, List.intercalate]
theorem spl_join {c : UInt8} : ∀ {r : List (List UInt8)}, r ≠ [] → (∀ p ∈ r, c ∉ p) → spl c (Lib.join r [c]) = r
  | [], h, _ => absurd rfl h
  | [x], _, h => by
    rw [Lib.join_one]
    exact spl_none (h x (by simp))
  | x :: y :: r, _, h => by
    rw [join_cons2, spl_app _ (h x (by simp)), spl_join (by simp) (fun p hp => h p (by simp at hp ⊢; exact .inr hp))]
theorem join_mem {c d : UInt8} (hd : d ≠ c) : ∀ {r : List (List UInt8)}, (∀ p ∈ r, d ∉ p) → d ∉ Lib.join r [c]
  | [], _ => by simp [Lib.join_nil]
  | [x], h => by
    rw [Lib.join_one]
    exact h x (by simp)
  | x :: y :: r, h => by
    rw [join_cons2, List.mem_append, List.mem_cons, not_or, not_or]
    exact ⟨h x (by simp), hd, join_mem hd (fun p hp => h p (by simp at hp ⊢; exact .inr hp))⟩

/-! ### The flags -/
def nms : List (List UInt8) := [[101, 99, 104, 111], [99, 97, 110, 111, 110], [115, 105, 103, 110, 97, 108, 115], [101, 120, 116, 101, 110, 100], [102, 108, 111, 119], [99, 114, 116, 111, 110, 108], [112, 111, 115, 116]]
def nm (i : Nat) : List UInt8 := nms[i]?.getD []
/-- The names of those of the first i flags that are set. -/
def nmd (f : Nat) : Nat → List (List UInt8)
  | 0 => []
  | i + 1 => nmd f i ++ (if f.testBit i then [nm i] else [])
/-- What is left of flags without the first i. -/
def hi (f i : Nat) : Nat := f / 2 ^ i * 2 ^ i
def parts (f : Nat) : List (List UInt8) := nmd f 7 ++ (if hi f 7 = 0 then [] else [120 :: dig 16 (hi f 7)])
def ftext (f : Nat) : List UInt8 := if parts f = [] then [45] else Lib.join (parts f) [43]
def text (f m t : Nat) : List UInt8 := ftext f ++ 32 :: (dig 10 m ++ 32 :: dig 10 t)

theorem nmd_mem (f : Nat) : ∀ i, i ≤ 7 → ∀ p ∈ nmd f i, ∃ j, j < i ∧ p = nm j ∧ f.testBit j = true
  | 0, _, p, h => by simp [nmd] at h
  | i + 1, hi, p, h => by
    simp only [nmd, List.mem_append] at h
    rcases h with h | h
    · obtain ⟨j, h1, h2⟩ := nmd_mem f i (by omega) p h
      exact ⟨j, by omega, h2⟩
    · split at h
      · exact ⟨i, by omega, by simpa using h, by assumption⟩
      · cases h
theorem nm_mem : ∀ j, j < 7 → 32 ∉ nm j ∧ 43 ∉ nm j ∧ nm j ≠ [] ∧ nm j ≠ [45] ∧ (nm j).head? ≠ some 120 := by decide
theorem parts_mem (f : Nat) : ∀ p ∈ parts f, (∃ j, j < 7 ∧ p = nm j ∧ f.testBit j = true) ∨ (p = 120 :: dig 16 (hi f 7) ∧ hi f 7 ≠ 0) := by
  intro p hp
  rw [parts, List.mem_append] at hp
  rcases hp with h | h
  · exact .inl (nmd_mem f 7 (by omega) p h)
  · split at h
    · cases h
    · exact .inr ⟨by simpa using h, by assumption⟩
theorem dig_no {b : Nat} (hb : 2 ≤ b) (h16 : b ≤ 16) (n : Nat) : 32 ∉ dig b n ∧ 43 ∉ dig b n := by
  constructor <;> intro h <;> obtain ⟨d, hd, e⟩ := dig_mem hb h16 n _ h <;> have := dch_mem d (by omega) <;> rw [← e] at this
  · exact this.1 rfl
  · exact this.2.1 rfl
theorem parts_no (f : Nat) : ∀ p ∈ parts f, 32 ∉ p ∧ 43 ∉ p := by
  intro p hp
  rcases parts_mem f p hp with ⟨j, hj, rfl, _⟩ | ⟨rfl, _⟩
  · exact ⟨(nm_mem j hj).1, (nm_mem j hj).2.1⟩
  · have := dig_no (b := 16) (by omega) (by omega) (hi f 7)
    simp only [List.mem_cons, not_or]
    exact ⟨⟨by decide, this.1⟩, ⟨by decide, this.2⟩⟩
theorem ftext_no (f : Nat) : 32 ∉ ftext f := by
  unfold ftext
  split
  · decide
  · exact join_mem (by decide) (fun p hp => (parts_no f p hp).1)
theorem ftext_spl (f : Nat) : spl 43 (ftext f) = if parts f = [] then [[45]] else parts f := by
  unfold ftext
  split
  · decide
  · exact spl_join (by assumption) (fun p hp => (parts_no f p hp).2)
theorem text_spl (f m t : Nat) : spl 32 (text f m t) = [ftext f, dig 10 m, dig 10 t] := by
  unfold text
  rw [spl_app _ (ftext_no f), spl_app _ (dig_no (by omega) (by omega) m).1, spl_none (dig_no (by omega) (by omega) t).1]

/-! ### What the parts of flags come to -/
theorem hi_zero (f : Nat) : hi f 0 = f := by simp [hi]
theorem hi_bit (f i : Nat) : hi f i = hi f (i + 1) + (if f.testBit i then 2 ^ i else 0) := by
  unfold hi
  have h1 : f / 2 ^ (i + 1) = f / 2 ^ i / 2 := by rw [Nat.pow_succ, Nat.div_div_eq_div_mul]
  have h2 : f.testBit i = decide (f / 2 ^ i % 2 = 1) := Nat.testBit_eq_decide_div_mod_eq
  rw [h1, h2, Nat.pow_succ]
  generalize f / 2 ^ i = q
  generalize 2 ^ i = k
  have e := Nat.div_add_mod q 2
  have : q / 2 * (k * 2) = (2 * (q / 2)) * k := by rw [Nat.mul_comm k 2, ← Nat.mul_assoc, Nat.mul_comm (q / 2) 2]
  rw [this]
  by_cases h : q % 2 = 1
  · simp only [h, decide_true, if_true]
    rw [← Nat.succ_mul]
    congr 1
    omega
  · have h0 : q % 2 = 0 := by omega
    simp [h0]
    congr 1
    omega
/-- A part of flags. -/
def gpn (p : List UInt8) : Nat → Option Nat
  | 0 => none
  | i + 1 => match gpn p i with
    | some v => some v
    | none => if p = nm i then some (2 ^ i) else none
def gp (p : List UInt8) : Nat := match gpn p 7 with
  | some v => v
  | none => match p with
    | [] => 0
    | c :: r => if c = 120 then gat 16 4294967295 r else 0
theorem gpn_nm : ∀ j, j < 7 → gpn (nm j) 7 = some (2 ^ j) := by decide
theorem gp_nm {j : Nat} (h : j < 7) : gp (nm j) = 2 ^ j := by
  unfold gp
  rw [gpn_nm j h]
theorem gpn_x (r : List UInt8) : ∀ i, i ≤ 7 → gpn (120 :: r) i = none
  | 0, _ => rfl
  | i + 1, h => by
    have := (nm_mem i (by omega)).2.2.2.2
    unfold gpn
    rw [gpn_x r i (by omega)]
    simp only
    rw [if_neg]
    intro e
    rw [← e] at this
    exact this rfl
theorem gp_x (r : List UInt8) : gp (120 :: r) = gat 16 4294967295 r := by
  unfold gp
  rw [gpn_x r 7 (by omega)]
  simp
theorem gp_dash : gp [45] = 0 := by decide
def gfl (l : List (List UInt8)) (acc : Nat) : Nat := l.foldl (fun a p => a ||| gp p) acc
theorem or_add {a b i : Nat} (ha : a < 2 ^ i) : a ||| b * 2 ^ i = a + b * 2 ^ i := by
  have := Nat.two_pow_add_eq_or_of_lt ha b
  rw [Nat.or_comm, Nat.mul_comm, ← this, Nat.add_comm]
theorem gfl_nmd (f : Nat) : ∀ i, i ≤ 7 → gfl (nmd f i) 0 = f % 2 ^ i
  | 0, _ => by simp [gfl, nmd, Nat.mod_one]
  | i + 1, h => by
    have ih := gfl_nmd f i (by omega)
    unfold gfl at ih ⊢
    rw [nmd, List.foldl_append, ih]
    have hlt : f % 2 ^ i < 2 ^ i := Nat.mod_lt _ (Nat.two_pow_pos i)
    have h2 : f.testBit i = decide (f / 2 ^ i % 2 = 1) := Nat.testBit_eq_decide_div_mod_eq
    have h3 : f % 2 ^ (i + 1) = f % 2 ^ i + 2 ^ i * (f / 2 ^ i % 2) := Nat.mod_pow_succ
    rw [h3, h2]
    by_cases hb : f / 2 ^ i % 2 = 1
    · simp only [hb, decide_true, if_true, List.foldl_cons, List.foldl_nil, gp_nm (show i < 7 by omega), Nat.mul_one]
      have := or_add (b := 1) hlt
      simpa using this
    · have h0 : f / 2 ^ i % 2 = 0 := by omega
      simp [h0]
theorem gfl_parts {f : Nat} (hf : f < 4294967296) : gfl (parts f) 0 = f := by
  have h7 := gfl_nmd f 7 (by omega)
  unfold gfl at h7 ⊢
  rw [parts, List.foldl_append, h7]
  have hlt : f % 2 ^ 7 < 2 ^ 7 := Nat.mod_lt _ (by decide)
  have e := Nat.div_add_mod f (2 ^ 7)
  have hh : hi f 7 + f % 2 ^ 7 = f := by unfold hi; rw [Nat.mul_comm]; exact e
  split
  · rename_i h0
    simp only [List.foldl_nil]
    omega
  · simp only [List.foldl_cons, List.foldl_nil, gp_x]
    rw [gat_dig (by omega) (by omega) (by omega)]
    have := or_add (b := f / 2 ^ 7) hlt
    unfold hi at hh ⊢
    rw [this]
    omega
/-- What is gathered of the text of flags. -/
def gf (s : List UInt8) : Nat := gfl (spl 43 s) 0
theorem gf_ftext {f : Nat} (hf : f < 4294967296) : gf (ftext f) = f := by
  unfold gf
  rw [ftext_spl]
  split
  · rename_i h
    have := gfl_parts hf
    rw [h] at this
    simp only [gfl, List.foldl_nil] at this
    simp [gfl, gp_dash, ← this]
  · exact gfl_parts hf
theorem gp_le (p : List UInt8) : gp p < 4294967296 := by
  unfold gp
  split
  · rename_i v h
    have : ∀ i, i ≤ 7 → ∀ v, gpn p i = some v → v < 4294967296 := by
      intro i
      induction i with
      | zero => intro _ v h; simp [gpn] at h
      | succ i ih =>
        intro hi v h
        unfold gpn at h
        split at h
        · rename_i v' h'
          cases h
          exact ih (by omega) v h'
        · split at h
          · cases h
            have : 2 ^ i < 2 ^ 32 := Nat.pow_lt_pow_right (by omega) (by omega)
            exact this
          · cases h
    exact this 7 (by omega) v h
  · split
    · omega
    · split
      · have := gat_le 16 4294967295 (by assumption)
        omega
      · omega
theorem gfl_le : ∀ (l : List (List UInt8)) (acc : Nat), acc < 4294967296 → gfl l acc < 4294967296
  | [], acc, h => h
  | p :: l, acc, h => gfl_le l (acc ||| gp p) (Nat.or_lt_two_pow (n := 32) h (gp_le p))
theorem gf_le (s : List UInt8) : gf s < 4294967296 := gfl_le _ 0 (by omega)

/-! ### Texts are one's alone -/
structure Ok (f m t : Nat) : Prop where
  f : f < 4294967296
  m : m < 256
  t : t < 256
theorem text_inj {f m t f' m' t' : Nat} (h : Ok f m t) (h' : Ok f' m' t') (e : text f m t = text f' m' t') : f = f' ∧ m = m' ∧ t = t' := by
  have e2 := congrArg (spl 32) e
  rw [text_spl, text_spl] at e2
  simp only [List.cons.injEq, and_true] at e2
  obtain ⟨e0, e1, e2⟩ := e2
  refine ⟨?_, ?_, ?_⟩
  · rw [← gf_ftext h.f, e0, gf_ftext h'.f]
  · rw [← gat_dig (b := 10) (M := 255) (by omega) (by omega) (n := m) (by have := h.m; omega), e1, gat_dig (by omega) (by omega) (by have := h'.m; omega)]
  · rw [← gat_dig (b := 10) (M := 255) (by omega) (by omega) (n := t) (by have := h.t; omega), e2, gat_dig (by omega) (by omega) (by have := h'.t; omega)]

end Go.Proofs.YtdaenaoagejgeaaGreatDoor
