/-
  The characters of a list of bytes, what isn't right replaced; how the library's decoder goes through them. No walk stands in this text.
-/
import Derived.Test.YtcailmgincafcaaDoorUStr
import Derived.Test.YtcailmgincafcaaDoorUFact
import Derived.Test.YtcailmgincafcaaDoorURef2
namespace Go.Proofs.YtcailmgincafcaaDoor.U
open Go.RowKit Go.Lib
set_option linter.unusedVariables false

theorem Tabs.keep {w w' : World} {B : Nat} (h : Tabs w) (hb : Below B w w') (hB : 2 ≤ B) : Tabs w' := by
  refine ⟨fun c hc => ?_, fun i hi => ⟨?_, ?_⟩⟩
  · rw [hb.cell (p := ⟨0, c, none⟩) (show 0 < B by omega)]
    exact h.1 c hc
  · rw [hb.cell (p := ⟨1, 2 * i, none⟩) (show 1 < B by omega)]
    exact (h.2 i hi).1
  · rw [hb.cell (p := ⟨1, 2 * i + 1, none⟩) (show 1 < B by omega)]
    exact (h.2 i hi).2
theorem Tabs.size {w : World} (h : Tabs w) : 2 ≤ w.heap.size := by
  have h0 := block_lt_of_cell (h.1 0 (by omega))
  have h1 := block_lt_of_cell (h.2 0 (by omega)).1
  simp at h0 h1
  omega
/-- The character that stands for the first bytes. -/
def chr (l : List Nat) : Nat := if (nx l).2.2 = 0 then (nx l).1 else 65533
def charsF : Nat → List Nat → List Nat
  | 0, _ => []
  | k + 1, l => if l = [] then [] else chr l :: charsF k (l.drop (nx l).2.1)
/-- The characters of a list of bytes. -/
def chars (l : List Nat) : List Nat := charsF l.length l
/-- The bytes with what isn't right replaced. -/
def textL (l : List Nat) : List Nat := (chars l).flatMap enc

theorem drop_lt {l : List Nat} (hb : ∀ x ∈ l, x < 256) (k : Nat) : ∀ x ∈ l.drop k, x < 256 := fun x hx => hb x (List.mem_of_mem_drop hx)

theorem charsF_more (l : List Nat) (hb : ∀ x ∈ l, x < 256) : ∀ k, l.length ≤ k → charsF k l = charsF l.length l := by
  have key : ∀ n (l : List Nat), l.length ≤ n → (∀ x ∈ l, x < 256) → ∀ k, l.length ≤ k → charsF k l = charsF l.length l := by
    intro n
    induction n with
    | zero =>
      intro l hl hb k hk
      have : l = [] := List.length_eq_zero_iff.1 (by omega)
      subst this
      cases k <;> simp [charsF]
    | succ n ih =>
      intro l hl hb k hk
      by_cases e : l = []
      · subst e
        cases k <;> simp [charsF]
      · have h0 : 0 < l.length := List.length_pos_iff.2 e
        have hp := nx_pos e hb
        obtain ⟨m, hm⟩ : ∃ m, l.length = m + 1 := ⟨l.length - 1, by omega⟩
        obtain ⟨j, hj⟩ : ∃ j, k = j + 1 := ⟨k - 1, by omega⟩
        rw [hm, hj]
        simp only [charsF, if_neg e]
        congr 1
        have h1 : (l.drop (nx l).2.1).length ≤ n := by simp; omega
        rw [ih _ h1 (drop_lt hb _) j (by simp; omega), ih _ h1 (drop_lt hb _) m (by simp; omega)]
  exact key l.length l (Nat.le_refl _) hb

theorem chars_nil : chars [] = [] := rfl
theorem chars_cons {l : List Nat} (hl : l ≠ []) (hb : ∀ x ∈ l, x < 256) : chars l = chr l :: chars (l.drop (nx l).2.1) := by
  have h0 : 0 < l.length := List.length_pos_iff.2 hl
  have hp := nx_pos hl hb
  obtain ⟨m, hm⟩ : ∃ m, l.length = m + 1 := ⟨l.length - 1, by omega⟩
  unfold chars
  rw [hm]
  simp only [charsF, if_neg hl]
  congr 1
  exact charsF_more _ (drop_lt hb _) m (by simp; omega)

theorem chars_len (l : List Nat) (hb : ∀ x ∈ l, x < 256) : (chars l).length ≤ l.length := by
  have key : ∀ n (l : List Nat), l.length ≤ n → (∀ x ∈ l, x < 256) → (chars l).length ≤ l.length := by
    intro n
    induction n with
    | zero =>
      intro l hl hb
      have : l = [] := List.length_eq_zero_iff.1 (by omega)
      subst this
      simp [chars_nil]
    | succ n ih =>
      intro l hl hb
      by_cases e : l = []
      · subst e
        simp [chars_nil]
      · have hp := nx_pos e hb
        rw [chars_cons e hb, List.length_cons]
        have := ih (l.drop (nx l).2.1) (by simp; omega) (drop_lt hb _)
        simp at this
        omega
  exact key l.length l (Nat.le_refl _) hb

/-- A first character is one. -/
theorem nextN_isCh (n b0 b1 b2 b3 : Nat) (hb : b0 < 256) (h1 : b1 < 256) (h2 : b2 < 256) (h3 : b3 < 256) (h : (nextN n b0 b1 b2 b3).2.2 = 0) : isCh (nextN n b0 b1 b2 b3).1 = true := by
  obtain ⟨r, hr⟩ : ∃ r, r = nextN n b0 b1 b2 b3 := ⟨_, rfl⟩
  rw [← hr] at h ⊢
  unfold nextN at hr
  by_cases n0 : n = 0
  · rw [if_pos n0] at hr; subst hr; simp at h
  rw [if_neg n0] at hr
  have hs4 := szB_le b0
  rcases (by omega : szB b0 = 0 ∨ szB b0 = 1 ∨ szB b0 = 2 ∨ szB b0 = 3 ∨ szB b0 = 4) with s | s | s | s | s
  · rw [if_pos s] at hr; subst hr; simp at h
  · rw [s, if_neg (by omega), if_pos rfl] at hr
    subst hr
    have : b0 < 128 := by
      unfold szB at s
      repeat' split at s
      all_goals omega
    simp [isCh]
    omega
  all_goals
    rw [s, if_neg (by omega), if_neg (by omega)] at hr
    by_cases n1 : n = 1
    · rw [if_pos n1] at hr; subst hr; simp at h
    rw [if_neg n1] at hr
    by_cases p1 : b1 < loB b0 ∨ hiB b0 < b1
    · rw [if_pos p1] at hr; subst hr; simp at h
    rw [if_neg p1] at hr
    have hb0 : (szB b0 = 2 → 194 ≤ b0 ∧ b0 < 224) ∧ (szB b0 = 3 → 224 ≤ b0 ∧ b0 < 240) ∧ (szB b0 = 4 → 240 ≤ b0 ∧ b0 < 245) := by
      unfold szB
      (repeat' split) <;> omega
    have hlh := lo_hi b0
    have hlo : (b0 = 224 → loB b0 = 160) ∧ (b0 = 240 → loB b0 = 144) ∧ (b0 = 237 → hiB b0 = 159) ∧ (b0 = 244 → hiB b0 = 143) := by
      refine ⟨fun e => by rw [e]; rfl, fun e => by rw [e]; rfl, fun e => by rw [e]; rfl, fun e => by rw [e]; rfl⟩
  · rw [if_pos rfl] at hr
    have := hb0.1 s
    subst hr
    simp [isCh]
    omega
  · rw [if_neg (by omega)] at hr
    by_cases n2 : n = 2
    · rw [if_pos n2] at hr; subst hr; simp at h
    rw [if_neg n2] at hr
    by_cases p2 : b2 < 128 ∨ 191 < b2
    · rw [if_pos p2] at hr; subst hr; simp at h
    rw [if_neg p2, if_pos rfl] at hr
    have := hb0.2.1 s
    subst hr
    simp [isCh]
    omega
  · rw [if_neg (by omega)] at hr
    by_cases n2 : n = 2
    · rw [if_pos n2] at hr; subst hr; simp at h
    rw [if_neg n2] at hr
    by_cases p2 : b2 < 128 ∨ 191 < b2
    · rw [if_pos p2] at hr; subst hr; simp at h
    rw [if_neg p2, if_neg (by omega)] at hr
    by_cases n3 : n = 3
    · rw [if_pos n3] at hr; subst hr; simp at h
    rw [if_neg n3] at hr
    by_cases p3 : b3 < 128 ∨ 191 < b3
    · rw [if_pos p3] at hr; subst hr; simp at h
    rw [if_neg p3] at hr
    have := hb0.2.2 s
    subst hr
    simp [isCh]
    omega

theorem chr_isCh {l : List Nat} (hb : ∀ x ∈ l, x < 256) : isCh (chr l) = true := by
  unfold chr
  by_cases h : (nx l).2.2 = 0
  · rw [if_pos h]
    exact nextN_isCh _ _ _ _ _ (getD_lt hb 0) (getD_lt hb 1) (getD_lt hb 2) (getD_lt hb 3) h
  · rw [if_neg h]
    decide

/-- What is passed over behind the first byte of what isn't right are bytes that begin nothing. -/
theorem nx_cont {l : List Nat} (h : (nx l).2.2 ≠ 0) (j : Nat) (hj : 1 ≤ j) (hj2 : j < (nx l).2.1) : 128 ≤ l.getD j 0 ∧ l.getD j 0 ≤ 191 := by
  have key : ∀ n b0 b1 b2 b3 (r : Nat × Nat × Nat), r = nextN n b0 b1 b2 b3 → r.2.2 ≠ 0 → (2 ≤ r.2.1 → 128 ≤ b1 ∧ b1 ≤ 191) ∧ (3 ≤ r.2.1 → 128 ≤ b2 ∧ b2 ≤ 191) ∧ r.2.1 ≤ 3 := by
    intro n b0 b1 b2 b3 r hr h7
    have hlh := lo_hi b0
    unfold nextN at hr
    generalize szB b0 = s at hr
    generalize loB b0 = lo at hr hlh
    generalize hiB b0 = hi at hr hlh
    by_cases hn : n = 0
    · rw [if_pos hn] at hr
      subst hr
      refine ⟨?_, ?_, ?_⟩ <;> simp
    · rw [if_neg hn] at hr
      repeat' split at hr
      all_goals
        subst hr
        simp only [ne_eq, not_true_eq_false] at h7
      all_goals refine ⟨?_, ?_, ?_⟩
      all_goals simp only
      all_goals omega
  obtain ⟨k1, k2, k3⟩ := key _ _ _ _ _ _ rfl h
  rcases (by unfold nx at hj2; omega : j = 1 ∨ j = 2) with rfl | rfl
  · exact k1 (by unfold nx at hj2; omega)
  · exact k2 (by unfold nx at hj2; omega)

theorem dec_w (n b0 b1 b2 b3 : Nat) (hn : 1 ≤ n) (h1 : b1 < 256) (h2 : b2 < 256) (h3 : b3 < 256) : 1 ≤ (decodeN n b0 b1 b2 b3).2 := by
  rw [dec_eq n b0 b1 b2 b3 hn h1 h2 h3]
  unfold slowN
  generalize szB b0 = s
  generalize loB b0 = lo
  generalize hiB b0 = hi
  (repeat' split) <;> simp

theorem dec_cont (n b0 b1 b2 b3 : Nat) (hn : 1 ≤ n) (h1 : b1 < 256) (h2 : b2 < 256) (h3 : b3 < 256) (h : 128 ≤ b0 ∧ b0 ≤ 191) : decodeN n b0 b1 b2 b3 = (65533, 1) := by
  have s : szB b0 = 0 := by
    unfold szB
    (repeat' split) <;> omega
  rw [dec_eq n b0 b1 b2 b3 hn h1 h2 h3, if_pos s]

/-- The decoder at a list of bytes. -/
def decL (l : List Nat) : Nat × Nat := decodeN l.length (l.getD 0 0) (l.getD 1 0) (l.getD 2 0) (l.getD 3 0)

theorem decL_chr {l : List Nat} (hl : l ≠ []) (hb : ∀ x ∈ l, x < 256) : (decL l).1 = chr l ∧ ((nx l).2.2 = 0 → (decL l).2 = (nx l).2.1) ∧ ((nx l).2.2 ≠ 0 → (decL l).2 = 1) := by
  have h0 : 1 ≤ l.length := List.length_pos_iff.2 hl
  have g1 := getD_lt hb 1
  have g2 := getD_lt hb 2
  have g3 := getD_lt hb 3
  have hw := dec_w l.length (l.getD 0 0) _ _ _ h0 g1 g2 g3
  by_cases hd : (decodeN l.length (l.getD 0 0) (l.getD 1 0) (l.getD 2 0) (l.getD 3 0)).1 ≠ 65533 ∨ 1 < (decodeN l.length (l.getD 0 0) (l.getD 1 0) (l.getD 2 0) (l.getD 3 0)).2
  · have e : nx l = ((decL l).1, (decL l).2, 0) := dec_yes _ _ _ _ _ h0 g1 g2 g3 hd
    unfold chr
    rw [e]
    simp
  · have e := dec_no _ _ _ _ _ h0 (getD_lt hb 0) g1 g2 g3 hd
    have e2 : (nx l).2.2 ≠ 0 := by
      unfold nx
      rw [e]
      simp only
      split <;> omega
    unfold chr decL
    rw [if_neg e2]
    refine ⟨by omega, fun h => absurd h e2, fun _ => by omega⟩

theorem decL_cont {l : List Nat} (hl : l ≠ []) (hb : ∀ x ∈ l, x < 256) (h : 128 ≤ l.getD 0 0 ∧ l.getD 0 0 ≤ 191) : decL l = (65533, 1) :=
  dec_cont _ _ _ _ _ (List.length_pos_iff.2 hl) (getD_lt hb 1) (getD_lt hb 2) (getD_lt hb 3) h

theorem str_size (l : List Nat) : (str l).size = l.length := by simp [str, strOfNums_size]
theorem str_get (l : List Nat) (hb : ∀ x ∈ l, x < 256) (i : Nat) : ((str l).get! i).toNat = l.getD i 0 := by
  rcases Nat.lt_or_ge i l.length with h | h
  · have h2 : (str l).get! i = (str l).data.toList.getD i 0 := by
      show (str l).data[i]! = _
      rw [getElem!_pos _ i (by simpa [str, strOfNums] using h)]
      simp [List.getD, str, strOfNums, h]
    rw [h2]
    simp only [str, strOfNums_data, List.map_map, List.getD, List.getElem?_map, List.getElem?_eq_getElem h, Option.map_some, Option.getD_some, Function.comp, Int.toNat_natCast, UInt8.toNat_ofNat']
    exact Nat.mod_eq_of_lt (hb _ (List.getElem_mem h))
  · have h2 : (str l).get! i = 0 := by
      show (str l).data[i]! = _
      rw [getElem!_neg _ i (by simpa [str, strOfNums] using h)]
      rfl
    rw [h2]
    simp [List.getD, List.getElem?_eq_none h]

/-- The model's own decoding of a text at a place. -/
theorem decode_str (l : List Nat) (hb : ∀ x ∈ l, x < 256) (i : Nat) : Utf8.decode (str l) i = decL (l.drop i) := by
  rw [decode_at, str_size, str_get l hb, str_get l hb, str_get l hb, str_get l hb]
  unfold decL
  have e : ∀ j, (l.drop i).getD j 0 = l.getD (i + j) 0 := by intro j; simp [List.getD, List.getElem?_drop]
  rw [e, e, e, e, List.length_drop]
  rfl

end Go.Proofs.YtcailmgincafcaaDoor.U
