/-
  What is written is read, and what is read is written: of a whole text. No walk stands in this text.
-/
import Derived.Test.YthfiilhbgogoaaaGreatDoorBk
import Derived.Test.YthfiilhbgogoaaaGreatDoorFmt
namespace Go.Proofs.YthfiilhbgogoaaaGreatDoor
open Go.RowKit Go.Lib
set_option linter.unusedVariables false

/-! ### An effect's line -/
theorem bare_yes {x : Ev} (h : bare x = true) : x.f = 0 ∧ x.m = 0 ∧ x.t = 0 ∧ x.l = [] ∧ x.n = 0 ∧ x.ok = false := of_decide_eq_true h
theorem lnE_ok {x : Ev} (h : (lnE x).2 = 0) : (lnE x).1 = lineOf (efo x) ∧ Lean1 (efo x) ∧ Mt x (efo x) := by
  unfold lnE at h ⊢
  by_cases hk : x.k < 0 ∨ 7 ≤ x.k
  · rw [if_pos hk] at h
    exact absurd h (by decide)
  rw [if_neg hk] at h ⊢
  obtain ⟨k, f, m, t, a, c, l, n, ok⟩ := x
  dsimp only at hk h ⊢
  obtain ⟨i, rfl, hi⟩ : ∃ i : Nat, k = (i : Int) ∧ i < 7 := ⟨k.toNat, by omega, by omega⟩
  rw [Int.toNat_natCast] at h ⊢
  by_cases hn : n < 0
  · exfalso
    rcases (by omega : i = 0 ∨ i = 1 ∨ i = 2 ∨ i = 3 ∨ i = 4 ∨ i = 5 ∨ i = 6) with rfl | rfl | rfl | rfl | rfl | rfl | rfl
    all_goals
      simp only [FL, List.getElem?_cons_zero, List.getElem?_cons_succ] at h
      rw [if_pos (.inl hn)] at h
      exact absurd h (by decide)
  obtain ⟨n', rfl⟩ : ∃ n' : Nat, n = (n' : Int) := ⟨n.toNat, by omega⟩
  rcases (by omega : i = 0 ∨ i = 1 ∨ i = 2 ∨ i = 3 ∨ i = 4 ∨ i = 5 ∨ i = 6) with rfl | rfl | rfl | rfl | rfl | rfl | rfl
  all_goals
    simp only [FL, List.getElem?_cons_zero, List.getElem?_cons_succ] at h ⊢
    split at h
    · exact absurd h (by decide)
    · rename_i hb
      rw [if_neg hb]
      have hb2 := bare_yes (eq_true_of_ne_false (fun e => hb (.inr e)))
      simp only [offs, off] at hb2
      refine ⟨?_, ?_, ⟨rfl, rfl, rfl, rfl, rfl, rfl, rfl⟩⟩
      · simp [wks, wt, off, lineOf, efo, okt] <;> (cases ok <;> rfl)
      · simp only [Lean1, efo]
        simp at hb2 ⊢
        try omega
        try simp [hb2]
theorem lnE_of {x : Ev} {y : Nat × Ef} (h : Mt x y) (hl : Lean1 y) : lnE x = (lineOf y, 0) := by
  obtain ⟨k, f, m, t, a, c, l, n, ok⟩ := x
  obtain ⟨i, f', m', t', d', n', ok'⟩ := y
  obtain ⟨h1, h2, h3, h4, h5, h6, h7⟩ := h
  dsimp only at h1 h2 h3 h4 h5 h6 h7
  subst h1 h2 h3 h4 h5 h6 h7
  have hi : i < 7 := by
    rcases i with _ | _ | _ | _ | _ | _ | _ | i
    all_goals first | omega | exact hl.elim
  unfold lnE
  rw [if_neg (by dsimp only; omega)]
  dsimp only
  rw [Int.toNat_natCast]
  rcases (by omega : i = 0 ∨ i = 1 ∨ i = 2 ∨ i = 3 ∨ i = 4 ∨ i = 5 ∨ i = 6) with rfl | rfl | rfl | rfl | rfl | rfl | rfl
  all_goals
    simp only [FL, List.getElem?_cons_zero, List.getElem?_cons_succ]
    simp only [Lean1] at hl
    rw [if_neg (by simp [offs, off, bare, hl])]
    simp [wks, wt, off, lineOf, okt, hl]
theorem rd_lineOf {y : Nat × Ef} (hl : Lean1 y) (ho : Ok y.2.f y.2.m y.2.t) (hn : y.2.n < 10 ^ 18) : rdAll (lineOf y) = some y := by
  obtain ⟨i, f, m, t, d, n, ok⟩ := y
  dsimp only at ho hn
  rw [rdAll_rf]
  have d32 := (dig_no (b := 10) (by omega) (by omega) n).1
  have o32 := (okt_no ok).1
  have h32 := (hext_no d).1
  have hi : i < 7 := by
    rcases i with _ | _ | _ | _ | _ | _ | _ | i
    all_goals first | omega | exact hl.elim
  have ne : ∀ (w r : List UInt8), (32 : UInt8) ∉ w → w ++ 32 :: r ≠ [101, 110, 100] ∧ w ++ 32 :: r ≠ [104, 105, 115, 116, 111, 114, 121] := fun w r _ => by
    have h1 : (32 : UInt8) ∈ w ++ 32 :: r := by simp
    exact ⟨fun e => by rw [e] at h1; exact absurd h1 (by decide), fun e => by rw [e] at h1; exact absurd h1 (by decide)⟩
  rcases (by omega : i = 0 ∨ i = 1 ∨ i = 2 ∨ i = 3 ∨ i = 4 ∨ i = 5 ∨ i = 6) with rfl | rfl | rfl | rfl | rfl | rfl | rfl
  · have hq := ne [103, 111, 116] (okt ok ++ 32 :: text f m t) (by decide)
    show rf ([103, 111, 116] ++ 32 :: (okt ok ++ 32 :: text f m t)) = _
    unfold rf
    rw [if_neg hq.1, if_neg hq.2, spl_app _ (by decide), spl_app _ o32, text_spl]
    unfold rfL
    dsimp only
    rw [if_pos rfl]
    simp only [tks, tk_okt]
    have e : ftext f ++ 32 :: (dig 10 m ++ 32 :: dig 10 t) = text f m t := rfl
    obtain ⟨r1, r2, r3⟩ := rd_text ho
    simp only [e, tk, r1, r2, r3, if_true]
    obtain ⟨rfl, rfl⟩ := hl
    rfl
  · have hq := ne [119, 97, 115] (okt ok ++ 32 :: text f m t) (by decide)
    show rf ([119, 97, 115] ++ 32 :: (okt ok ++ 32 :: text f m t)) = _
    unfold rf
    rw [if_neg hq.1, if_neg hq.2, spl_app _ (by decide), spl_app _ o32, text_spl]
    unfold rfL
    dsimp only
    rw [if_neg (by decide), if_pos rfl]
    simp only [tks, tk_okt]
    have e : ftext f ++ 32 :: (dig 10 m ++ 32 :: dig 10 t) = text f m t := rfl
    obtain ⟨r1, r2, r3⟩ := rd_text ho
    simp only [e, tk, r1, r2, r3, if_true]
    obtain ⟨rfl, rfl⟩ := hl
    rfl
  · have hq := ne [119, 114, 111, 116, 101] (okt ok ++ 32 :: (hext d ++ 32 :: dig 10 n)) (by decide)
    show rf ([119, 114, 111, 116, 101] ++ 32 :: (okt ok ++ 32 :: (hext d ++ 32 :: dig 10 n))) = _
    unfold rf
    rw [if_neg hq.1, if_neg hq.2, spl_app _ (by decide), spl_app _ o32, spl_app _ h32, spl_none d32]
    unfold rfL
    dsimp only
    rw [if_pos rfl]
    simp only [tks, tk_okt]
    simp only [tk, unhex_hext, num_dig hn, Option.map_some]
    obtain ⟨rfl, rfl, rfl⟩ := hl
    rfl
  · have hq := ne [114, 101, 97, 100] (okt ok ++ 32 :: dig 10 n) (by decide)
    show rf ([114, 101, 97, 100] ++ 32 :: (okt ok ++ 32 :: dig 10 n)) = _
    unfold rf
    rw [if_neg hq.1, if_neg hq.2, spl_app _ (by decide), spl_app _ o32, spl_none d32]
    unfold rfL
    dsimp only
    rw [if_pos rfl]
    simp only [tks, tk_okt]
    simp only [tk, num_dig hn, Option.map_some]
    obtain ⟨rfl, rfl, rfl, rfl⟩ := hl
    rfl
  · have hq := ne [115, 105, 103, 110, 97, 108] (dig 10 n) (by decide)
    show rf ([115, 105, 103, 110, 97, 108] ++ 32 :: dig 10 n) = _
    unfold rf
    rw [if_neg hq.1, if_neg hq.2, spl_app _ (by decide), spl_none d32]
    unfold rfL
    dsimp only
    rw [if_pos rfl]
    simp only [tks]
    simp only [tk, num_dig hn, Option.map_some]
    obtain ⟨rfl, rfl, rfl, rfl, rfl⟩ := hl
    rfl
  · obtain ⟨rfl, rfl, rfl, rfl, rfl, rfl⟩ := hl
    rfl
  · obtain ⟨rfl, rfl, rfl, rfl, rfl, rfl⟩ := hl
    rfl
theorem lineOf_ten {y : Nat × Ef} (hl : Lean1 y) : (10 : UInt8) ∉ lineOf y := by
  obtain ⟨i, f, m, t, d, n, ok⟩ := y
  have t10 : (10 : UInt8) ∉ text f m t := by
    unfold text
    simp only [List.mem_append, List.mem_cons, not_or]
    exact ⟨ftext_ten f, by decide, dig_ten (by omega) (by omega) m, by decide, dig_ten (by omega) (by omega) t⟩
  have d10 := dig_ten (b := 10) (by omega) (by omega) n
  have o10 := (okt_no ok).2
  have h10 := (hext_no d).2
  have hi : i < 7 := by
    rcases i with _ | _ | _ | _ | _ | _ | _ | i
    all_goals first | omega | exact hl.elim
  rcases (by omega : i = 0 ∨ i = 1 ∨ i = 2 ∨ i = 3 ∨ i = 4 ∨ i = 5 ∨ i = 6) with rfl | rfl | rfl | rfl | rfl | rfl | rfl
  all_goals simp [lineOf, t10, d10, o10, h10]

/-! ### A text -/
/-- What is parsed of lines, from the line n on: the effects, or none; and which line. -/
def prs : List (List UInt8) → Nat → Option (List (Nat × Ef)) × Nat
  | [], n => (none, n)
  | [p], n => if p = [] then (some [], n) else (none, n)
  | p :: q :: r, n => match rdAll p with
    | none => (none, n)
    | some y => ((prs (q :: r) (n + 1)).1.map (y :: ·), (prs (q :: r) (n + 1)).2)
/-- The text of effects. -/
def txt (Y : List (Nat × Ef)) : List UInt8 := Y.flatMap fun y => lineOf y ++ [10]
theorem txt_cons (y : Nat × Ef) (Y : List (Nat × Ef)) : txt (y :: Y) = lineOf y ++ 10 :: txt Y := by simp [txt]
theorem prs_txt : ∀ (Y : List (Nat × Ef)) (k : Nat), (∀ y ∈ Y, Lean1 y ∧ Ok y.2.f y.2.m y.2.t ∧ y.2.n < 10 ^ 18) → prs (spl 10 (txt Y)) k = (some Y, k + Y.length)
  | [], k, _ => rfl
  | y :: Y, k, h => by
    obtain ⟨h1, h2, h3⟩ := h y (by simp)
    have ih := prs_txt Y (k + 1) (fun z hz => h z (by simp [hz]))
    rw [txt_cons, spl_app _ (lineOf_ten h1)]
    cases e : spl 10 (txt Y) with
    | nil => exact absurd e (spl_ne 10 _)
    | cons q r =>
      rw [e] at ih
      simp only [prs, rd_lineOf h1 h2 h3, ih, Option.map_some, List.length_cons, Prod.mk.injEq, true_and]
      omega
theorem prs_join : ∀ (R : List (List UInt8)) (k k' : Nat) (Y : List (Nat × Ef)), prs R k = (some Y, k') → Lib.join R [10] = txt Y ∧ (∀ y ∈ Y, Lean1 y ∧ Ok y.2.f y.2.m y.2.t ∧ y.2.n < 10 ^ 18) ∧ k' = k + Y.length
  | [], k, k', Y, h => by simp [prs] at h
  | [p], k, k', Y, h => by
    unfold prs at h
    by_cases hp : p = []
    · rw [if_pos hp] at h
      simp only [Prod.mk.injEq, Option.some.injEq] at h
      obtain ⟨rfl, rfl⟩ := h
      rw [hp, Lib.join_one]
      exact ⟨rfl, by simp, by simp⟩
    · rw [if_neg hp] at h
      simp at h
  | p :: q :: r, k, k', Y, h => by
    unfold prs at h
    cases e : rdAll p with
    | none => rw [e] at h; simp at h
    | some y =>
      rw [e] at h
      simp only [Prod.mk.injEq, Option.map_eq_some_iff] at h
      obtain ⟨⟨Y', h1, rfl⟩, h2⟩ := h
      obtain ⟨q1, q2, q3⟩ := prs_join (q :: r) (k + 1) k' Y' (Prod.ext h1 h2)
      obtain ⟨l1, l2⟩ := rd_line e
      rw [join_cons2, q1, l1, txt_cons]
      refine ⟨rfl, fun z hz => ?_, by rw [q3, List.length_cons]; omega⟩
      rcases List.mem_cons.1 hz with rfl | hz
      · exact l2
      · exact q2 z hz
theorem prs_sound {s : List UInt8} {k k' : Nat} {Y : List (Nat × Ef)} (h : prs (spl 10 s) k = (some Y, k')) : s = txt Y ∧ (∀ y ∈ Y, Lean1 y ∧ Ok y.2.f y.2.m y.2.t ∧ y.2.n < 10 ^ 18) ∧ k' = k + Y.length := by
  obtain ⟨h1, h2⟩ := prs_join _ _ _ _ h
  rw [spl_glue] at h1
  exact ⟨h1, h2⟩
/-- A row of effects is what was read. -/
def Mts (L : List Ev) (Y : List (Nat × Ef)) : Prop := L.length = Y.length ∧ ∀ (i : Nat) x y, L[i]? = some x → Y[i]? = some y → Mt x y
theorem Mts.nil : Mts [] [] := ⟨rfl, fun i x y h => by simp at h⟩
theorem Mts.snoc {L : List Ev} {Y : List (Nat × Ef)} {x : Ev} {y : Nat × Ef} (h : Mts L Y) (hm : Mt x y) : Mts (L ++ [x]) (Y ++ [y]) := by
  refine ⟨by simp [h.1], fun i u v hu hv => ?_⟩
  by_cases hi : i < L.length
  · rw [List.getElem?_append_left hi] at hu
    rw [List.getElem?_append_left (by rw [← h.1]; exact hi)] at hv
    exact h.2 i u v hu hv
  · rw [List.getElem?_append_right (by omega)] at hu
    rw [List.getElem?_append_right (by rw [← h.1]; omega), ← h.1] at hv
    cases e : i - L.length with
    | zero =>
      rw [e] at hu hv
      simp only [List.getElem?_cons_zero, Option.some.injEq] at hu hv
      rw [← hu, ← hv]
      exact hm
    | succ j =>
      rw [e] at hu
      simp at hu
theorem Mts.cons {L : List Ev} {Y : List (Nat × Ef)} {x : Ev} {y : Nat × Ef} (h : Mts (x :: L) (y :: Y)) : Mt x y ∧ Mts L Y :=
  ⟨h.2 0 x y rfl rfl, by simpa using h.1, fun i u v hu hv => h.2 (i + 1) u v (by simpa using hu) (by simpa using hv)⟩
theorem Mts.efo : ∀ {L : List Ev}, (∀ x ∈ L, (lnE x).2 = 0) → Mts L (L.map efo)
  | [], _ => Mts.nil
  | x :: L, h => by
    have ih := Mts.efo (L := L) (fun y hy => h y (by simp [hy]))
    refine ⟨by simp, fun i u v hu hv => ?_⟩
    cases i with
    | zero =>
      simp only [List.getElem?_cons_zero, Option.some.injEq, List.map_cons] at hu hv
      rw [← hu, ← hv]
      exact (lnE_ok (h x (by simp))).2.2
    | succ i => exact ih.2 i u v (by simpa using hu) (by simpa using hv)
theorem lnT_txt : ∀ {L : List Ev} {Y : List (Nat × Ef)}, Mts L Y → (∀ y ∈ Y, Lean1 y) → (∀ x ∈ L, (lnE x).2 = 0) ∧ lnT L = txt Y
  | [], [], _, _ => ⟨by simp, rfl⟩
  | [], y :: Y, h, _ => by have := h.1; simp at this
  | x :: L, [], h, _ => by have := h.1; simp at this
  | x :: L, y :: Y, h, hl => by
    obtain ⟨h1, h2⟩ := h.cons
    obtain ⟨q1, q2⟩ := lnT_txt h2 (fun z hz => hl z (by simp [hz]))
    have e := lnE_of h1 (hl y (by simp))
    refine ⟨fun z hz => ?_, ?_⟩
    · rcases List.mem_cons.1 hz with rfl | hz
      · rw [e]
      · exact q1 z hz
    · have : lnT (x :: L) = (lnE x).1 ++ [10] ++ lnT L := by simp [lnT]
      rw [this, e, q2, txt_cons]
      simp
/-- Effects' text is read as they are. -/
theorem prs_fm {L : List Ev} (h : (fm L).2 = 0) (hx : ∀ x ∈ L, Ok x.f x.m x.t ∧ x.n < 10 ^ 18) : prs (spl 10 (fm L).1) 0 = (some (L.map efo), L.length) ∧ Mts L (L.map efo) := by
  have hp : ∀ y ∈ L, (lnE y).2 = 0 := by
    intro y hy
    apply Classical.byContradiction
    intro hne
    obtain ⟨i, hi, e⟩ := List.getElem_of_mem hy
    unfold fm at h
    cases e2 : L.find? (fun x => decide ((lnE x).2 ≠ 0)) with
    | none =>
      have := List.find?_eq_none.1 e2 y hy
      simp at this
      exact hne this
    | some z =>
      rw [e2] at h
      have h3 := List.find?_some e2
      simp at h3
      exact h3 h
  have hm := Mts.efo hp
  have hl : ∀ y ∈ L.map efo, Lean1 y ∧ Ok y.2.f y.2.m y.2.t ∧ y.2.n < 10 ^ 18 := by
    intro y hy
    obtain ⟨x, hx1, rfl⟩ := List.mem_map.1 hy
    have h1 := lnE_ok (hp x hx1)
    have h2 := hx x hx1
    refine ⟨h1.2.1, h2.1, ?_⟩
    show x.n.toNat < 10 ^ 18
    omega
  have ht := lnT_txt hm (fun y hy => (hl y hy).1)
  rw [fm_ok L hp, ht.2]
  refine ⟨?_, hm⟩
  have := prs_txt (L.map efo) 0 hl
  simpa using this
/-- What was read is written as that text. -/
theorem fm_prs {L : List Ev} {Y : List (Nat × Ef)} {s : List UInt8} {k : Nat} (h : prs (spl 10 s) 0 = (some Y, k)) (hm : Mts L Y) : fm L = (s, 0) := by
  obtain ⟨h1, h2, _⟩ := prs_sound h
  obtain ⟨q1, q2⟩ := lnT_txt hm (fun y hy => (h2 y hy).1)
  rw [fm_ok L q1, q2, h1]
end Go.Proofs.YthfiilhbgogoaaaGreatDoor
