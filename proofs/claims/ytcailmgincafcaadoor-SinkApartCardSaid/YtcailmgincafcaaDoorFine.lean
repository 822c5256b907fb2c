/-
  Bytes that are those of characters that may be shown. No walk stands in this text.
-/
import Derived.Test.YtcailmgincafcaaDoorEdp
import Derived.Test.YtcailmgincafcaaDoorUFlat
namespace Go.Proofs.YtcailmgincafcaaDoor
open Go.RowKit Go.Lib
set_option linter.unusedVariables false

theorem nextN_enc (n b0 b1 b2 b3 : Nat) (h0 : b0 < 256) (h1 : b1 < 256) (h2 : b2 < 256) (h3 : b3 < 256) (h : (U.nextN n b0 b1 b2 b3).2.2 = 0) :
    U.enc (U.nextN n b0 b1 b2 b3).1 = [b0, b1, b2, b3].take (U.nextN n b0 b1 b2 b3).2.1 := by
  obtain ⟨r, hr⟩ : ∃ r, r = U.nextN n b0 b1 b2 b3 := ⟨_, rfl⟩
  rw [← hr] at h ⊢
  unfold U.nextN at hr
  by_cases n0 : n = 0
  · rw [if_pos n0] at hr; subst hr; simp at h
  rw [if_neg n0] at hr
  have hs4 := U.szB_le b0
  rcases (by omega : U.szB b0 = 0 ∨ U.szB b0 = 1 ∨ U.szB b0 = 2 ∨ U.szB b0 = 3 ∨ U.szB b0 = 4) with s | s | s | s | s
  · rw [if_pos s] at hr; subst hr; simp at h
  · rw [s, if_neg (by omega), if_pos rfl] at hr
    subst hr
    have : b0 < 128 := by
      unfold U.szB at s
      repeat' split at s
      all_goals omega
    simp [U.enc, this]
  all_goals
    rw [s, if_neg (by omega), if_neg (by omega)] at hr
    by_cases n1 : n = 1
    · rw [if_pos n1] at hr; subst hr; simp at h
    rw [if_neg n1] at hr
    by_cases p1 : b1 < U.loB b0 ∨ U.hiB b0 < b1
    · rw [if_pos p1] at hr; subst hr; simp at h
    rw [if_neg p1] at hr
    have hb0 : (U.szB b0 = 2 → 194 ≤ b0 ∧ b0 < 224) ∧ (U.szB b0 = 3 → 224 ≤ b0 ∧ b0 < 240) ∧ (U.szB b0 = 4 → 240 ≤ b0 ∧ b0 < 245) := by
      unfold U.szB
      (repeat' split) <;> omega
    have hlh := U.lo_hi b0
    have hlo : (b0 = 224 → U.loB b0 = 160) ∧ (b0 = 240 → U.loB b0 = 144) ∧ (b0 = 237 → U.hiB b0 = 159) ∧ (b0 = 244 → U.hiB b0 = 143) := by
      refine ⟨fun e => by rw [e]; rfl, fun e => by rw [e]; rfl, fun e => by rw [e]; rfl, fun e => by rw [e]; rfl⟩
  · rw [if_pos rfl] at hr
    have := hb0.1 s
    subst hr
    show U.enc _ = [b0, b1]
    unfold U.enc
    rw [if_neg (by omega), if_pos (by omega)]
    congr 1
    · omega
    · congr 1
      omega
  · rw [if_neg (by omega)] at hr
    by_cases n2 : n = 2
    · rw [if_pos n2] at hr; subst hr; simp at h
    rw [if_neg n2] at hr
    by_cases p2 : b2 < 128 ∨ 191 < b2
    · rw [if_pos p2] at hr; subst hr; simp at h
    rw [if_neg p2, if_pos rfl] at hr
    have := hb0.2.1 s
    subst hr
    show U.enc _ = [b0, b1, b2]
    unfold U.enc
    rw [if_neg (by omega), if_neg (by omega), if_pos (by omega)]
    congr 1
    · omega
    · congr 1
      · omega
      · congr 1
        omega
  · rw [if_neg (by omega)] at hr
    by_cases n2 : n = 2
    · rw [if_pos n2] at hr; subst hr; simp at h
    rw [if_neg n2] at hr
    by_cases p2 : b2 < 128 ∨ 191 < b2
    · rw [if_pos p2] at hr; subst hr; simp at h
    rw [if_neg p2, if_neg (by omega)] at hr
    by_cases n3 : n = 3
    · rw [if_pos n3] at hr; subst hr; simp at h
    rw [if_neg n3] at hr
    by_cases p3 : b3 < 128 ∨ 191 < b3
    · rw [if_pos p3] at hr; subst hr; simp at h
    rw [if_neg p3] at hr
    have := hb0.2.2 s
    subst hr
    show U.enc _ = [b0, b1, b2, b3]
    unfold U.enc
    rw [if_neg (by omega), if_neg (by omega), if_neg (by omega)]
    congr 1
    · omega
    · congr 1
      · omega
      · congr 1
        · omega
        · congr 1
          omega
theorem take_four (l : List Nat) (k : Nat) (h4 : k ≤ 4) (hk : k ≤ l.length) : l.take k = [l.getD 0 0, l.getD 1 0, l.getD 2 0, l.getD 3 0].take k := by
  rcases (by omega : k = 0 ∨ k = 1 ∨ k = 2 ∨ k = 3 ∨ k = 4) with rfl | rfl | rfl | rfl | rfl
  · rfl
  all_goals
    rcases l with _ | ⟨x0, _ | ⟨x1, _ | ⟨x2, _ | ⟨x3, t⟩⟩⟩⟩
    all_goals first
      | rfl
      | (exfalso; simp at hk)
theorem nx_take {l : List Nat} (hb : ∀ x ∈ l, x < 256) (hl : l ≠ []) (h : (U.nx l).2.2 = 0) : l.take (U.nx l).2.1 = U.enc (U.nx l).1 := by
  have hp := U.nx_pos hl hb
  rw [take_four l _ hp.2.2 hp.2.1]
  exact (nextN_enc _ _ _ _ _ (U.getD_lt hb 0) (U.getD_lt hb 1) (U.getD_lt hb 2) (U.getD_lt hb 3) h).symm
theorem map_nat_inj {l m : List UInt8} (h : l.map UInt8.toNat = m.map UInt8.toNat) : l = m := by
  have key : ∀ l : List UInt8, (l.map UInt8.toNat).map UInt8.ofNat = l := by
    intro l
    rw [List.map_map]
    have : ∀ x ∈ l, (UInt8.ofNat ∘ UInt8.toNat) x = x := by
      intro x _
      simp
    rw [List.map_congr_left this]
    simp
  rw [← key l, h, key m]
theorem nx8_take {l : List UInt8} (hl : l ≠ []) (h : (nx8 l).2.2 = 0) : l = enc8 (nx8 l).1 ++ l.drop (nx8 l).2.1 ∧ U.isCh ((nx8 l).1 : Int) = true := by
  have hb := nat_lt l
  have hne : l.map UInt8.toNat ≠ [] := by simpa using hl
  have hi : U.isCh ((nx8 l).1 : Int) = true := U.nextN_isCh _ _ _ _ _ (U.getD_lt hb 0) (U.getD_lt hb 1) (U.getD_lt hb 2) (U.getD_lt hb 3) h
  have hc : (nx8 l).1 ≤ 1114111 := by have := of_decide_eq_true hi; omega
  refine ⟨?_, hi⟩
  have h1 := nx_take hb hne h
  rw [← List.map_take] at h1
  have h2 : l.take (nx8 l).2.1 = enc8 (nx8 l).1 := map_nat_inj (by rw [enc8_nat hc]; exact h1)
  rw [← h2]
  exact (List.take_append_drop _ _).symm
theorem nx8_enc {c : Nat} (hc : U.isCh (c : Int) = true) (m : List UInt8) : nx8 (enc8 c ++ m) = (c, (enc8 c).length, 0) := by
  have hm : c ≤ 1114111 := by have := of_decide_eq_true hc; omega
  have h1 : (enc8 c).length = (U.enc c).length := by simp [enc8]
  rw [h1]
  unfold nx8
  rw [List.map_append, enc8_nat hm, U.nx_app (U.enc c) _ (U.enc_ne c) (by rw [U.nx_enc c hc]; simp), U.nx_enc c hc]
/-- The characters of bytes. -/
def chs (l : List UInt8) : List Nat := U.chars (l.map UInt8.toNat)
theorem fl_nat {X : List Nat} (h : Pr X) : (fl X).map UInt8.toNat = X.flatMap U.enc := by
  induction X with
  | nil => rfl
  | cons c X ih => rw [fl_cons, List.map_append, enc8_nat (pr_ch (h c (by simp))).2, ih (fun d hd => h d (by simp [hd])), List.flatMap_cons]
theorem chs_app {X : List Nat} (h : Pr X) (m : List UInt8) : chs (fl X ++ m) = X ++ chs m := by
  unfold chs
  rw [List.map_append, fl_nat h]
  exact U.chars_flat X (fun c hc => (pr_ch (h c hc)).1) _ (nat_lt m)
theorem chs_fl {X : List Nat} (h : Pr X) : chs (fl X) = X := by
  have := chs_app h []
  simpa [chs, U.chars_nil] using this
theorem chs_nil : chs [] = [] := rfl
/-- Are they? -/
def Fi (l : List UInt8) : Prop := ∃ X, Pr X ∧ l = fl X
theorem Fi.nil : Fi [] := ⟨[], Pr.nil, rfl⟩
theorem Fi.of {l : List UInt8} (h : Fi l) : Pr (chs l) ∧ fl (chs l) = l := by
  obtain ⟨X, hX, rfl⟩ := h
  rw [chs_fl hX]
  exact ⟨hX, rfl⟩
theorem Fi.cancel {X : List Nat} {m : List UInt8} (hX : Pr X) (h : Fi (fl X ++ m)) : Fi m := by
  obtain ⟨Z, hZ, e⟩ := h
  have e1 := chs_app hX m
  rw [e, chs_fl hZ] at e1
  refine ⟨chs m, ?_, ?_⟩
  · rw [e1] at hZ
    exact hZ.right
  · rw [e1, fl_app] at e
    exact List.append_cancel_left e
theorem Fi.app {X : List Nat} {m : List UInt8} (hX : Pr X) (h : Fi m) : Fi (fl X ++ m) := by
  obtain ⟨Z, hZ, rfl⟩ := h
  exact ⟨X ++ Z, hX.app hZ, (fl_app X Z).symm⟩
/-- A first character that isn't right, or may not be shown: they aren't. -/
theorem Fi.no {m : List UInt8} (hm : m ≠ []) (h : (nx8 m).2.2 ≠ 0 ∨ U.prB ((nx8 m).1 : Int) = false) : ¬ Fi m := by
  rintro ⟨Z, hZ, rfl⟩
  rcases Z with _ | ⟨c, Z⟩
  · exact hm rfl
  · have hc := hZ c (by simp)
    rw [fl_cons, nx8_enc (pr_ch hc).1] at h
    rcases h with h | h
    · exact h rfl
    · rw [hc] at h
      cases h
theorem Fi.step {m : List UInt8} (hm : m ≠ []) (h : (nx8 m).2.2 = 0) (hp : U.prB ((nx8 m).1 : Int) = true) : m = fl [(nx8 m).1] ++ m.drop (nx8 m).2.1 ∧ Pr [(nx8 m).1] := by
  refine ⟨?_, Pr.one hp⟩
  rw [fl_one]
  exact (nx8_take hm h).1
/-- Are they? As a bool. -/
def fiB (l : List UInt8) : Bool := (chs l).all (fun c => U.prB (c : Int)) && decide (fl (chs l) = l)
theorem fi_iff (l : List UInt8) : fiB l = true ↔ Fi l := by
  unfold fiB
  rw [Bool.and_eq_true, List.all_eq_true, decide_eq_true_eq]
  constructor
  · rintro ⟨h1, h2⟩
    exact ⟨chs l, h1, h2.symm⟩
  · intro h
    exact ⟨h.of.1, h.of.2⟩
/-- A text laid. -/
def insS (N : Nat) (l : List UInt8) (A B : List Nat) : Rs := if fiB l = true then layS N (chs l) A B else ⟨8, A, B⟩
theorem insS_yes {l : List UInt8} (h : Fi l) (N : Nat) (A B : List Nat) : insS N l A B = layS N (chs l) A B := if_pos ((fi_iff l).2 h)
theorem insS_no {l : List UInt8} (h : ¬ Fi l) (N : Nat) (A B : List Nat) : insS N l A B = ⟨8, A, B⟩ := if_neg (fun g => h ((fi_iff l).1 g))
end Go.Proofs.YtcailmgincafcaaDoor
