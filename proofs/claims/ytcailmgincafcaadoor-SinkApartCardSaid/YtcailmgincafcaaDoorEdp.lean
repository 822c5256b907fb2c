/-
  Characters that may be shown as bytes: where each begins, how many there are. And what a buffer's calls do, as lists. No walk stands in this text.
-/
import Derived.Test.YtcailmgincafcaaDoorOwn
import Derived.Test.YtcailmgincafcaaDoorUPut2
namespace Go.Proofs.YtcailmgincafcaaDoor
open Go.RowKit Go.Lib
set_option linter.unusedVariables false

/-! ### Numbers and bytes -/
theorem bts_of_U {w : World} {a : Option Addr} {l : List Nat} (h : U.Bts w a l) : Bts w a (l.map UInt8.ofNat) := fun hl => by
  obtain ⟨b, off, h1, h2⟩ := h.2 (by intro e; subst e; exact hl rfl)
  refine ⟨b, off, h1, fun i hi => ?_⟩
  rw [List.length_map] at hi
  have hx := h.1 l[i] (List.getElem_mem hi)
  have h3 := h2 i hi
  rw [List.getD_eq_getElem?_getD, List.getElem?_eq_getElem hi, Option.getD_some] at h3
  rw [h3, getElem!_pos _ i (by rw [List.length_map]; exact hi), List.getElem_map]
  unfold bval
  rw [UInt8.toNat_ofNat', Nat.mod_eq_of_lt hx]
theorem bts_to_U {w : World} {a : Option Addr} {l : List UInt8} (h : Bts w a l) : U.Bts w a (l.map UInt8.toNat) := by
  refine ⟨fun x hx => ?_, fun hl => ?_⟩
  · obtain ⟨y, _, rfl⟩ := List.mem_map.1 hx
    exact y.toNat_lt
  · obtain ⟨b, off, h1, h2⟩ := h (by intro e; subst e; exact hl rfl)
    refine ⟨b, off, h1, fun i hi => ?_⟩
    rw [List.length_map] at hi
    rw [h2 i hi, getElem!_pos l i hi, List.getD_eq_getElem?_getD, List.getElem?_map, List.getElem?_eq_getElem hi]
    rfl
/-- A character's bytes. -/
def enc8 (c : Nat) : List UInt8 := (U.enc c).map UInt8.ofNat
theorem enc8_len (c : Nat) : 1 ≤ (enc8 c).length ∧ (enc8 c).length ≤ 4 := by
  unfold enc8
  rw [List.length_map]
  exact U.enc_len c
theorem enc8_nat {c : Nat} (hc : c ≤ 1114111) : (enc8 c).map UInt8.toNat = U.enc c := by
  unfold enc8
  rw [List.map_map]
  have : ∀ x ∈ U.enc c, (UInt8.toNat ∘ UInt8.ofNat) x = x := by
    intro x hx
    simp only [Function.comp, UInt8.toNat_ofNat']
    exact Nat.mod_eq_of_lt (U.enc_lt c hc x hx)
  rw [List.map_congr_left this]
  simp
/-- Characters that may be shown. -/
def Pr (cs : List Nat) : Prop := ∀ c ∈ cs, U.prB (c : Int) = true
theorem pr_ch {c : Nat} (h : U.prB (c : Int) = true) : U.isCh (c : Int) = true ∧ c ≤ 1114111 := by
  have h2 := of_decide_eq_true h
  refine ⟨decide_eq_true h2.1, ?_⟩
  omega
theorem Pr.nil : Pr [] := fun _ h => by cases h
theorem Pr.app {A B : List Nat} (h : Pr A) (k : Pr B) : Pr (A ++ B) := fun c hc => by
  rcases List.mem_append.1 hc with g | g
  · exact h c g
  · exact k c g
theorem Pr.left {A B : List Nat} (h : Pr (A ++ B)) : Pr A := fun c hc => h c (List.mem_append_left _ hc)
theorem Pr.right {A B : List Nat} (h : Pr (A ++ B)) : Pr B := fun c hc => h c (List.mem_append_right _ hc)
theorem Pr.one {c : Nat} (h : U.prB (c : Int) = true) : Pr [c] := fun d hd => by rw [List.mem_singleton.1 hd]; exact h
/-- The bytes of characters. -/
def fl (cs : List Nat) : List UInt8 := cs.flatMap enc8
theorem fl_nil : fl [] = [] := rfl
theorem fl_cons (c : Nat) (cs : List Nat) : fl (c :: cs) = enc8 c ++ fl cs := by simp [fl]
theorem fl_one (c : Nat) : fl [c] = enc8 c := by simp [fl]
theorem fl_app (A B : List Nat) : fl (A ++ B) = fl A ++ fl B := by simp [fl]
theorem fl_len_ge (A : List Nat) : A.length ≤ (fl A).length := by
  induction A with
  | nil => simp [fl]
  | cons c A ih =>
    rw [fl_cons, List.length_append, List.length_cons]
    have := (enc8_len c).1
    omega

/-- Does a character begin here? -/
def beg (x : UInt8) : Bool := decide (x.toNat < 128) || decide (191 < x.toNat)
theorem enc8_form {c : Nat} (hc : c ≤ 1114111) : ∃ x t, enc8 c = x :: t ∧ beg x = true ∧ (∀ y ∈ t, beg y = false) := by
  unfold enc8 U.enc
  split
  · exact ⟨_, _, rfl, by simp [beg]; omega, by simp⟩
  · split
    · exact ⟨_, _, rfl, by simp [beg]; omega, by simp [beg]; omega⟩
    · split
      · exact ⟨_, _, rfl, by simp [beg]; omega, by simp [beg]; omega⟩
      · exact ⟨_, _, rfl, by simp [beg]; omega, by simp [beg]; omega⟩
/-- How many characters begin. -/
def cnt (l : List UInt8) : Nat := l.countP beg
theorem cnt_app (l m : List UInt8) : cnt (l ++ m) = cnt l + cnt m := by simp [cnt]
theorem cnt_enc {c : Nat} (hc : c ≤ 1114111) : cnt (enc8 c) = 1 := by
  obtain ⟨x, t, e, hx, ht⟩ := enc8_form hc
  have h0 : t.countP beg = 0 := List.countP_eq_zero.2 (fun y hy => by rw [ht y hy]; simp)
  rw [e]
  simp [cnt, hx, h0]
theorem cnt_fl {A : List Nat} (h : Pr A) : cnt (fl A) = A.length := by
  induction A with
  | nil => rfl
  | cons c A ih =>
    rw [fl_cons, cnt_app, cnt_enc (pr_ch (h c (by simp))).2, ih (fun d hd => h d (by simp [hd])), List.length_cons]
    omega
theorem cnt_take {l : List UInt8} {i : Nat} (hi : i < l.length) : cnt (l.take (i + 1)) = cnt (l.take i) + (if beg (l[i]!) = true then 1 else 0) := by
  rw [List.take_add_one, getElem!_pos l i hi]
  rw [List.getElem?_eq_getElem hi, Option.toList_some, cnt_app]
  congr 1
  by_cases h : beg l[i] = true <;> simp [cnt, h]
theorem cnt_le (l : List UInt8) : cnt l ≤ l.length := List.countP_le_length

/-! ### What the calls do -/
/-- The last character ahead, as a list. -/
def lst (A : List Nat) : List Nat := A.drop (A.length - 1)
theorem dl_lst (A : List Nat) : A.dropLast ++ lst A = A := by
  rw [List.dropLast_eq_take]
  exact List.take_append_drop _ _
theorem snoc_cases (A : List Nat) : A = [] ∨ ∃ A' a, A = A' ++ [a] := by
  rcases List.eq_nil_or_concat A with h | ⟨A', a, h⟩
  · exact .inl h
  · exact .inr ⟨A', a, by simpa using h⟩
theorem dl_snoc (A : List Nat) (a : Nat) : (A ++ [a]).dropLast = A := by simp
theorem lst_snoc (A : List Nat) (a : Nat) : lst (A ++ [a]) = [a] := by simp [lst]

/-- What a call leaves: its error, and the characters ahead and behind. -/
structure Rs where
  e : Int
  A : List Nat
  B : List Nat
/-- Some characters laid. -/
def layS (N : Nat) (X A B : List Nat) : Rs := if (fl (A ++ B)).length + (fl X).length ≤ N then ⟨0, A ++ X, B⟩ else ⟨4, A, B⟩
/-- One laid. -/
def putS (N : Nat) (c : Int) (A B : List Nat) : Rs := if U.prB c = true then layS N [c.toNat] A B else ⟨2, A, B⟩
/-- What a key leaves. -/
def doS (N : Nat) (k c : Int) (A B : List Nat) : Rs :=
  if k = 0 then putS N c A B
  else if k = 2 then ⟨0, A.dropLast, B⟩
  else if k = 3 then ⟨0, A, B.drop 1⟩
  else if k = 4 then ⟨0, A.dropLast, lst A ++ B⟩
  else if k = 5 then ⟨0, A ++ B.take 1, B.drop 1⟩
  else if k = 6 then ⟨0, [], A ++ B⟩
  else if k = 7 then ⟨0, A ++ B, []⟩
  else if k = 8 then ⟨0, [], B⟩
  else if k = 9 then ⟨0, A, []⟩
  else ⟨0, A, B⟩
/-- Did it change something? -/
def chg (r : Rs) (A B : List Nat) : Bool := decide (r.A.length ≠ A.length) || decide (r.B.length ≠ B.length)
/-- The same by the bytes. -/
def chgB (r : Rs) (A B : List Nat) : Bool := decide ((fl r.A).length ≠ (fl A).length) || decide ((fl (r.A ++ r.B)).length ≠ (fl (A ++ B)).length)
theorem fl_pos (c : Nat) : 1 ≤ (fl [c]).length := by rw [fl_one]; exact (enc8_len c).1
theorem chg_eq (r : Rs) (A B : List Nat) (h : ∃ X Y : List Nat, (r.A = A ++ X ∧ r.B = B ∧ Y = []) ∨ (A = r.A ++ X ∧ B = Y ++ r.B ∧ X = []) ∨ (A = r.A ++ X ∧ r.B = X ++ B ∧ Y = []) ∨ (r.A = A ++ X ∧ B = X ++ r.B ∧ Y = []) ∨ (A = r.A ++ X ∧ B = r.B ∧ Y = []) ∨ (r.A = A ∧ B = r.B ++ X ∧ Y = [])) : chgB r A B = chg r A B := by
  obtain ⟨rA, rB⟩ : ∃ p : List Nat × List Nat, r.A = p.1 ∧ r.B = p.2 := ⟨(r.A, r.B), rfl, rfl⟩
  obtain ⟨X, Y, h⟩ := h
  have key : ∀ X : List Nat, ((fl X).length = 0 ↔ X.length = 0) := by
    intro X
    have := fl_len_ge X
    constructor
    · omega
    · intro h
      have : X = [] := List.length_eq_zero_iff.1 h
      subst this
      rfl
  have kX := key X
  have kY := key Y
  unfold chgB chg
  rcases h with ⟨h1, h2, h3⟩ | ⟨h1, h2, h3⟩ | ⟨h1, h2, h3⟩ | ⟨h1, h2, h3⟩ | ⟨h1, h2, h3⟩ | ⟨h1, h2, h3⟩
  all_goals
    have e1 := congrArg (fun l => (fl l).length) h1
    have e2 := congrArg (fun l => (fl l).length) h2
    have e3 := congrArg List.length h1
    have e4 := congrArg List.length h2
    simp only [fl_app, List.length_append] at e1 e2 e3 e4 ⊢
    subst h3
    simp only [fl_nil, List.length_nil] at *
    rw [Bool.eq_iff_iff]
    simp only [Bool.or_eq_true, decide_eq_true_eq]
    omega
theorem doS_chg (N : Nat) (k c : Int) (A B : List Nat) : chgB (doS N k c A B) A B = chg (doS N k c A B) A B := by
  unfold doS putS layS
  by_cases h0 : k = 0
  · rw [if_pos h0]
    by_cases hp : U.prB c = true
    · rw [if_pos hp]
      by_cases hn : (fl (A ++ B)).length + (fl [c.toNat]).length ≤ N
      · rw [if_pos hn]
        exact chg_eq _ _ _ ⟨[c.toNat], [], .inl ⟨rfl, rfl, rfl⟩⟩
      · rw [if_neg hn]
        exact chg_eq _ _ _ ⟨[], [], .inl ⟨by simp, rfl, rfl⟩⟩
    · rw [if_neg hp]
      exact chg_eq _ _ _ ⟨[], [], .inl ⟨by simp, rfl, rfl⟩⟩
  rw [if_neg h0]
  by_cases h2 : k = 2
  · rw [if_pos h2]
    exact chg_eq _ _ _ ⟨lst A, [], .inr (.inr (.inr (.inr (.inl ⟨(dl_lst A).symm, rfl, rfl⟩))))⟩
  rw [if_neg h2]
  by_cases h3 : k = 3
  · rw [if_pos h3]
    exact chg_eq _ _ _ ⟨[], B.take 1, .inr (.inl ⟨by simp, (List.take_append_drop 1 B).symm, rfl⟩)⟩
  rw [if_neg h3]
  by_cases h4 : k = 4
  · rw [if_pos h4]
    exact chg_eq _ _ _ ⟨lst A, [], .inr (.inr (.inl ⟨(dl_lst A).symm, rfl, rfl⟩))⟩
  rw [if_neg h4]
  by_cases h5 : k = 5
  · rw [if_pos h5]
    exact chg_eq _ _ _ ⟨B.take 1, [], .inr (.inr (.inr (.inl ⟨rfl, (List.take_append_drop 1 B).symm, rfl⟩)))⟩
  rw [if_neg h5]
  by_cases h6 : k = 6
  · rw [if_pos h6]
    exact chg_eq _ _ _ ⟨A, [], .inr (.inr (.inl ⟨rfl, rfl, rfl⟩))⟩
  rw [if_neg h6]
  by_cases h7 : k = 7
  · rw [if_pos h7]
    exact chg_eq _ _ _ ⟨B, [], .inr (.inr (.inr (.inl ⟨rfl, by simp, rfl⟩)))⟩
  rw [if_neg h7]
  by_cases h8 : k = 8
  · rw [if_pos h8]
    exact chg_eq _ _ _ ⟨A, [], .inr (.inr (.inr (.inr (.inl ⟨rfl, rfl, rfl⟩))))⟩
  rw [if_neg h8]
  by_cases h9 : k = 9
  · rw [if_pos h9]
    exact chg_eq _ _ _ ⟨B, [], .inr (.inr (.inr (.inr (.inr ⟨rfl, by simp, rfl⟩))))⟩
  rw [if_neg h9]
  exact chg_eq _ _ _ ⟨[], [], .inl ⟨by simp, rfl, rfl⟩⟩
theorem doS_pr {N : Nat} {k c : Int} {A B : List Nat} (h : Pr (A ++ B)) : Pr ((doS N k c A B).A ++ (doS N k c A B).B) := by
  have hA := h.left
  have hB := h.right
  have hd : Pr A.dropLast := fun x hx => hA x ((List.dropLast_sublist A).subset hx)
  have hl : Pr (lst A) := fun x hx => hA x (List.mem_of_mem_drop hx)
  have hb : Pr (B.drop 1) := fun x hx => hB x (List.mem_of_mem_drop hx)
  have ht : Pr (B.take 1) := fun x hx => hB x (List.mem_of_mem_take hx)
  unfold doS putS layS
  repeat' split
  all_goals first
    | exact h
    | exact (hA.app (Pr.one (by rename_i h1 _; have := of_decide_eq_true h1; rw [Int.toNat_of_nonneg (by omega)]; exact h1))).app hB
    | exact hd.app hB
    | exact hA.app hb
    | exact hd.app (hl.app hB)
    | exact (hA.app ht).app hb
    | (simpa using h)
    | (simpa using hB)
    | (simpa using hA)
theorem doS_le {N : Nat} {k c : Int} {A B : List Nat} (h : (fl (A ++ B)).length ≤ N) : (fl ((doS N k c A B).A ++ (doS N k c A B).B)).length ≤ N := by
  have e1 := congrArg (fun l => (fl l).length) (dl_lst A)
  have e2 := congrArg (fun l => (fl l).length) (List.take_append_drop 1 B)
  simp only [fl_app, List.length_append] at e1 e2 h
  unfold doS putS layS
  repeat' split
  all_goals
    simp only [fl_app, List.length_append, fl_nil, List.length_nil] at *
    omega
end Go.Proofs.YtcailmgincafcaaDoor
