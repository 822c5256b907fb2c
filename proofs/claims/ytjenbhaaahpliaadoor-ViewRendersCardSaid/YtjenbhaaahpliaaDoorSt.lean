/-
  Whether numbers may be; how many stars there are, and how many stand ahead of the place: the program's and the document's.
-/
import Derived.Test.YtjenbhaaahpliaaDoorRo2
namespace Go.Proofs.YtjenbhaaahpliaaDoor
open Go.RowKit Go.Lib
set_option linter.unusedVariables false

/-- May these numbers be? -/
def rng (c a : Int) : Bool := decide (0 ≤ a ∧ a ≤ c ∧ c ≤ 1024)
/-- How many stars. -/
def stN (m c : Int) : Int := if (mok m && rng c 0) = true then (if m = 0 then 0 else if m = 1 then c else if 0 < c then 8 else 0) else 0
/-- How many ahead of the place. -/
def plN (m c a : Int) : Int := if (mok m && rng c a) = true then (if m = 0 then 0 else if m = 1 then a else if 0 < c then 8 else 0) else 0
theorem stN_bd (m c : Int) : 0 ≤ stN m c ∧ stN m c ≤ 1024 := by
  unfold stN
  split
  · rename_i h
    have h := of_decide_eq_true (Bool.and_eq_true _ _ ▸ h : mok m = true ∧ rng c 0 = true).2
    (repeat' split) <;> omega
  · omega
theorem plN_bd (m c a : Int) (h : rng c a = true) : 0 ≤ plN m c a ∧ plN m c a ≤ stN m c := by
  have h1 := of_decide_eq_true h
  have h2 : rng c 0 = true := decide_eq_true (by omega)
  unfold plN stN
  rw [h, h2]
  cases mok m
  · simp
  · simp only [Bool.and_true, if_true]
    (repeat' split) <;> omega
set_option maxRecDepth 100000 in
theorem inr_run (c a : Int) (w : World) : Calls Tryd.prog 21 #[.int .i64 c, .int .i64 a] w (Gives (.bool (rng c a)) w) := by
  by_cases h0 : 0 ≤ a
  · by_cases h1 : a ≤ c
    · by_cases h2 : c ≤ 1024
      · have e : rng c a = true := decide_eq_true ⟨h0, h1, h2⟩
        rw [e]
        clear e
        go_enter Tryd.func21, Tryd.ntmps21
        go_wp2
        go_ret
        first | exact ⟨rfl, rfl⟩ | exact ⟨by simp <;> omega, rfl⟩
      · have e : rng c a = false := decide_eq_false (by omega)
        rw [e]
        clear e
        go_enter Tryd.func21, Tryd.ntmps21
        go_wp2
        go_ret
        first | exact ⟨rfl, rfl⟩ | exact ⟨by simp <;> omega, rfl⟩
    · have e : rng c a = false := decide_eq_false (by omega)
      rw [e]
      clear e
      go_enter Tryd.func21, Tryd.ntmps21
      go_wp2
      go_ret
      first | exact ⟨rfl, rfl⟩ | exact ⟨by simp <;> omega, rfl⟩
  · have e : rng c a = false := decide_eq_false (by omega)
    rw [e]
    clear e
    go_enter Tryd.func21, Tryd.ntmps21
    go_wp2
    go_ret
    first | exact ⟨rfl, rfl⟩ | exact ⟨by simp <;> omega, rfl⟩

/-! ### The closures -/
theorem off_stars (c : Int) (w : World) : Calls Tryd.prog 47 #[.int .i64 c] w (Gives (.int .i64 0) w) := by
  go_enter Tryd.func47, Tryd.ntmps47
  go_wp2
  go_ret
  exact ⟨rfl, rfl⟩
theorem off_place (c a : Int) (w : World) : Calls Tryd.prog 48 #[.int .i64 c, .int .i64 a] w (Gives (.int .i64 0) w) := by
  go_enter Tryd.func48, Tryd.ntmps48
  go_wp2
  go_ret
  exact ⟨rfl, rfl⟩
theorem mask_stars (c : Int) (w : World) : Calls Tryd.prog 49 #[.int .i64 c] w (Gives (.int .i64 c) w) := by
  go_enter Tryd.func49, Tryd.ntmps49
  go_wp2
  go_ret
  exact ⟨rfl, rfl⟩
theorem mask_place (c a : Int) (w : World) : Calls Tryd.prog 50 #[.int .i64 c, .int .i64 a] w (Gives (.int .i64 a) w) := by
  go_enter Tryd.func50, Tryd.ntmps50
  go_wp2
  go_ret
  exact ⟨rfl, rfl⟩
theorem fixed_run (c : Int) (w : World) : Calls Tryd.prog 51 #[.int .i64 c] w (Gives (.int .i64 (if 0 < c then 8 else 0)) w) := by
  by_cases h : 0 < c
  · rw [if_pos h]
    go_enter Tryd.func51, Tryd.ntmps51
    go_wp2
    go_ret
    exact ⟨rfl, rfl⟩
  · rw [if_neg h]
    go_enter Tryd.func51, Tryd.ntmps51
    go_wp2
    go_ret
    exact ⟨rfl, rfl⟩
theorem fixed_place (c a : Int) (w : World) : Calls Tryd.prog 52 #[.int .i64 c, .int .i64 a] w (Gives (.int .i64 (if 0 < c then 8 else 0)) w) := by
  have K := Lib.hid (fixed_run c w)
  generalize (if 0 < c then (8 : Int) else 0) = z at *
  go_enter Tryd.func52, Tryd.ntmps52
  go_wp2_with fail
  refine K.out.mono ?_
  rintro _ w1 ⟨rfl, rfl⟩
  go_wp2
  go_ret
  exact ⟨rfl, rfl⟩
/-- A closure that is called with a count. -/
theorem fnA_run {m : Int} (hm : mok m = true) {c : Int} (hc : rng c 0 = true) (w : World) : ∃ f, rowA m = .func (.func f) #[] #[] ∧ (f = 47 ∨ f = 49 ∨ f = 51) ∧ Calls Tryd.prog f #[.int .i64 c] w (Gives (.int .i64 (stN m c)) w) := by
  have h := of_decide_eq_true hm
  have e : stN m c = (if m = 0 then 0 else if m = 1 then c else if 0 < c then 8 else 0) := by unfold stN; rw [hm, hc]; rfl
  rw [e]
  rcases (by omega : m = 0 ∨ m = 1 ∨ m = 2) with rfl | rfl | rfl
  · exact ⟨_, rfl, .inl rfl, off_stars c w⟩
  · exact ⟨_, rfl, .inr (.inl rfl), mask_stars c w⟩
  · exact ⟨_, rfl, .inr (.inr rfl), fixed_run c w⟩
end Go.Proofs.YtjenbhaaahpliaaDoor
