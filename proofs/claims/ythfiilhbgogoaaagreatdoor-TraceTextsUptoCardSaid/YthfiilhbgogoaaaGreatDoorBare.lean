/-
  trace.same of an effect and a bare one of its kind.
-/
import Derived.Test.YthfiilhbgogoaaaGreatDoorPut
import Derived.Test.YthfiilhbgogoaaaGreatDoorSame
namespace Go.Proofs.YthfiilhbgogoaaaGreatDoor
open Go.RowKit Go.Lib
set_option linter.unusedVariables false

/-- Is nothing left but the kind? -/
def bare (x : Ev) : Bool := decide (x.f = 0 ∧ x.m = 0 ∧ x.t = 0 ∧ x.l = [] ∧ x.n = 0 ∧ x.ok = false)
theorem equal_nil (a : Option Addr) (c : Nat) (l : List UInt8) (w : World) (h : Bts w a l) : Calls Tryz.prog 41 #[.slice a l.length c, .slice none 0 0] w (Gives (.bool (decide (l = []))) w) := by
  refine (Tryz.bytes_Equal_strs _ _ (st l) (st []) w (conv_bts c _ h rfl) (conv_bts 0 0 (Bts.nil w none) rfl)).mono ?_
  rintro e w' ⟨rfl, rfl⟩
  refine ⟨?_, rfl⟩
  by_cases e : l = []
  · subst e
    rw [st_yes rfl]
    rfl
  · rw [st_no (fun h => e (st_inj h)), decide_eq_false e]
set_option maxHeartbeats 1000000 in
set_option maxRecDepth 100000 in
theorem same_bare (x : Ev) (w : World) (h : Bts w x.a x.l) :
    Calls Tryz.prog 26 #[.agg #[.int .i64 x.k, .int .u32 (x.f : Int), .int .u8 (x.m : Int), .int .u8 (x.t : Int), .slice x.a x.l.length x.c, .int .i64 x.n, .bool x.ok], .agg #[.int .i64 x.k, .int .u32 0, .int .u8 0, .int .u8 0, .slice none 0 0, .int .i64 0, .bool false]] w (Tells (.bool (bare x)) w) := by
  have KE : Hid (∀ W, Stp [] w [] W → Calls Tryz.prog 41 #[.slice x.a x.l.length x.c, .slice none 0 0] W (Gives (.bool (decide (x.l = []))) W)) := Lib.hid fun W hs => equal_nil x.a x.c x.l W (h.stays hs)
  clear h
  by_cases hA : x.f = 0 ∧ x.m = 0 ∧ x.t = 0
  · obtain ⟨a1, a2, a3⟩ := hA
    by_cases hl : x.l = []
    · rw [decide_eq_true hl] at KE
      have HB : Aside (bare x = (decide (x.n = 0) && !x.ok)) := by
        show bare x = _
        unfold bare
        cases x.ok <;> simp [a1, a2, a3, hl]
      rw [a1, a2, a3]
      have z0 : ((0 : Nat) : Int) = 0 := rfl
      rw [z0]
      clear a1 a2 a3 hl
      by_cases hn : x.n = 0
      · have hnb : (x.n == 0) = true := by rw [hn]; rfl
        go_enter Tryz.func26, Tryz.ntmps26
        go_wp2_with fail
        refine (KE.out _ ((Stp.alloc [] _ _).trans (Stp.alloc [] _ _))).mono ?_
        rintro _ w1 ⟨rfl, hw⟩
        have HS : Aside (Stp [] w [] w1) := by rw [hw]; exact (Stp.alloc [] _ _).trans (Stp.alloc [] _ _)
        subst hw
        go_wp2
        go_ret
        exact ⟨by rw [HB.out, decide_eq_true hn]; cases x.ok <;> rfl, HS.out⟩
      · have hnb : (x.n == 0) = false := beq_eq_false_iff_ne.2 hn
        go_enter Tryz.func26, Tryz.ntmps26
        go_wp2_with fail
        refine (KE.out _ ((Stp.alloc [] _ _).trans (Stp.alloc [] _ _))).mono ?_
        rintro _ w1 ⟨rfl, hw⟩
        have HS : Aside (Stp [] w [] w1) := by rw [hw]; exact (Stp.alloc [] _ _).trans (Stp.alloc [] _ _)
        subst hw
        go_wp2
        go_ret
        exact ⟨by rw [HB.out, decide_eq_false hn]; rfl, HS.out⟩
    · rw [decide_eq_false hl] at KE
      have HB : Aside (bare x = false) := by
        show bare x = false
        unfold bare
        simp [hl]
      rw [a1, a2, a3]
      have z0 : ((0 : Nat) : Int) = 0 := rfl
      rw [z0]
      clear a1 a2 a3 hl
      go_enter Tryz.func26, Tryz.ntmps26
      go_wp2_with fail
      refine (KE.out _ ((Stp.alloc [] _ _).trans (Stp.alloc [] _ _))).mono ?_
      rintro _ w1 ⟨rfl, hw⟩
      have HS : Aside (Stp [] w [] w1) := by rw [hw]; exact (Stp.alloc [] _ _).trans (Stp.alloc [] _ _)
      subst hw
      go_wp2
      go_ret
      exact ⟨by rw [HB.out]; rfl, HS.out⟩
  · have HB : Aside (bare x = false) := by
      show bare x = false
      unfold bare
      refine decide_eq_false fun h => hA ⟨h.1, h.2.1, h.2.2.1⟩
    have hA' : ¬ (x.f : Int) = 0 ∨ ¬ (x.m : Int) = 0 ∨ ¬ (x.t : Int) = 0 := by omega
    clear hA KE
    rcases hA' with h1 | h1 | h1
    all_goals
      have h1b := beq_eq_false_iff_ne.2 h1
      go_enter Tryz.func26, Tryz.ntmps26
      go_wp2
      go_ret
      exact ⟨by rw [HB.out]; rfl, (Stp.alloc [] _ _).trans (Stp.alloc [] _ _)⟩
end Go.Proofs.YthfiilhbgogoaaaGreatDoor
