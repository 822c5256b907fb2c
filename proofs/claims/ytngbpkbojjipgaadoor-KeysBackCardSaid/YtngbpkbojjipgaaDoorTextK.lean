/-
  keys.Text.
-/
import Derived.Test.YtngbpkbojjipgaaDoorChk
namespace Go.Proofs.YtngbpkbojjipgaaDoor
open Go.RowKit Go.Lib
set_option linter.unusedVariables false

/-- A key's text, or nothing. -/
def ktxt (k c : Int) : List UInt8 := if chk k c = 0 then ktx k.toNat c.toNat else []
theorem st_nil : st [] = ⟨#[]⟩ := rfl
set_option maxHeartbeats 1000000 in
set_option maxRecDepth 100000 in
theorem text_run (k c : Int) (w : World) (hT : Tabs w) : Calls Tryd.prog 16 #[kv k c] w (Tells (.tuple #[.string (st (ktxt k c)), .int .i64 (chk k c : Int)]) w) := by
  have K : Hid (∀ W, Calls Tryd.prog 22 #[.agg #[.int .i64 k, .int .i64 c]] W (Tells (.int .i64 (chk k c : Int)) W)) := Lib.hid fun W => check_run k c W
  have HT : Aside (Tabs w) := hT
  unfold kv
  by_cases h : chk k c = 0
  · obtain ⟨n, m, rfl, rfl, hn, h0, h1⟩ := chk_zero h
    have e : ktxt (n : Int) (m : Int) = ktx n m := by unfold ktxt; rw [if_pos h]; simp
    rw [e, h]
    rw [h] at K
    clear e h hT
    by_cases g : n = 0
    · subst g
      have hm := (h0 rfl).2
      have KI : Hid (∀ W, Stp [] w [] W → Calls Tryd.prog 27 #[.int .i64 (m : Int)] W (Tells (.string (st (dig 10 m))) W)) := Lib.hid fun W hs => itoa_big m (by omega) W (HT.out.stays hs).pow
      have z1 : (st (kn 0)).size = 4 := by rw [st_size]; rfl
      have e1 : st (kn 0) ++ ⟨#[32]⟩ = st (kn 0 ++ [32]) := st_append (kn 0) [32]
      have z2 : (st (kn 0 ++ [32])).size = 5 := by rw [st_size]; rfl
      have z3 := st_size (dig 10 m)
      have z4 := dig7 hm
      have e2 : st (kn 0 ++ [32]) ++ st (dig 10 m) = st (ktx 0 m) := by
        rw [st_append]
        unfold ktx
        simp
      clear h0 h1 hn
      go_enter Tryd.func16, Tryd.ntmps16
      go_wp2_with fail
      refine (K.out _).mono ?_
      rintro _ w1 ⟨rfl, s1⟩
      have HA := ((At2.new w 0 (m : Int)).stays s1)
      have hlt := HA.lt
      obtain ⟨c0, c1, _, _⟩ := HA.cells
      have HS : Aside (Stp [] w [] w1) := (Stp.alloc [] w _).trans s1
      have kc := ((HT.out.stays HS.out).kin 0 (by omega)).1
      clear HA s1
      generalize st (kn 0) = x0 at *
      generalize st (kn 0 ++ [32]) = x1 at *
      generalize st (dig 10 m) = x2 at *
      generalize (dig 10 m).length = L at *
      generalize st (ktx 0 m) = x3 at *
      go_wp2_with (go_at_call 27; refine (KI.out _ HS.out).mono ?_; rintro _ w2 ⟨rfl, s2⟩)
      go_ret2
      exact ⟨rfl, HS.out.trans s2⟩
    · obtain rfl := h1 g
      clear h0 h1
      have hk : (((n : Nat) : Int) == 0) = false := beq_eq_false_iff_ne.2 (by omega)
      have HV : Aside (st (ktx n 0) = st (kn n)) := by
        show st (ktx n 0) = st (kn n)
        unfold ktx
        rw [if_neg g]
      clear g
      go_enter Tryd.func16, Tryd.ntmps16
      go_wp2_with fail
      refine (K.out _).mono ?_
      rintro _ w1 ⟨rfl, s1⟩
      have HA := ((At2.new w (n : Int) 0).stays s1)
      have hlt := HA.lt
      obtain ⟨c0, c1, _, _⟩ := HA.cells
      have HS : Aside (Stp [] w [] w1) := (Stp.alloc [] w _).trans s1
      have kc := ((HT.out.stays HS.out).kin n hn).1
      rw [Nat.mul_comm] at kc
      clear HA s1
      generalize st (kn n) = x0 at *
      go_wp2
      go_ret2
      exact ⟨by rw [HV.out]; rfl, HS.out⟩
  · have e : ktxt k c = [] := by unfold ktxt; rw [if_neg h]
    have hz : ((chk k c : Int) == 0) = false := beq_eq_false_iff_ne.2 (by omega)
    rw [e, st_nil]
    generalize chk k c = q at *
    clear e h hT
    go_enter Tryd.func16, Tryd.ntmps16
    go_wp2_with (go_at_call 22; refine (K.out _).mono ?_; rintro _ w1 ⟨rfl, s1⟩)
    go_ret2
    exact ⟨rfl, (Stp.alloc _ _ _).trans s1⟩
end Go.Proofs.YtngbpkbojjipgaaDoor
