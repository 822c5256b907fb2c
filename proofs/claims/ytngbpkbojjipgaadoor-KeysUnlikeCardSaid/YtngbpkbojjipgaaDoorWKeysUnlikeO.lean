/-
  Two keys that may be have the same text just if they are the same; so have what they are told by: the walk.
-/
import Derived.Test.YtngbpkbojjipgaaDoorAlive
import Derived.Deep.RegionHeld
namespace Go.Proofs.YtngbpkbojjipgaaDoor
open Go.RowKit Go.Lib
set_option linter.unusedVariables false

/-- What the four texts come to. -/
structure Unl (k c k' c' : Nat) (b : Bool) : Prop where
  x : ((st (ktx k c)).toList == (st (ktx k' c')).toList) = b
  y : ((st (kb k c)).toList == (st (kb k' c')).toList) = b
theorem unl_yes (k c : Nat) : Unl k c k c true := ⟨st_yes rfl, st_yes rfl⟩
theorem unl_no {k c k' c' : Nat} (h : chk (k : Int) (c : Int) = 0) (h' : chk (k' : Int) (c' : Int) = 0) (hne : ¬ (k = k' ∧ c = c')) : Unl k c k' c' false :=
  ⟨st_no (fun e => hne (ktx_inj h h' (st_inj e))), st_no (fun e => hne (kb_inj h h' (st_inj e)))⟩

set_option maxHeartbeats 1000000 in
set_option maxRecDepth 100000 in
theorem unlike_bad (k c k' c' : Int) (w : World) (hb : chk k c ≠ 0 ∨ chk k' c' ≠ 0) (hT : Tabs w) : Calls Tryd.prog 7 #[kv k c, kv k' c'] w (Truth w) := by
  have HT : Aside (Tabs w) := hT
  have KA : Hid (∀ W, Stp [] w [] W → Calls Tryd.prog 11 #[] W (Tells (.bool true) W)) := Lib.hid fun W hs => alive_run W (HT.out.stays hs)
  have KT : Hid (∀ W (k c : Int), Stp [] w [] W → Calls Tryd.prog 16 #[.agg #[.int .i64 k, .int .i64 c]] W (Tells (.tuple #[.string (st (ktxt k c)), .int .i64 (chk k c : Int)]) W)) := Lib.hid fun W k c hs => text_run k c W (HT.out.stays hs)
  have Ka := Lib.hid (fun W => KT.out W k c)
  have Kb := Lib.hid (fun W => KT.out W k' c')
  clear KT
  generalize ktxt k c = s at *
  generalize ktxt k' c' = t at *
  generalize chk k c = e at *
  generalize chk k' c' = f at *
  unfold kv
  clear hT
  by_cases h1 : e = 0
  · have h2 : f ≠ 0 := by omega
    subst h1
    have z2 : (((f : Nat) : Int) == 0) = false := beq_eq_false_iff_ne.2 (by omega)
    have z3 : (((f : Nat) : Int) != 0) = true := by simp [bne, z2]
    clear hb h2
    generalize ((f : Nat) : Int) = q at *
    go_enter Tryd.func7, Tryd.ntmps7
    go_wp2_with fail
    refine (Ka.out _ ((Stp.alloc [] w _).trans (Stp.alloc [] _ _))).mono ?_
    rintro _ w1 ⟨rfl, h1⟩
    have HS1 : Aside (At2 w1 (w.heap.size + 1) k' c' ∧ Stp [] w [] w1) := ⟨At2.stays (heap_alloc2_new w _ _) h1, ((Stp.alloc [] w _).trans (Stp.alloc [] _ _)).trans h1⟩
    clear h1
    obtain ⟨c0, c1, _, _⟩ := HS1.out.1.cells
    have hlt := HS1.out.1.lt
    go_wp2_with fail
    refine (Kb.out _ HS1.out.2).mono ?_
    rintro _ w2 ⟨rfl, h2⟩
    have hcur : Aside (Stp [] w [] w2) := HS1.out.2.trans h2
    clear h2 HS1 c0 c1 hlt
    go_wp2_with (go_at_call 11; refine (KA.out _ hcur.out).mono ?_; rintro _ w3 ⟨rfl, h3⟩)
    go_ret
    exact ⟨rfl, (hcur.out.trans h3).under⟩
  · have z2 : (((e : Nat) : Int) == 0) = false := beq_eq_false_iff_ne.2 (by omega)
    have z3 : (((e : Nat) : Int) != 0) = true := by simp [bne, z2]
    clear hb h1
    generalize ((e : Nat) : Int) = q at *
    generalize ((f : Nat) : Int) = q2 at *
    go_enter Tryd.func7, Tryd.ntmps7
    go_wp2_with fail
    refine (Ka.out _ ((Stp.alloc [] w _).trans (Stp.alloc [] _ _))).mono ?_
    rintro _ w1 ⟨rfl, h1⟩
    have HS1 : Aside (At2 w1 (w.heap.size + 1) k' c' ∧ Stp [] w [] w1) := ⟨At2.stays (heap_alloc2_new w _ _) h1, ((Stp.alloc [] w _).trans (Stp.alloc [] _ _)).trans h1⟩
    clear h1
    obtain ⟨c0, c1, _, _⟩ := HS1.out.1.cells
    have hlt := HS1.out.1.lt
    go_wp2_with fail
    refine (Kb.out _ HS1.out.2).mono ?_
    rintro _ w2 ⟨rfl, h2⟩
    have hcur : Aside (Stp [] w [] w2) := HS1.out.2.trans h2
    clear h2 HS1 c0 c1 hlt
    go_wp2_with (go_at_call 11; refine (KA.out _ hcur.out).mono ?_; rintro _ w3 ⟨rfl, h3⟩)
    go_ret
    exact ⟨rfl, (hcur.out.trans h3).under⟩
end Go.Proofs.YtngbpkbojjipgaaDoor
