/-
  keys.control, keys.Of.
-/
import Derived.Test.YthffjcacdcipeaaDoorKChk
import Derived.Test.YthffjcacdcipeaaDoorKnown
import Derived.Maps.OwnSet
import Derived.Maps.OwnOps
namespace Go.Proofs.YthffjcacdcipeaaDoor.K
open Go.RowKit Go.Lib Go.Maps
set_option linter.unusedVariables false

abbrev kI (n : Int) : Lit := .int .i64 n
theorem lawI : Keyed Tryd.prog 3 := int_keyed Tryd.underlying3
theorem zeroI (w : World) : (zeroValue 3).run Tryd.prog w = .ok (.int .i64 0) w := by kernel_rfl
theorem kI_ne {a b : Int} (h : a ≠ b) : kI a ≠ kI b := fun e => h (by simpa [kI] using e)
/-- A map of numbers, the last one that was laid first. -/
def cm : List (Int × Int) → DataW Unit
  | [] => .map []
  | p :: r => (cm r).put (kI p.1) (.lit (.int .i64 p.2))
theorem cm_isMap : ∀ L, IsMap (cm L)
  | [] => ⟨[], rfl⟩
  | p :: r => (cm_isMap r).put _ _
/-- What lies at a number. -/
def cat (c : Int) : List (Int × Int) → Option Int
  | [] => none
  | p :: r => if c = p.1 then some p.2 else cat c r
theorem cm_has (c : Int) : ∀ L, Maps.has (cm L) (kI c) = (cat c L).isSome
  | [] => rfl
  | p :: r => by
    rw [cm, cat]
    by_cases h : c = p.1
    · subst h
      rw [has_put_same (k := kI p.1) (cm_isMap r) (show WideAt.IsKeyLit (kI p.1) from trivial), if_pos rfl]
      rfl
    · rw [has_put_other (kI_ne h), if_neg h, cm_has c r]
theorem cm_at (c : Int) : ∀ L, (cm L).atKey (kI c) (.lit (.int .i64 0)) = .lit (.int .i64 ((cat c L).getD 0))
  | [] => rfl
  | p :: r => by
    rw [cm, cat]
    by_cases h : c = p.1
    · subst h
      rw [atKey_put_same (k := kI p.1) (cm_isMap r) (show WideAt.IsKeyLit (kI p.1) from trivial), if_pos rfl]
      rfl
    · rw [atKey_put_other (kI_ne h), if_neg h, cm_at c r]
def cks : List (Int × Int) := [(127, 2), (21, 8), (13, 1), (12, 10), (11, 9), (10, 1), (8, 2), (6, 5), (5, 7), (4, 12), (3, 11), (2, 4), (1, 6)]
theorem cat_kof (c : Int) : (cat c cks = none ∧ kof c = 15) ∨ (cat c cks = some (kof c : Int) ∧ kof c ≠ 15) := by
  by_cases h : c = 1 ∨ c = 2 ∨ c = 3 ∨ c = 4 ∨ c = 5 ∨ c = 6 ∨ c = 8 ∨ c = 10 ∨ c = 11 ∨ c = 12 ∨ c = 13 ∨ c = 21 ∨ c = 127
  · refine .inr ?_
    rcases h with rfl | rfl | rfl | rfl | rfl | rfl | rfl | rfl | rfl | rfl | rfl | rfl | rfl
    all_goals exact ⟨rfl, by decide⟩
  · refine .inl ?_
    simp only [not_or] at h
    obtain ⟨h0, h1, h2, h3, h4, h5, h6, h7, h8, h9, h10, h11, h12⟩ := h
    constructor
    · unfold cks cat
      simp only [cat, h0, h1, h2, h3, h4, h5, h6, h7, h8, h9, h10, h11, h12, if_false]
    · unfold kof
      simp only [h0, h1, h2, h3, h4, h5, h6, h7, h8, h9, h10, h11, h12, if_false]
def OM (w : World) (b n : Nat) (D : DataW Unit) : Prop := w.ownsMap Tryd.prog 3 (plainElem Tryd.prog 3) b n D
theorem Stp.of_grownM {W W' : World} {b : Nat} (h : W.grownBy W' (some b)) : Stp [b] W [b] W' := Stp.of_grown h (fun k e => by simpa using e.symm) (fun k hk => .inl hk)
def Ctl (w : World) (e : Ending) (w' : World) : Prop := ∃ b, e = .returned (.map (some b)) ∧ OM w' b 13 (cm cks) ∧ Stp [] w [] w'

/-- One more is laid. -/
theorem OM.put {w : World} {b n : Nat} {L : List (Int × Int)} (h : OM w b n (cm L)) (hn : n ≤ 100) (k v : Int) (hk : (Lit.int .i64 k).wf = true) (hv : (Lit.int .i64 v).wf = true) :
    ∃ w', (Instr.mapUpdate 87 (.map (some b)) (.int .i64 k) (.int .i64 v)).run Tryd.prog w = .ok () w' ∧ OM w' b (n + 1) (cm ((k, v) :: L)) ∧ Stp [b] w [b] w' := by
  obtain ⟨w', hrun, r1, r2⟩ := World.ownsMap.update h lawI Tryd.underlying87 (by unfold maxLen; omega) (keyOf_int_mk Tryd.underlying3 hk) (plainElem_int Tryd.underlying3 hv)
  exact ⟨w', hrun, r1, Stp.of_grownM r2⟩
theorem OM.look {w : World} {b n : Nat} {L : List (Int × Int)} (h : OM w b n (cm L)) (c : Int) (hc : (Lit.int .i64 c).wf = true) :
    (Instr.lookup 87 (.map (some b)) (.int .i64 c) true).run Tryd.prog w = .ok (.tuple #[.int .i64 ((cat c L).getD 0), .bool (cat c L).isSome]) w := by
  obtain ⟨v, ps, hrun, hv⟩ := World.ownsMap.look_ok h lawI Tryd.underlying87 (zeroI w) (plainElem_int Tryd.underlying3 (by decide)) (keyOf_int_mk Tryd.underlying3 hc)
  rw [show (Lit.int IntKind.i64 c) = kI c from rfl, cm_at] at hv
  rw [show (Lit.int IntKind.i64 c) = kI c from rfl, cm_has] at hrun
  obtain ⟨a, rfl, he, _⟩ := plainElem_int_inv Tryd.underlying3 hv
  simp only [Prod.mk.injEq, DataW.lit.injEq, Lit.int.injEq, true_and] at he
  rw [hrun, he.1]
set_option maxHeartbeats 1000000 in
set_option maxRecDepth 100000 in
theorem control_run (w : World) : Calls Tryd.prog 51 #[] w (Ctl w) := by
  have hmm := @run_makeMap Tryd.prog
  have o0 : OM (w.alloc (.map #[] 0)) w.heap.size 0 (cm []) := World.ownsMap_made w Tryd.prog 3 _
  have s0 : Stp [] w [w.heap.size] (w.alloc (.map #[] 0)) := (Stp.alloc [] w _).fresh (Stp.refl [w.heap.size] _) (by simp)
  obtain ⟨w1, e1, o1, q1⟩ := o0.put (by omega) 1 6 (by decide) (by decide)
  have s1 := s0.trans q1
  clear o0 s0 q1
  obtain ⟨w2, e2, o2, q2⟩ := o1.put (by omega) 2 4 (by decide) (by decide)
  have s2 := s1.trans q2
  clear o1 s1 q2
  obtain ⟨w3, e3, o3, q3⟩ := o2.put (by omega) 3 11 (by decide) (by decide)
  have s3 := s2.trans q3
  clear o2 s2 q3
  obtain ⟨w4, e4, o4, q4⟩ := o3.put (by omega) 4 12 (by decide) (by decide)
  have s4 := s3.trans q4
  clear o3 s3 q4
  obtain ⟨w5, e5, o5, q5⟩ := o4.put (by omega) 5 7 (by decide) (by decide)
  have s5 := s4.trans q5
  clear o4 s4 q5
  obtain ⟨w6, e6, o6, q6⟩ := o5.put (by omega) 6 5 (by decide) (by decide)
  have s6 := s5.trans q6
  clear o5 s5 q6
  obtain ⟨w7, e7, o7, q7⟩ := o6.put (by omega) 8 2 (by decide) (by decide)
  have s7 := s6.trans q7
  clear o6 s6 q7
  obtain ⟨w8, e8, o8, q8⟩ := o7.put (by omega) 10 1 (by decide) (by decide)
  have s8 := s7.trans q8
  clear o7 s7 q8
  obtain ⟨w9, e9, o9, q9⟩ := o8.put (by omega) 11 9 (by decide) (by decide)
  have s9 := s8.trans q9
  clear o8 s8 q9
  obtain ⟨w10, e10, o10, q10⟩ := o9.put (by omega) 12 10 (by decide) (by decide)
  have s10 := s9.trans q10
  clear o9 s9 q10
  obtain ⟨w11, e11, o11, q11⟩ := o10.put (by omega) 13 1 (by decide) (by decide)
  have s11 := s10.trans q11
  clear o10 s10 q11
  obtain ⟨w12, e12, o12, q12⟩ := o11.put (by omega) 21 8 (by decide) (by decide)
  have s12 := s11.trans q12
  clear o11 s11 q12
  obtain ⟨w13, e13, o13, q13⟩ := o12.put (by omega) 127 2 (by decide) (by decide)
  have s13 := s12.trans q13
  clear o12 s12 q13
  have HO : Aside (OM w13 w.heap.size 13 (cm cks) ∧ Stp [] w [w.heap.size] w13) := ⟨o13, s13⟩
  clear o13 s13
  go_enter Tryd.func51, Tryd.ntmps51
  go_wp2
  go_ret
  exact ⟨_, rfl, HO.out.1, HO.out.2.none⟩
/-- The key of a number. -/
def ofk (c : Int) : Int × Int := if shown c then (0, c) else ((kof c : Int), 0)
set_option maxHeartbeats 1000000 in
set_option maxRecDepth 100000 in
theorem of_run (c : Int) (hc : (Lit.int .i64 c).wf = true) (w : World) : Calls Tryd.prog 39 #[.int .i64 c] w (Tells (kv (ofk c).1 (ofk c).2) w) := by
  have K := Lib.hid (fun W => pr_run c W)
  cases hs : shown c with
  | true =>
    have e : ofk c = (0, c) := by unfold ofk; rw [hs]; rfl
    rw [e]
    rw [hs] at K
    clear e hs
    unfold kv
    go_enter Tryd.func39, Tryd.ntmps39
    go_wp2_with (go_at_call 50; refine (K.out _).mono ?_; rintro _ w1 ⟨rfl, rfl⟩)
    refine bodyPost_ret (res_key rfl _ _ w.heap.size 0 c rfl (heap_alloc_new w _)) rfl ?_
    exact ⟨rfl, Stp.alloc _ _ _⟩
  | false =>
    have e : ofk c = ((kof c : Int), 0) := by unfold ofk; rw [hs]; rfl
    rw [e]
    rw [hs] at K
    clear e hs
    unfold kv
    have KC := Lib.hid control_run
    have HN : Aside ((cat c cks = none ∧ kof c = 15) ∨ (cat c cks = some (kof c : Int) ∧ kof c ≠ 15)) := cat_kof c
    have HC : Aside ((Lit.int .i64 c).wf = true) := hc
    clear hc
    go_enter Tryd.func39, Tryd.ntmps39
    go_wp2_with fail
    refine (K.out _).mono ?_
    rintro _ w1 ⟨rfl, rfl⟩
    go_wp2_with fail
    refine (KC.out _).mono ?_
    rintro _ w2 ⟨b, rfl, o2, s2⟩
    have hl := o2.look c HC.out
    have hA := (At2.new w 0 0).stays s2
    have hlt := hA.lt
    obtain ⟨c0, c1, f0, f1⟩ := hA.cells
    have HA : Aside (At2 w2 w.heap.size 0 0 ∧ Stp [] w [] w2) := ⟨hA, (Stp.alloc [] w _).trans s2⟩
    clear o2 s2 hA
    rcases HN.out with ⟨e1, e2⟩ | ⟨e1, e2⟩
    · rw [e1] at hl
      simp only [Option.getD_none, Option.isSome_none] at hl
      have HE : Aside (kof c = 15) := e2
      clear e1 e2 HN
      go_wp2
      refine bodyPost_ret (res_key rfl _ _ w.heap.size 15 0 rfl (HA.out.1.set 15 0)) rfl ?_
      exact ⟨by rw [HE.out]; rfl, (HA.out.2.fresh (At2.stp _ _ _ _) (by simp)).none⟩
    · rw [e1] at hl
      simp only [Option.getD_some, Option.isSome_some] at hl
      clear e1 e2 HN
      generalize ((kof c : Nat) : Int) = z at *
      go_wp2
      refine bodyPost_ret (res_key rfl _ _ w.heap.size z 0 rfl (HA.out.1.set z 0)) rfl ?_
      exact ⟨rfl, (HA.out.2.fresh (At2.stp _ _ _ _) (by simp)).none⟩
end Go.Proofs.YthffjcacdcipeaaDoor.K
