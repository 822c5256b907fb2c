/-
  escseq.known: the map of the sequences that are keys.
-/
import Derived.Test.YtdaenaoagejgeaaGreatDoorOwn
import Derived.Maps.OwnSet
import Derived.Maps.OwnOps
import Derived.StringKeys
import Derived.Sort.KeysCollected
namespace Go.Proofs.YtdaenaoagejgeaaGreatDoor
open Go.RowKit Go.Lib Go.Maps
set_option linter.unusedVariables false

abbrev kS (s : List UInt8) : Lit := .string s
theorem lawS : Keyed Tryz.prog 9 := string_keyed Tryz.underlying9
theorem zeroI (w : World) : (zeroValue 3).run Tryz.prog w = .ok (.int .i64 0) w := by kernel_rfl
theorem kS_ne {a b : List UInt8} (h : a ≠ b) : kS a ≠ kS b := fun e => h (by simpa [kS] using e)
/-- A map of texts, the last one that was laid first. -/
def cm : List (List UInt8 × Int) → DataW Unit
  | [] => .map []
  | p :: r => (cm r).put (kS p.1) (.lit (.int .i64 p.2))
theorem cm_isMap : ∀ L, IsMap (cm L)
  | [] => ⟨[], rfl⟩
  | p :: r => (cm_isMap r).put _ _
theorem cm_has (c : List UInt8) : ∀ L, Maps.has (cm L) (kS c) = (kat c L).isSome
  | [] => rfl
  | p :: r => by
    rw [cm, kat]
    by_cases h : c = p.1
    · subst h
      rw [has_put_same (k := kS p.1) (cm_isMap r) (show WideAt.IsKeyLit (kS p.1) from trivial), if_pos rfl]
      rfl
    · rw [has_put_other (kS_ne h), if_neg h, cm_has c r]
theorem cm_at (c : List UInt8) : ∀ L, (cm L).atKey (kS c) (.lit (.int .i64 0)) = .lit (.int .i64 ((kat c L).getD 0))
  | [] => rfl
  | p :: r => by
    rw [cm, kat]
    by_cases h : c = p.1
    · subst h
      rw [atKey_put_same (k := kS p.1) (cm_isMap r) (show WideAt.IsKeyLit (kS p.1) from trivial), if_pos rfl]
      rfl
    · rw [atKey_put_other (kS_ne h), if_neg h, cm_at c r]
def OM (w : World) (b n : Nat) (D : DataW Unit) : Prop := w.ownsMap Tryz.prog 9 (plainElem Tryz.prog 3) b n D
theorem Stp.of_grown {W W' : World} {k : Option Nat} {F G : List Nat} (h : W.grownBy W' k) (hF : ∀ i, k = some i → i ∈ F) (hG : ∀ i ∈ G, i ∈ F ∨ W.heap.size ≤ i) : Stp F W G W' :=
  ⟨h.os, h.tape, h.output, h.size, fun i hi hn => h.block i hi (fun e => hn (hF i e.symm)), hG⟩
theorem Stp.of_grownM {W W' : World} {b : Nat} (h : W.grownBy W' (some b)) : Stp [b] W [b] W' := Stp.of_grown h (fun k e => by simpa using e.symm) (fun k hk => .inl hk)
def Ctl (w : World) (e : Ending) (w' : World) : Prop := ∃ b, e = .returned (.map (some b)) ∧ OM w' b 15 (cm kns) ∧ Stp [] w [] w'
/-- One more is laid. -/
theorem OM.put {w : World} {b n : Nat} {L : List (List UInt8 × Int)} (h : OM w b n (cm L)) (hn : n ≤ 100) (k : List UInt8) (v : Int) (hk : k.length ≤ 100) (hv : (Lit.int .i64 v).wf = true) :
    ∃ w', (Instr.mapUpdate 118 (.map (some b)) (.string ⟨k.toArray⟩) (.int .i64 v)).run Tryz.prog w = .ok () w' ∧ OM w' b (n + 1) (cm ((k, v) :: L)) ∧ Stp [b] w [b] w' := by
  obtain ⟨w', hrun, r1, r2⟩ := World.ownsMap.update h lawS Tryz.underlying118 (by unfold maxLen; omega) (Go.WideMaps.keyOf_string_mk Tryz.underlying9 (s := ⟨k.toArray⟩) (by simp only [ByteArray.size, List.size_toArray]; unfold maxLen; omega)) (plainElem_int Tryz.underlying3 hv)
  exact ⟨w', hrun, r1, Stp.of_grownM r2⟩
theorem OM.look {w : World} {b n : Nat} {L : List (List UInt8 × Int)} (h : OM w b n (cm L)) (c : List UInt8) (hc : c.length ≤ 1000000) :
    (Instr.lookup 118 (.map (some b)) (.string (st c)) true).run Tryz.prog w = .ok (.tuple #[.int .i64 ((kat c L).getD 0), .bool (kat c L).isSome]) w := by
  have hk := Go.WideMaps.keyOf_string_mk (P := Tryz.prog) Tryz.underlying9 (s := st c) (by rw [st_size]; unfold maxLen; omega)
  rw [st_data] at hk
  obtain ⟨v, ps, hrun, hv⟩ := World.ownsMap.look_ok h lawS Tryz.underlying118 (zeroI w) (plainElem_int Tryz.underlying3 (by decide)) hk
  rw [show (Lit.string c) = kS c from rfl, cm_at] at hv
  rw [show (Lit.string c) = kS c from rfl, cm_has] at hrun
  obtain ⟨a, rfl, he, _⟩ := plainElem_int_inv Tryz.underlying3 hv
  simp only [Prod.mk.injEq, DataW.lit.injEq, Lit.int.injEq, true_and] at he
  rw [hrun, he.1]
set_option maxHeartbeats 1000000 in
set_option maxRecDepth 100000 in
theorem known_run (w : World) : Calls Tryz.prog 70 #[] w (Ctl w) := by
  have hmm := @run_makeMap Tryz.prog
  have o0 : OM (w.alloc (.map #[] 0)) w.heap.size 0 (cm []) := World.ownsMap_made w Tryz.prog 9 _
  have s0 : Stp [] w [w.heap.size] (w.alloc (.map #[] 0)) := (Stp.alloc [] w _).fresh (Stp.refl [w.heap.size] _) (by simp)
  obtain ⟨w1, e1, o1, q1⟩ := o0.put (by omega) [27, 91, 67] 5 (by decide) (by decide)
  have s1 := s0.trans q1
  clear o0 s0 q1
  obtain ⟨w2, e2, o2, q2⟩ := o1.put (by omega) [27, 79, 67] 5 (by decide) (by decide)
  have s2 := s1.trans q2
  clear o1 s1 q2
  obtain ⟨w3, e3, o3, q3⟩ := o2.put (by omega) [27, 91, 68] 4 (by decide) (by decide)
  have s3 := s2.trans q3
  clear o2 s2 q3
  obtain ⟨w4, e4, o4, q4⟩ := o3.put (by omega) [27, 79, 68] 4 (by decide) (by decide)
  have s4 := s3.trans q4
  clear o3 s3 q4
  obtain ⟨w5, e5, o5, q5⟩ := o4.put (by omega) [27, 91, 72] 6 (by decide) (by decide)
  have s5 := s4.trans q5
  clear o4 s4 q5
  obtain ⟨w6, e6, o6, q6⟩ := o5.put (by omega) [27, 79, 72] 6 (by decide) (by decide)
  have s6 := s5.trans q6
  clear o5 s5 q6
  obtain ⟨w7, e7, o7, q7⟩ := o6.put (by omega) [27, 91, 49, 126] 6 (by decide) (by decide)
  have s7 := s6.trans q7
  clear o6 s6 q7
  obtain ⟨w8, e8, o8, q8⟩ := o7.put (by omega) [27, 91, 55, 126] 6 (by decide) (by decide)
  have s8 := s7.trans q8
  clear o7 s7 q8
  obtain ⟨w9, e9, o9, q9⟩ := o8.put (by omega) [27, 91, 70] 7 (by decide) (by decide)
  have s9 := s8.trans q9
  clear o8 s8 q9
  obtain ⟨w10, e10, o10, q10⟩ := o9.put (by omega) [27, 79, 70] 7 (by decide) (by decide)
  have s10 := s9.trans q10
  clear o9 s9 q10
  obtain ⟨w11, e11, o11, q11⟩ := o10.put (by omega) [27, 91, 52, 126] 7 (by decide) (by decide)
  have s11 := s10.trans q11
  clear o10 s10 q11
  obtain ⟨w12, e12, o12, q12⟩ := o11.put (by omega) [27, 91, 56, 126] 7 (by decide) (by decide)
  have s12 := s11.trans q12
  clear o11 s11 q12
  obtain ⟨w13, e13, o13, q13⟩ := o12.put (by omega) [27, 91, 51, 126] 3 (by decide) (by decide)
  have s13 := s12.trans q13
  clear o12 s12 q13
  obtain ⟨w14, e14, o14, q14⟩ := o13.put (by omega) [27, 91, 50, 48, 48, 126] 13 (by decide) (by decide)
  have s14 := s13.trans q14
  clear o13 s13 q14
  obtain ⟨w15, e15, o15, q15⟩ := o14.put (by omega) [27, 91, 50, 48, 49, 126] 14 (by decide) (by decide)
  have s15 := s14.trans q15
  clear o14 s14 q15
  have HO : Aside (OM w15 w.heap.size 15 (cm kns) ∧ Stp [] w [w.heap.size] w15) := ⟨o15, s15⟩
  clear o15 s15
  go_enter Tryz.func70, Tryz.ntmps70
  go_wp2
  go_ret
  exact ⟨_, rfl, HO.out.1, HO.out.2.none⟩
end Go.Proofs.YtdaenaoagejgeaaGreatDoor
