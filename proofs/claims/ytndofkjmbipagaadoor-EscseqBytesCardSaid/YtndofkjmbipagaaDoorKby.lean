/-
  The kinds' table while a call runs; keys.check and keys.Bytes at the sixteen kinds.
-/
import Derived.Test.YtndofkjmbipagaaDoorAliveE
import Derived.Test.YtndofkjmbipagaaDoorRows
import Derived.ProofKit
import Derived.OpenShut
import Derived.Lib.LaidTab
import Derived.LaidMore
import Derived.Deep.DeepHandedRow
namespace Go.Proofs.YtndofkjmbipagaaDoor
open Go.ChangeShapes Go.WideShapes Go.ChangeAt Go.RowKit Go.Lib
set_option linter.unusedVariables false

def knmL : List (List UInt8) := [[114, 117, 110, 101], [101, 110, 116, 101, 114], [98, 97, 99, 107], [100, 101, 108, 101, 116, 101], [108, 101, 102, 116], [114, 105, 103, 104, 116], [104, 111, 109, 101], [108, 97, 115, 116], [107, 105, 108, 108, 115, 116, 97, 114, 116], [107, 105, 108, 108, 101, 110, 100], [114, 101, 100, 114, 97, 119], [99, 97, 110, 99, 101, 108], [101, 111, 102], [112, 97, 115, 116, 101, 115, 116, 97, 114, 116], [112, 97, 115, 116, 101, 101, 110, 100], [105, 103, 110, 111, 114, 101, 100]]
def ktdL : List (List UInt8) := [[], [13], [127], [27, 91, 51, 126], [2], [6], [1], [5], [21], [11], [12], [3], [4], [27, 91, 50, 48, 48, 126], [27, 91, 50, 48, 49, 126], [0]]
def knm (i : Nat) : List UInt8 := (knmL[i]?).getD []
/-- What a kind's key is told by. -/
def ktd (i : Nat) : List UInt8 := (ktdL[i]?).getD []
def Kinds (w : World) : Prop := ∀ i, i < 16 → w.cell? ⟨0, 2 * i, none⟩ = some (.string (st (knm i))) ∧ w.cell? ⟨0, 2 * i + 1, none⟩ = some (.string (st (ktd i)))
theorem Kinds.stays {w w' : World} {F : List Nat} (h : Kinds w) (hs : Stp [] w F w') : Kinds w' := fun i hi => ⟨hs.keeps rfl (h i hi).1, hs.keeps rfl (h i hi).2⟩
theorem gNam : Tryd.prog.globalNamed "whisperer/keys.kinds" = some 0 := by kernel_rfl
theorem tNam : (Tryd.prog.globals[0]?).map (·.type) = some 35 := by kernel_rfl
theorem cStr : Tryd.prog.cellsOf 9 = 1 := by kernel_rfl
theorem cRow : Tryd.prog.cellsOf 34 = 2 := by kernel_rfl
def namDatum : DataW Unit := .agg ((List.range 16).map fun i => .agg [.lit (.string (knm i)), .lit (.string (ktd i))])
theorem nam_eq : (Rows.laid_whisperer_keys_kinds : DataW Unit) = namDatum := by kernel_rfl
theorem nam_of {W : World} {cs : Array Value} {f : Nat} {p : List MemPlace} (hv : W.var? Tryd.prog "whisperer/keys.kinds" = some cs)
    (hd : DataW.trod (fun _ => ()) Tryd.prog W 0 (fun _ => true) false f 35 cs.toList = some (namDatum, p)) :
    ∀ i, i < 16 → W.cell? ⟨0, 2 * i, none⟩ = some (.string (st (knm i))) ∧ W.cell? ⟨0, 2 * i + 1, none⟩ = some (.string (st (ktd i))) := by
  intro i hi
  obtain ⟨xs, m, _, hx, _, hxl, hel⟩ := DataW.trod_array Tryd.underlying35 hd
  have hxs : xs.map (·.1) = (List.range 16).map fun i => (.agg [.lit (.string (knm i)), .lit (.string (ktd i))] : DataW Unit) := by
    have := congrArg Prod.fst hx
    simpa [namDatum] using this.symm
  have h1 := hel i hi
  obtain ⟨y, hy⟩ : ∃ y, xs[i]? = some y := ⟨xs[i]'(by omega), List.getElem?_eq_getElem (by omega)⟩
  have hy1 : y.1 = .agg [.lit (.string (knm i)), .lit (.string (ktd i))] := by
    have := congrArg (·[i]?) hxs
    simpa [hy, hi] using this
  rw [hy, cRow] at h1
  obtain ⟨y0, y1, n, e, _, e0, e1⟩ := trod_struct2 Tryd.underlying34 h1
  obtain ⟨s0, k0, r0, _⟩ := DataW.trod_string Tryd.underlying9 e0
  obtain ⟨s1, k1, r1, _⟩ := DataW.trod_string Tryd.underlying9 e1
  subst r0
  subst r1
  rw [e] at hy1
  simp only [DataW.agg.injEq, List.cons.injEq, DataW.lit.injEq, Lit.string.injEq, and_true] at hy1
  obtain ⟨hs0, hs1⟩ := hy1
  rw [cStr] at k0 k1
  have g0 := congrArg (·[0]?) k0
  have g1 := congrArg (·[0]?) k1
  simp [List.getElem?_drop] at g0 g1
  rw [World.var?_cell gNam hv, World.var?_cell gNam hv, Nat.mul_comm 2 i]
  refine ⟨?_, ?_⟩
  · rw [g0, ← hs0, st_of]
  · rw [g1, ← hs1, st_of]
theorem kinds_of_laid {W : World} (h : laidMetH Tryd.prog [("whisperer/keys.kinds", Rows.laid_whisperer_keys_kinds)] W) : Kinds W := by
  rw [MakeChecks.laidMetH_plain _ _ _ (by kernel_rfl)] at h
  obtain ⟨ps, ⟨g5, t5, cs5, f5, p5, q5, hg5, ht5, hv5, hd5, _, _⟩, _, _⟩ := h
  obtain rfl := Option.some.inj (gNam.symm.trans hg5)
  obtain rfl := Option.some.inj (tNam.symm.trans ht5)
  rw [nam_eq] at hd5
  exact nam_of hv5 hd5
/-- A block with other cells. -/
def withCells (cs : Array Value) : Obj → Obj
  | .cells _ t frozen => .cells cs t frozen
  | o => o
/-- A world for the witness: the settled one, the variable holding what its text lays. -/
noncomputable def laidWorld (os : Os) : World :=
  let w0 := World.holding Tryd.prog os ⟨#[], #[], []⟩
  { w0 with heap := w0.heap.modify 0 (withCells ((List.range 16).flatMap fun i => [Value.string (st (knm i)), .string (st (ktd i))]).toArray) }
set_option maxRecDepth 100000 in
theorem laid_met (os : Os) (args : Array Value) : laidMet Tryd.prog [("whisperer/keys.kinds", Rows.laid_whisperer_keys_kinds)] ((laidWorld os).forCall (fun _ _ => 0) ⟨#[], args, []⟩).memory :=
  laidMet_of_run' 8 (by kernel_rfl) (by kernel_rfl)
theorem own : ownKnob Tryd.prog.godebug = none := by kernel_rfl

/-! ### keys.check, keys.Bytes -/
theorem isc0_run (w : World) : Calls Tryd.prog 12 #[.int .i64 0] w (Gives (.bool true) w) := by
  go_enter Tryd.func12, Tryd.ntmps12
  go_wp2
  go_ret
  exact ⟨rfl, rfl⟩
theorem pr0_run (w : World) : Calls Tryd.prog 11 #[.int .i64 0] w (Gives (.bool false) w) := by
  have K := Lib.hid isc0_run
  go_enter Tryd.func11, Tryd.ntmps11
  go_wp2_with fail
  refine (K.out _).mono ?_
  rintro _ w1 ⟨rfl, rfl⟩
  go_wp2
  go_ret
  exact ⟨rfl, rfl⟩
theorem chk0_run (w : World) : Calls Tryd.prog 7 #[.agg #[.int .i64 0, .int .i64 0]] w (Tells (.int .i64 2) w) := by
  have K := Lib.hid pr0_run
  go_enter Tryd.func7, Tryd.ntmps7
  go_wp2_with fail
  refine (K.out _).mono ?_
  rintro _ w1 ⟨rfl, rfl⟩
  go_wp2
  go_ret
  exact ⟨rfl, Stp.alloc _ _ _⟩
theorem chk_run (k : Nat) (h0 : 0 < k) (h16 : k < 16) (w : World) : Calls Tryd.prog 7 #[.agg #[.int .i64 (k : Int), .int .i64 0]] w (Tells (.int .i64 0) w) := by
  have g0 : ¬ (k : Int) < 0 := by omega
  have g1 : ¬ (16 : Int) ≤ (k : Int) := by omega
  have hk : ((k : Int) == 0) = false := beq_eq_false_iff_ne.2 (by omega)
  have hk2 : ((k : Int) != 0) = true := by simp [bne, hk]
  go_enter Tryd.func7, Tryd.ntmps7
  go_wp2
  go_ret
  exact ⟨rfl, Stp.alloc _ _ _⟩
/-- Bytes are told. -/
def Told (l : List UInt8) (q : Int) (w : World) (e : Ending) (w' : World) : Prop := ∃ a cap, e = .returned (.tuple #[.slice a l.length cap, .int .i64 q]) ∧ Bts w' a l ∧ (a = none → cap = 0) ∧ l.length ≤ cap ∧ Stp [] w [] w'
theorem bytes0_run (w : World) : Calls Tryd.prog 4 #[.agg #[.int .i64 0, .int .i64 0]] w (Told [] 2 w) := by
  have K := Lib.hid chk0_run
  go_enter Tryd.func4, Tryd.ntmps4
  go_wp2_with fail
  refine (K.out _).mono ?_
  rintro _ w1 ⟨rfl, s1⟩
  go_wp2
  go_ret2
  exact ⟨none, 0, rfl, Bts.nil _ _, fun _ => rfl, Nat.le_refl _, (Stp.alloc _ _ _).trans s1⟩
/-- A text's bytes in memory of their own, at a block's head. -/
theorem conv_st2 (W : World) (l : List UInt8) (hl : l.length ≤ 1000000) : ∃ g c w', (convert 9 22 (.string (st l))).run Tryd.prog W = .ok (.slice (some ⟨g, 0, none⟩) l.length c) w' ∧ Bts w' (some ⟨g, 0, none⟩) l ∧ l.length ≤ c ∧ Stp [] W [] w' := by
  have h := Go.Lib.run_convert_string_bytes (P := Tryd.prog) W 9 22 5 (st l) Tryd.underlying9 Tryd.underlying22 Tryd.underlying5
  rw [st_size] at h
  refine ⟨_, _, _, h, ?_, ?_, ?_⟩
  · intro _
    refine ⟨W.heap.size, 0, rfl, fun i hi => ?_⟩
    rw [Nat.zero_add, bytesWorld_cell W _ _ i (by rw [st_size]; exact hi), st_data, getElem!_pos l i hi]
    simp [bval, List.getD, hi]
  · exact grownCap_ge _ _ _ _
  · exact ⟨rfl, rfl, rfl, by rw [bytesWorld_size]; omega, fun k hk _ => bytesWorld_at_old W _ _ k hk, fun _ h => .inl h⟩
theorem ktd_len : ∀ k, k < 16 → (ktd k).length ≤ 6 := by decide
set_option maxHeartbeats 1000000 in
theorem bytes_run (k : Nat) (h0 : 0 < k) (h16 : k < 16) (w : World) (hT : Kinds w) : Calls Tryd.prog 4 #[.agg #[.int .i64 (k : Int), .int .i64 0]] w (Told (ktd k) 0 w) := by
  have K := Lib.hid (chk_run k h0 h16)
  have HT : Aside (Kinds w) := hT
  have hk : ((k : Int) == 0) = false := beq_eq_false_iff_ne.2 (by omega)
  have hkl : (k : Int) < 16 := by omega
  go_enter Tryd.func4, Tryd.ntmps4
  go_wp2_with fail
  refine (K.out _).mono ?_
  rintro _ w1 ⟨rfl, s1⟩
  have HA := ((At2.new w (k : Int) 0).stays s1)
  have hlt := HA.lt
  obtain ⟨c0, c1, _, _⟩ := HA.cells
  have HS : Aside (Stp [] w [] w1) := (Stp.alloc [] w _).trans s1
  have kc := ((HT.out.stays HS.out) k h16).2
  rw [Nat.mul_comm] at kc
  clear HA s1
  obtain ⟨g2, cap, w2, hcv, hb2, hc2, s2⟩ := conv_st2 w1 (ktd k) (by have := ktd_len k h16; omega)
  have HB : Aside (Bts w2 (some ⟨g2, 0, none⟩) (ktd k) ∧ (ktd k).length ≤ cap ∧ Stp [] w [] w2) := ⟨hb2, hc2, HS.out.trans s2⟩
  clear hb2 hc2 s2 HS
  generalize st (ktd k) = x0 at *
  go_wp2
  go_ret2
  exact ⟨some ⟨g2, 0, none⟩, cap, rfl, HB.out.1, (fun h => by cases h), HB.out.2.1, HB.out.2.2⟩
end Go.Proofs.YtndofkjmbipagaaDoor
