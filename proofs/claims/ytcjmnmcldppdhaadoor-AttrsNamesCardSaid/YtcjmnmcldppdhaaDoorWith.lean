/-
  attrs.With, Raw, Has.
-/
import Derived.Test.YtcjmnmcldppdhaaDoorText2
import Derived.Laws.ResultCell
import Derived.Laws.Rows
namespace Go.Proofs.YtcjmnmcldppdhaaDoor
open Go.RowKit Go.Lib
set_option linter.unusedVariables false

theorem attrs_info : (Tryd.prog.info? 24).map (·.size) = some 3 := by kernel_rfl
theorem res_attrs {fn : Func} {p : Tmp} (h : fn.results = #[.cell p 24]) (tmps : Array Value) (w : World) (g f m t : Nat) (hp : tmps.getD p undef = .pointer (some ⟨g, 0, none⟩))
    (hg : w.heap[g]? = some (.cells #[.int .u32 (f : Int), .int .u8 (m : Int), .int .u8 (t : Int)] 24 (0, 0))) : (results fn tmps).run Tryd.prog w = .ok (av f m t) w := by
  exact results_cell_row h tmps w g _ _ _ _ hp hg Tryd.underlying24 rfl attrs_info
theorem res_attrs2 {fn : Func} {p u : Tmp} (h : fn.results = #[.cell p 24, .tmp u]) (tmps : Array Value) (w : World) (g f m t : Nat) (hp : tmps.getD p undef = .pointer (some ⟨g, 0, none⟩))
    (hg : w.heap[g]? = some (.cells #[.int .u32 (f : Int), .int .u8 (m : Int), .int .u8 (t : Int)] 24 (0, 0))) : (results fn tmps).run Tryd.prog w = .ok (.tuple #[av f m t, tmps.getD u undef]) w := by
  rw [results_cell_tmp h, hp]
  have h1 := run_loadVar_row (P := Tryd.prog) w g _ _ _ _ _ hg Tryd.underlying24 rfl attrs_info
  simp only [asAddr, Sem.run_pure, Result.andThen_ok, h1]
  unfold av
  rfl

set_option maxHeartbeats 1000000 in
set_option maxRecDepth 100000 in
theorem has_run (f m t k : Nat) (hf : f < 4294967296) (hk : k < 4294967296) (w : World) : Calls Tryd.prog 15 #[av f m t, .int .u32 (k : Int)] w (Tells (.bool (decide (f &&& k = k))) w) := by
  have h := bits_and hf hk
  have hd : (((f &&& k : Nat) : Int) == (k : Int)) = decide (f &&& k = k) := by
    by_cases e : f &&& k = k
    · simp [e]
    · rw [decide_eq_false e]
      exact beq_eq_false_iff_ne.2 (by omega)
  unfold av
  generalize decide (f &&& k = k) = b at *
  generalize (f &&& k : Nat) = x at *
  go_enter Tryd.func15, Tryd.ntmps15
  go_wp2
  go_ret
  exact ⟨rfl, Stp.alloc _ _ _⟩
/-- With, or without, flags. -/
def wth (f k : Nat) (on : Bool) : Nat := if on then f ||| k else ban f k
theorem wth_lt {f k : Nat} (hf : f < 4294967296) (hk : k < 4294967296) (on : Bool) : wth f k on < 4294967296 := by
  cases on
  · exact ban_lt f k
  · exact Nat.or_lt_two_pow (n := 32) hf hk
set_option maxHeartbeats 1000000 in
set_option maxRecDepth 100000 in
theorem with_run (f m t k : Nat) (on : Bool) (hf : f < 4294967296) (hk : k < 4294967296) (w : World) : Calls Tryd.prog 17 #[av f m t, .int .u32 (k : Int), .bool on] w (Tells (av (wth f k on) m t) w) := by
  cases on with
  | true =>
    have h := bits_or hf hk
    show Calls _ _ _ _ (Tells (av (f ||| k) m t) w)
    generalize (f ||| k : Nat) = x at *
    unfold av
    go_enter Tryd.func17, Tryd.ntmps17
    go_wp2
    refine bodyPost_ret (res_attrs rfl _ _ (w.heap.size + 1) x m t rfl (heap_alloc2_new w _ _)) rfl ?_
    exact ⟨rfl, (Stp.alloc _ _ _).trans (Stp.alloc _ _ _)⟩
  | false =>
    have h := bits_ban f k
    show Calls _ _ _ _ (Tells (av (ban f k) m t) w)
    generalize ban f k = x at *
    unfold av
    go_enter Tryd.func17, Tryd.ntmps17
    go_wp2
    refine bodyPost_ret (res_attrs rfl _ _ (w.heap.size + 1) x m t rfl (heap_alloc2_new w _ _)) rfl ?_
    exact ⟨rfl, (Stp.alloc _ _ _).trans (Stp.alloc _ _ _)⟩
/-- A block of attributes known whole. -/
def At3 (W : World) (g f m t : Nat) : Prop := W.heap[g]? = some (.cells #[.int .u32 (f : Int), .int .u8 (m : Int), .int .u8 (t : Int)] 24 (0, 0))
theorem At3.new (W : World) (f m t : Nat) : At3 (W.alloc (.cells #[.int .u32 (f : Int), .int .u8 (m : Int), .int .u8 (t : Int)] 24)) W.heap.size f m t := heap_alloc_new _ _
theorem At3.lt {W : World} {g f m t : Nat} (h : At3 W g f m t) : g < W.heap.size := (Array.getElem?_eq_some_iff.1 h).1
theorem At3.stays {W W' : World} {g f m t : Nat} {F : List Nat} (h : At3 W g f m t) (hs : Stp [] W F W') : At3 W' g f m t := (hs.block g h.lt (by simp)).trans h
theorem At3.cells {W : World} {g f m t : Nat} (h : At3 W g f m t) : W.cell? ⟨g, 0, none⟩ = some (.int .u32 (f : Int)) ∧ W.cell? ⟨g, 1, none⟩ = some (.int .u8 (m : Int)) ∧ W.cell? ⟨g, 2, none⟩ = some (.int .u8 (t : Int)) ∧
    W.frozen? ⟨g, 0, none⟩ = false ∧ W.frozen? ⟨g, 1, none⟩ = false ∧ W.frozen? ⟨g, 2, none⟩ = false :=
  ⟨by rw [cell_of_row W g 0 _ _ _ h]; rfl, by rw [cell_of_row W g 1 _ _ _ h]; rfl, by rw [cell_of_row W g 2 _ _ _ h]; rfl, frozen_of_row W g 0 _ _ h, frozen_of_row W g 1 _ _ h, frozen_of_row W g 2 _ _ h⟩
theorem At3.set {W : World} {g f m t : Nat} (h : At3 W g f m t) (f' m' t' : Nat) : At3 (((W.setCell ⟨g, 0, none⟩ (.int .u32 (f' : Int))).setCell ⟨g, 1, none⟩ (.int .u8 (m' : Int))).setCell ⟨g, 2, none⟩ (.int .u8 (t' : Int))) g f' m' t' := by
  have h1 := heap_setCell_same W g 0 _ _ (.int .u32 (f' : Int)) h
  have h2 := heap_setCell_same _ g 1 _ _ (.int .u8 (m' : Int)) h1
  have h3 := heap_setCell_same _ g 2 _ _ (.int .u8 (t' : Int)) h2
  exact h3
theorem At3.stp (W : World) (g : Nat) (a b c : Value) : Stp [g] W [g] (((W.setCell ⟨g, 0, none⟩ a).setCell ⟨g, 1, none⟩ b).setCell ⟨g, 2, none⟩ c) :=
  ((Stp.setCell (F := [g]) (a := ⟨g, 0, none⟩) W a (by simp)).trans (Stp.setCell (F := [g]) (a := ⟨g, 1, none⟩) _ b (by simp))).trans (Stp.setCell (F := [g]) (a := ⟨g, 2, none⟩) _ c (by simp))
set_option maxHeartbeats 1000000 in
set_option maxRecDepth 100000 in
theorem raw_run (f m t : Nat) (hf : f < 4294967296) (w : World) : Calls Tryd.prog 13 #[av f m t] w (Tells (av (ban f 63) 1 0) w) := by
  have K : ∀ W, Calls Tryd.prog 17 #[.agg #[.int .u32 (f : Int), .int .u8 (m : Int), .int .u8 (t : Int)], .int .u32 63, .bool false] W (Tells (.agg #[.int .u32 (ban f 63 : Int), .int .u8 (m : Int), .int .u8 (t : Int)]) W) := fun W => with_run f m t 63 false hf (by omega) W
  show Calls _ _ #[.agg #[.int .u32 (f : Int), .int .u8 (m : Int), .int .u8 (t : Int)]] w (Tells (.agg #[.int .u32 (ban f 63 : Int), .int .u8 1, .int .u8 0]) w)
  have HK := Lib.hid K
  clear K
  generalize ban f 63 = x at *
  go_enter Tryd.func13, Tryd.ntmps13
  go_wp2_with (go_at_call 17
               refine (HK.out _).mono ?_
               rintro _ w1 ⟨rfl, s1⟩
               have hb : At3 w1 (w.heap.size + 1) 0 0 0 := At3.stays (heap_alloc2_new w _ _) s1
               have hlt := hb.lt
               obtain ⟨c0, c1, c2, f0, f1, f2⟩ := hb.cells
               have HS : Aside (Stp [] w [] w1 ∧ At3 w1 (w.heap.size + 1) 0 0 0) := ⟨((Stp.alloc [] w _).trans (Stp.alloc [] _ _)).trans s1, hb⟩
               clear hb s1)
  refine bodyPost_ret (res_attrs rfl _ _ (w.heap.size + 1) x 1 0 rfl ((HS.out.2.set x 1 0).stays (Stp.alloc [] _ _))) rfl ?_
  exact ⟨rfl, ((HS.out.1.fresh (At3.stp _ _ _ _ _) (by simp)).none).trans (Stp.alloc [] _ _)⟩
end Go.Proofs.YtcjmnmcldppdhaaDoor
