/-
  The iterator of a registry's arenas: it hands them on in the order of the names, or a part of them where a round has said 'no more'.
-/
import Derived.RangeFuncNested
import Derived.RangeFuncBound
import Derived.RangeFuncCalls
import Derived.RangeFuncLeaves
import Derived.Shelf.Abstract
import Derived.Shelf.RegionOpen
import Derived.WalkKit
import Derived.OwnWalkIn
import Derived.TacticsInMore
import Derived.LoopNIn
import Derived.LoopIn
import Derived.Sort.LoopGhostIn
import Derived.RangeFuncBox
import Derived.Lib.OthersKept
import Derived.Test.YtmhecgidhdbcgaaMake
namespace Go.Proofs.Ytmhecgidhdbcgaa
open Go.RowKit Go.Shelf Go.Lib Go.Maps
attribute [local go_sem] Oper.semAt_some
set_option linter.unusedVariables false

/-- One of the arenas. -/
abbrev Em (L : List Ent) := { x : Ent // x ∈ L }
def emVals {L : List Ent} (x : Em L) : Array Value := #[.pointer (some ⟨x.1.b, 0, none⟩)]
/-- What a round that goes on keeps: some blocks. -/
def KpR (K : List Nat) (W W' : World) : Prop := W.heap.size ≤ W'.heap.size ∧ ∀ k ∈ K, W'.heap[k]? = W.heap[k]?
theorem KpR.refl (K : List Nat) (W : World) : KpR K W W := ⟨Nat.le_refl _, fun _ _ => rfl⟩
theorem KpR.t {K : List Nat} {A B C : World} (h : KpR K A B) (k : KpR K B C) : KpR K A C := ⟨Nat.le_trans h.1 k.1, fun i hi => (k.2 i hi).trans (h.2 i hi)⟩
theorem KpR.b {K : List Nat} {w : World} (hK : ∀ k ∈ K, k < w.heap.size) (W : World) (l : Nat) (o o' : Obj) (hl : w.heap.size ≤ l) (h : W.heap[l]? = some o) (hc : o.isCells = false) (hw : o.isWalk = false) : KpR K W (W.putObj l o') :=
  ⟨by simp, fun k hk => World.putObj_heap_other (by have := hK k hk; omega)⟩
theorem KpR.stp {K G G' : List Nat} {W W' : World} (h : Stp G W G' W') (hK : ∀ k ∈ K, k < W.heap.size ∧ k ∉ G) : KpR K W W' := ⟨h.size, fun k hk => h.block k (hK k hk).1 (hK k hk).2⟩
theorem below_stp {W W' : World} (h : Below W.heap.size W W') : Stp [] W [] W' := ⟨h.os, h.tape, h.output, h.size, fun k hk _ => h.block k hk, fun _ h => by cases h⟩

/-- The blocks that the iterator looks at. -/
def seen (bx r m : Nat) (v : Value) : List Nat := bx :: r :: m :: v.ownBlock.toList

theorem all_fn (p : Option Addr) (w : World) : Calls Try.prog 29 #[.pointer p] w fun e w' => e = .returned (.func (.func 34) #[] #[.pointer (some ⟨w.heap.size, 0, none⟩)]) ∧ w' = w.alloc (.cells #[.pointer p] 23) := by
  go_enter Try.func29, Try.ntmps29
  go_wp2
  go_ret
  exact ⟨rfl, rfl⟩

set_option maxRecDepth 100000 in
set_option maxHeartbeats 2000000 in
theorem iter_in (n : Nat) (hn : 1 ≤ n) (lp bx r m : Nat) (v : Value) (F : List Nat) (D : DataW Unit) (L : List Ent) (J Jx : List (Em L) → World → Prop) (W : World)
    (hY : ∀ pre x W1, J pre W1 → pre.length < L.length → YieldAt Fence.wide (n - 1) Try.prog lp (emVals x) W1 fun e W' =>
      (e = .returned (.bool true) ∧ J (pre ++ [x]) W' ∧ KpR (seen bx r m v) W1 W') ∨ (e = .returned (.bool false) ∧ Jx (pre ++ [x]) W'))
    (hbx : W.heap[bx]? = some (.cells #[.pointer (some ⟨r, 0, none⟩)] 23)) (hR : Rx W F r m v D L) (h0 : J [] W) :
    CallsIn Fence.wide n Try.prog 34 #[.func (.yield lp) #[] #[], .pointer (some ⟨bx, 0, none⟩)] W fun e W' => (∃ v, e = .returned v) ∧
      ((∃ ys : List (Em L), ys.map (·.1) = L ∧ J ys W') ∨ (∃ pre, True ∧ Jx pre W')) := by
  have hcell : W.cell? ⟨bx, 0, none⟩ = some (.pointer (some ⟨r, 0, none⟩)) := by
    rw [cell_of_row W bx 0 _ _ _ hbx]
    rfl
  have c0 := hR.c0
  obtain ⟨a, cap, hv, hnil, hcap, hmx, hcells⟩ := hR.row.form
  rw [List.length_map] at hv hcap
  have htop := hR.top
  have HR := Lib.hid (And.intro hR (And.intro hbx (And.intro hnil hcells)))
  have HY := Lib.hid hY
  clear hR hbx hnil hcells hY
  subst hv
  refine callsIn_of_wp Try.func34 rfl trivial ?_ rfl
  simp only [Try.ntmps34, List.size_toArray, List.length_cons, List.length_nil, Nat.reduceAdd, Nat.reduceSub, Array.replicate_succ, Array.replicate_zero, List.push_toArray, List.append_toArray, List.nil_append, List.cons_append]
  gi_wp2
  gi_loopg [12] L.length (fun gk vi wr => ∃ k : Nat, vi = .int .i64 (k : Int) ∧ k ≤ L.length ∧ L.length - k ≤ gk ∧ Aside (∃ pre : List (Em L), pre.map (·.1) = L.take k ∧ J pre wr ∧ KpR (seen bx r m (.slice a L.length cap)) W wr))
  case atStart => exact ⟨0, rfl, by omega, by omega, [], by simp, h0, KpR.refl _ _⟩
  case round =>
    obtain ⟨k, rfl, hk, hg, HS⟩ := hrel
    obtain ⟨pre, hpre, hJ, hkp⟩ := HS.out
    by_cases hlt : k < L.length
    · have hltz : (k : Int) < (L.length : Int) := by omega
      obtain ⟨hR, hbx, hnil, hcells⟩ := HR.out
      rcases a with _ | ad
      · have := (hnil rfl).2
        have := congrArg List.length this
        simp at this
        rw [this] at hlt
        simp at hlt
      · obtain ⟨g, rfl, _, hgl, _, hc⟩ := hcells ad rfl
        have e1 : wr.cell? ⟨bx, 0, none⟩ = some (.pointer (some ⟨r, 0, none⟩)) := (World.cell?_of_block (a := ⟨bx, 0, none⟩) (hkp.2 bx (by simp [seen]))).trans hcell
        have e2 : wr.cell? ⟨r, 1, none⟩ = some (.map (some m)) := (World.cell?_of_block (a := ⟨r, 1, none⟩) (hkp.2 r (by simp [seen]))).trans hR.c1
        have e3 : wr.cell? ⟨g, k, none⟩ = some (.string (L[k]).name) := by
          rw [World.cell?_of_block (a := ⟨g, k, none⟩) (hkp.2 g (by simp [seen, Value.ownBlock])), hc k (by simpa using hlt), getElem!_pos _ k (by simpa using hlt)]
          simp
        have hmap : wr.ownsMap Try.prog 9 pEl m L.length D := by
          obtain ⟨es, clock, hb, rest⟩ := hR.map
          exact ⟨es, clock, (hkp.2 m (by simp [seen])).trans hb, rest⟩
        have e4 := look_yes hmap hR.like (x := L[k]) (List.getElem_mem hlt) (hR.nm _ (List.getElem_mem hlt))
        have hlen : pre.length < L.length := by
          have := congrArg List.length hpre
          simp at this
          omega
        have hx : Aside (pre.map (·.1) ++ [L[k]] = L.take (k + 1)) := by
          show _ = _
          rw [hpre, List.take_succ_eq_append_getElem hlt]
        obtain ⟨x, hxe⟩ : ∃ x : Em L, x = ⟨L[k], List.getElem_mem hlt⟩ := ⟨_, rfl⟩
        have hxv : L[k] = x.1 := by rw [hxe]
        rw [hxv] at e3 e4 hx
        obtain ⟨fn, tmps, assign, body, hy, hRn⟩ := HY.out pre x wr hJ hlen
        have hy' : Sem.run Try.prog (Instr.yield lp #[.pointer (some ⟨x.1.b, 0, none⟩)]) wr = .ok (.round lp fn tmps assign body) wr := hy
        have HRn := Lib.hid hRn
        have HJ := Lib.hid (And.intro hJ (And.intro hkp hpre))
        generalize hnm : x.1.name = nm at *
        generalize hbb : x.1.b = bb at *
        clear hR hbx hnil hcells hc hmap hy hRn hJ hkp hpre hxv hxe HS hgl
        gi_wp2
        refine HRn.out.mono ?_
        rintro e W3 (⟨rfl, hJ3, hk3⟩ | ⟨rfl, hJx3⟩)
        · have HK3 := Lib.hid (And.intro hJ3 hk3)
          clear hJ3 hk3
          gi_wp2
          go_roundg (L.length - (k + 1))
          case measure => omega
          case rel => exact ⟨k + 1, by go_num, by omega, by omega, pre ++ [x], by simpa using hx.out, HK3.out.1, HJ.out.2.1.t HK3.out.2⟩
        · gi_wp2
          refine bodyPost_ret (results_none rfl _ _ _) rfl ?_
          exact ⟨⟨_, rfl⟩, .inr ⟨pre ++ [x], trivial, hJx3⟩⟩
    · have hltz : ¬ (k : Int) < (L.length : Int) := by omega
      have HJ := Lib.hid (And.intro hJ hpre)
      clear hJ hkp hpre HS
      gi_wp2
      go_end0
      exact ⟨⟨_, rfl⟩, .inl ⟨pre, (HJ.out.2.trans (List.take_of_length_le (by omega)) : pre.map (·.1) = L), HJ.out.1⟩⟩

theorem iter_stops (n : Nat) (hn : 1 ≤ n) (bx r m : Nat) (v : Value) (F : List Nat) (D : DataW Unit) (L : List Ent) (w : World) (hbx : Boxed w bx 23 (.pointer (some ⟨r, 0, none⟩))) (hR : Rx w F r m v D L) :
    SeqStopsK Fence.wide n Try.prog 34 #[.pointer (some ⟨bx, 0, none⟩)] (emVals (L := L)) (KpR (seen bx r m v)) (fun ys => ys.map (·.1) = L) (fun _ => True) L.length w := fun lp J Jx W hW hJ _ hY h0 =>
  iter_in n hn lp bx r m v F D L J Jx W hY ((hW.block bx hbx.lt).trans hbx) (hR.stays (below_stp hW)) h0

/-- Of no registry. -/
theorem iter_none (n : Nat) (lp bx : Nat) (J Jx : List (Em []) → World → Prop) (W : World) (hbx : W.heap[bx]? = some (.cells #[.pointer none] 23)) (h0 : J [] W) :
    CallsIn Fence.wide n Try.prog 34 #[.func (.yield lp) #[] #[], .pointer (some ⟨bx, 0, none⟩)] W fun e W' => (∃ v, e = .returned v) ∧
      ((∃ ys : List (Em []), ys.map (·.1) = [] ∧ J ys W') ∨ (∃ pre, True ∧ Jx pre W')) := by
  have hcell : W.cell? ⟨bx, 0, none⟩ = some (.pointer none) := by
    rw [cell_of_row W bx 0 _ _ _ hbx]
    rfl
  clear hbx
  refine callsIn_of_wp Try.func34 rfl trivial ?_ rfl
  simp only [Try.ntmps34, List.size_toArray, List.length_cons, List.length_nil, Nat.reduceAdd, Nat.reduceSub, Array.replicate_succ, Array.replicate_zero, List.push_toArray, List.append_toArray, List.nil_append, List.cons_append]
  gi_wp2
  refine bodyPost_ret (results_none rfl _ _ _) rfl ?_
  exact ⟨⟨_, rfl⟩, .inl ⟨[], rfl, h0⟩⟩
theorem iter_stops0 (n : Nat) (bx : Nat) (w : World) (hbx : Boxed w bx 23 (.pointer none)) :
    SeqStopsK Fence.wide n Try.prog 34 #[.pointer (some ⟨bx, 0, none⟩)] (emVals (L := [])) (KpR []) (fun ys => ys.map (·.1) = []) (fun _ => True) 0 w := fun lp J Jx W hW hJ _ hY h0 =>
  iter_none n lp bx J Jx W ((hW.block bx hbx.lt).trans hbx) h0
end Go.Proofs.Ytmhecgidhdbcgaa
