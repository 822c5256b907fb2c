/-
  The iterator of utf.characters: it hands on the characters of a list of bytes, in their order, or a part of them where a round has said 'no more'.
-/
import Derived.RangeFuncNested
import Derived.RangeFuncBound
import Derived.RangeFuncCalls
import Derived.RangeFuncLeaves
import Derived.Shelf.Abstract
import Derived.Shelf.RegionOpen
import Derived.WalkKit
import Derived.OwnWalkIn
import Derived.TacticsInMore
import Derived.LoopNIn
import Derived.LoopIn
import Derived.RangeFuncBox
import Derived.Lib.OthersKept
import Derived.Test.YtdaenaoagejgeaaGreatDoorUChars
namespace Go.Proofs.YtdaenaoagejgeaaGreatDoor.U
open Go.RowKit Go.Shelf Go.Lib
attribute [local go_sem] Oper.semAt_some
set_option linter.unusedVariables false

/-- A character. -/
abbrev Ch := { c : Nat // isCh c = true }
def chVals (x : Ch) : Array Value := #[.int .i32 (x.1 : Int)]

/-- What a round that goes on keeps: the walks, what lay below n, and the block bn. -/
def KpT (n bn : Nat) (W W' : World) : Prop := KeepsWalks W W' ∧ Below n W W' ∧ W'.heap[bn]? = W.heap[bn]?
theorem KpT.t {n bn : Nat} {A B C : World} (h : KpT n bn A B) (k : KpT n bn B C) : KpT n bn A C := ⟨h.1.trans k.1, h.2.1.trans k.2.1, k.2.2.trans h.2.2⟩
theorem KpT.b {n bn : Nat} {w : World} (hn : n ≤ w.heap.size) (hb : bn < w.heap.size) (W : World) (l : Nat) (o o' : Obj) (hl : w.heap.size ≤ l) (h : W.heap[l]? = some o) (hc : o.isCells = false) (hw : o.isWalk = false) : KpT n bn W (W.putObj l o') :=
  ⟨walksK_b W l o o' hl h hc hw, belowK_b hn W l o o' hl h hc hw, World.putObj_heap_other (by omega)⟩

theorem grown_of_below {a b : World} (h : Below a.heap.size a b) (row : Option Nat) : a.grownBy b row := ⟨h.os, h.tape, h.output, h.size, fun i hi _ => h.block i hi⟩
theorem grown_iterAt (w : World) (k : Nat) (s : ByteArray) (p : Nat) : w.grownBy (w.iterAt k s p) (some k) :=
  ⟨rfl, rfl, rfl, by rw [iterAt_size]; exact Nat.le_refl _, fun i _ hne => iterAt_other w k i s p (fun e => hne (by rw [e]))⟩
theorem iterPos_at {w : World} {k : Nat} {s : ByteArray} {p : Nat} (h : w.heap[k]? = some (.stringIter s p)) : w.iterPos k = p := by simp [World.iterPos, h]

set_option maxRecDepth 100000 in
set_option maxHeartbeats 2000000 in
theorem iter_in (n : Nat) (hn : 1 ≤ n) (lp bn n0 : Nat) (a : Option Addr) (cap : Nat) (l : List Nat) (J Jx : List Ch → World → Prop) (W : World)
    (hJ : AbidesFrom W.heap.size J)
    (hY : ∀ pre x W1, J pre W1 → pre.length < l.length → YieldAt Fence.wide (n - 1) Tryz.prog lp (chVals x) W1 fun e W' =>
      (e = .returned (.bool true) ∧ J (pre ++ [x]) W' ∧ KpT n0 bn W1 W') ∨ (e = .returned (.bool false) ∧ Jx (pre ++ [x]) W'))
    (hbn : W.heap[bn]? = some (.cells #[.slice a l.length cap] 27)) (hl : Bts W a l) (hlb : l ≠ [] → ∀ b off, a = some ⟨b, off, none⟩ → b < n0) (hT : Tabs W) (hn0 : n0 ≤ W.heap.size) (h2 : 4 ≤ n0) (hcap : l.length ≤ cap) (hm : cap ≤ maxLen) (h0 : J [] W) :
    CallsIn Fence.wide n Tryz.prog 76 #[.func (.yield lp) #[] #[], .pointer (some ⟨bn, 0, none⟩)] W fun e W' => (∃ v, e = .returned v) ∧
      ((∃ ys : List Ch, ys.map (·.1) = chars l ∧ J ys W') ∨ (∃ pre, True ∧ Jx pre W')) := by
  have hcell : W.cell? ⟨bn, 0, none⟩ = some (.slice a l.length cap) := by
    rw [cell_of_row W bn 0 _ _ _ hbn]
    rfl
  have hcv := conv_bts cap hl
  refine callsIn_of_wp Tryz.func76 rfl trivial ?_ rfl
  simp only [Tryz.ntmps76, List.size_toArray, List.length_cons, List.length_nil, Nat.reduceAdd, Nat.reduceSub, Array.replicate_succ, Array.replicate_zero, List.push_toArray, List.append_toArray, List.nil_append, List.cons_append]
  gi_wp2
  have Hl := Lib.hid hl
  have HT := Lib.hid hT
  have HY := Lib.hid hY
  have HJ := Lib.hid hJ
  have Hbn := Lib.hid hbn
  have Hlb := Lib.hid hlb
  have hb256 := hl.1
  clear hl hT hY hJ hbn hlb hcv hcell
  gi_loopw [3] (fun f wr => ∃ (pre : List Ch) (p q : Nat), f = .int .i64 q ∧ wr.heap[W.heap.size]? = some (.stringIter (str l) p) ∧ p ≤ q ∧ q ≤ l.length ∧ (∀ j, p ≤ j → j < q → 128 ≤ l.getD j 0 ∧ l.getD j 0 ≤ 191) ∧
      pre.map (·.1) ++ chars (l.drop q) = chars l ∧ J pre wr ∧ Below n0 W wr ∧ wr.heap[bn]? = W.heap[bn]? ∧ W.heap.size < wr.heap.size)
    (fun _ wr => l.length - wr.iterPos W.heap.size)
  case atStart =>
    refine ⟨[], 0, 0, rfl, World.iter_heap W _ _, Nat.le_refl _, Nat.zero_le _, fun j h1 h2 => by omega, by simp, HJ.out [] W _ none h0 (World.grownBy_alloc W _ none) (by simp), (Below.refl _ _).alloc hn0 _, Below.heap_alloc W _ bn (Array.getElem?_eq_some_iff.1 Hbn.out).1, by simp [World.iter]⟩
  case round =>
    obtain ⟨pre, p, q, rfl, hit, hpq, hql, hcont, hch, hJp, hB, hbn', hsz⟩ := hrel
    have Hit := Lib.hid hit
    have Hcont := Lib.hid hcont
    have Hch := Lib.hid hch
    have Hbn' := Lib.hid hbn'
    have HB := Lib.hid hB
    have hmx : l.length ≤ 9223372036854775807 := by unfold maxLen at hm; omega
    by_cases hpl : p < l.length
    · have hnx := fun ty => run_next_any_at (P := Tryz.prog) wr W.heap.size (str l) p ty hit (by rw [str_size]; exact hpl)
      rw [decode_str l hb256] at hnx
      have hne : l.drop p ≠ [] := by
        intro e
        have := congrArg List.length e
        simp at this
        omega
      have hdb := drop_lt hb256 p
      have hg0 : (l.drop p).getD 0 0 = l.getD p 0 := by simp [List.getD, List.getElem?_drop]
      by_cases hlt : p < q
      · rw [decL_cont hne hdb (by rw [hg0]; exact hcont p (Nat.le_refl _) hlt)] at hnx
        clear hit hcont hch hbn' hB
        gi_wp2
        go_roundw
        case rel =>
          refine ⟨pre, p + 1, q, rfl, iterAt_heap wr _ _ p _ Hit.out, by omega, hql, fun j h1 h2 => Hcont.out j (by omega) h2, Hch.out, ?_, ?_, ?_, ?_⟩
          · exact HJ.out pre wr _ (some W.heap.size) hJp (grown_iterAt wr _ _ _) (fun r e => by cases e; exact ⟨Nat.le_refl _, _, Hit.out, rfl⟩)
          · exact below_iterAt HB.out hn0 _ _
          · rw [iterAt_other wr _ bn _ _ (by have := (Array.getElem?_eq_some_iff.1 Hbn.out).1; omega)]
            exact Hbn'.out
          · rw [iterAt_size]
            exact hsz
        case measure =>
          rw [iterPos_at (iterAt_heap wr _ _ p _ Hit.out), iterPos_at Hit.out]
          omega
      · obtain rfl : p = q := by omega
        obtain ⟨hd1, hd2, hd3⟩ := decL_chr hne hdb
        obtain ⟨D, hD⟩ : ∃ D, decL (l.drop p) = D := ⟨_, rfl⟩
        rw [hD] at hnx hd1 hd2 hd3
        obtain ⟨c, wd⟩ := D
        simp only at hd1 hd2 hd3 hnx
        obtain ⟨x, hx⟩ : ∃ x : Ch, x = ⟨chr (l.drop p), chr_isCh hdb⟩ := ⟨_, rfl⟩
        have hxc : x.1 = c := by rw [hx, hd1]
        have hxb : x.1 ≤ 1114111 := by have := of_decide_eq_true x.2; omega
        rw [← hxc] at hnx
        have hpos := nx_pos hne hdb
        rw [List.length_drop] at hpos
        obtain ⟨bb, off, rfl, hcells⟩ := Hl.out.2 (by intro e; rw [e] at hpl; simp at hpl)
        have hbb := Hlb.out (by intro e; rw [e] at hpl; simp at hpl) bb off rfl
        -- the world behind the iterator's step
        obtain ⟨w1, hw1⟩ : ∃ w1, wr.iterAt W.heap.size (str l) (p + wd) = w1 := ⟨_, rfl⟩
        have hit1 : w1.heap[W.heap.size]? = some (.stringIter (str l) (p + wd)) := by rw [← hw1]; exact iterAt_heap wr _ _ p _ Hit.out
        have hB1 : Below n0 W w1 := by rw [← hw1]; exact below_iterAt HB.out hn0 _ _
        have hJ1 : J pre w1 := by rw [← hw1]; exact HJ.out pre wr _ (some W.heap.size) hJp (grown_iterAt wr _ _ _) (fun r e => by cases e; exact ⟨Nat.le_refl _, _, Hit.out, rfl⟩)
        have hbn1 : w1.heap[bn]? = some (.cells #[.slice (some ⟨bb, off, none⟩) l.length cap] 27) := by
          rw [← hw1, iterAt_other wr _ bn _ _ (by have := (Array.getElem?_eq_some_iff.1 Hbn.out).1; omega)]
          exact Hbn'.out.trans Hbn.out
        have hcell1 : w1.cell? ⟨bn, 0, none⟩ = some (.slice (some ⟨bb, off, none⟩) l.length cap) := by
          rw [cell_of_row w1 bn 0 _ _ _ hbn1]
          rfl
        have hT1 : Tabs w1 := HT.out.keep hB1 h2
        have hsz1 : W.heap.size < w1.heap.size := by rw [← hw1, iterAt_size]; exact hsz
        have hbt : Bts w1 (some ⟨bb, off + p, none⟩) (l.drop p) := by
          refine ⟨hdb, fun _ => ⟨bb, off + p, rfl, fun i hi => ?_⟩⟩
          have hi' : p + i < l.length := by simp at hi; omega
          rw [hB1.cell (p := ⟨bb, off + p + i, none⟩) hbb, Nat.add_assoc, hcells (p + i) hi']
          simp [List.getD, List.getElem?_drop]
        have cN := next_any (some ⟨bb, off + p, none⟩) (cap - p) (l.drop p) w1 hbt (by simp; omega) (by omega) hT1
        rw [List.length_drop] at cN
        rw [hw1] at hnx
        have HN := Lib.hid cN
        have Hit1 := Lib.hid hit1
        have HB1 := Lib.hid hB1
        have Hbn1 := Lib.hid hbn1
        have HJ1 := Lib.hid hJ1
        have HD1 := Lib.hid hd1
        have HD2 := Lib.hid hd2
        have HD3 := Lib.hid hd3
        have HX := Lib.hid hx
        have HXC := Lib.hid hxc
        obtain ⟨r, hr⟩ : ∃ r, nx (l.drop p) = r := ⟨_, rfl⟩
        have Hr := Lib.hid hr
        have hpc : ((cap : Int) == (p : Int)) = false := beq_eq_false_iff_ne.2 (by omega)
        have hp1 : (p : Int) ≤ (l.length : Int) := by omega
        rw [hr] at HN hpos
        obtain ⟨r0, r1, r2⟩ := r
        simp only at hpos
        clear hit hcont hch hbn' hB hit1 hB1 hbn1 hT1 hbt cN hd1 hd2 hd3 hx hxc hr hw1 hJ1 hD hJp
        gi_wp2_with (refine ⟨trivial, ?_⟩; gi_at_call 38; refine (callsIn_wide.2 HN.out).mono ?_; rintro e w2 ⟨rfl, hb2⟩)
        have hJ2 : J pre w2 := HJ.out pre w1 w2 none HJ1.out (grown_of_below hb2 none) (by simp)
        have hlen : pre.length < l.length := by
          have h1 := congrArg List.length Hch.out
          rw [chars_cons hne hdb] at h1
          simp at h1
          have h3 := chars_len l hb256
          omega
        obtain ⟨fn, tmps, assign, body, hy, hR⟩ := HY.out pre x w2 hJ2 hlen
        have hy' : Sem.run Tryz.prog (Instr.yield lp #[Value.int IntKind.i32 (x.1 : Int)]) w2 = .ok (.round lp fn tmps assign body) w2 := hy
        have HR := Lib.hid hR
        have HJ2 := Lib.hid hJ2
        have Hb2 := Lib.hid hb2
        clear hy hR hJ2 hb2
        rw [hy']
        gi_wp2
        refine HR.out.mono ?_
        rintro e W3 (⟨rfl, hJ3, hk3⟩ | ⟨rfl, hJx3⟩)
        · have HK3 := Lib.hid hk3
          clear hk3
          gi_wp2
          go_roundw
          case rel =>
            have hB2 : Below n0 W w2 := HB1.out.trans (Hb2.out.mono (by omega))
            have hlw : W.heap.size < w1.heap.size := hsz1
            have hit2 : w2.heap[W.heap.size]? = some (.stringIter (str l) (p + wd)) := (Hb2.out.block W.heap.size (by omega)).trans Hit1.out
            have hbn2 : w2.heap[bn]? = W.heap[bn]? := by
              have hbl := (Array.getElem?_eq_some_iff.1 Hbn.out).1
              rw [Hb2.out.block bn (by omega), Hbn1.out, Hbn.out]
            have hrr := Hr.out
            refine ⟨pre ++ [x], p + wd, p + r1, by go_num, HK3.out.1.same _ _ hit2 rfl, ?_, by omega, ?_, ?_, hJ3, hB2.trans HK3.out.2.1, HK3.out.2.2.trans hbn2, ?_⟩
            · by_cases e0 : r2 = 0
              · have := HD2.out (by rw [hrr]; exact e0)
                rw [hrr] at this
                simp only at this
                omega
              · have := HD3.out (by rw [hrr]; exact e0)
                omega
            · intro j hj1 hj2
              by_cases e0 : r2 = 0
              · have := HD2.out (by rw [hrr]; exact e0)
                rw [hrr] at this
                simp only at this
                omega
              · have h1 := HD3.out (by rw [hrr]; exact e0)
                have h3 := nx_cont (l := l.drop p) (by rw [hrr]; exact e0) (j - p) (by omega) (by rw [hrr]; simp only; omega)
                have e1 : (l.drop p).getD (j - p) 0 = l.getD j 0 := by
                  simp only [List.getD, List.getElem?_drop]
                  rw [show p + (j - p) = j from by omega]
                rwa [e1] at h3
            · have h1 := Hch.out
              rw [chars_cons hne hdb, hrr] at h1
              simp only [List.drop_drop] at h1
              rw [← h1, List.map_append, HX.out]
              simp
            · have := HK3.out.1.size
              have := Hb2.out.size
              omega
          case measure =>
            have hit2 : w2.heap[W.heap.size]? = some (.stringIter (str l) (p + wd)) := (Hb2.out.block W.heap.size (by omega)).trans Hit1.out
            rw [iterPos_at (HK3.out.1.same _ _ hit2 rfl), iterPos_at Hit.out]
            have : 1 ≤ wd := by
              have hrr := Hr.out
              by_cases e0 : r2 = 0
              · have := HD2.out (by rw [hrr]; exact e0)
                rw [hrr] at this
                simp only at this
                omega
              · have := HD3.out (by rw [hrr]; exact e0)
                omega
            omega
        · gi_wp2
          refine bodyPost_ret (results_none rfl _ _ _) rfl ?_
          exact ⟨⟨_, rfl⟩, .inr ⟨pre ++ [x], trivial, hJx3⟩⟩
    · obtain rfl : p = l.length := by omega
      obtain rfl : q = l.length := by omega
      have hnx := fun ty => run_next_end_at (P := Tryz.prog) wr W.heap.size (str l) l.length ty hit (by rw [str_size]; omega)
      clear hit hcont hch hbn' hB
      gi_wp2
      go_end0
      exact ⟨⟨_, rfl⟩, .inl ⟨pre, by have := Hch.out; simpa [chars_nil] using this, hJp⟩⟩

end Go.Proofs.YtdaenaoagejgeaaGreatDoor.U
