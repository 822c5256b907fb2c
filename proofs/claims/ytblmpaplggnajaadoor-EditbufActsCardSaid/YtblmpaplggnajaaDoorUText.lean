/-
  utf.Text and utf.Count at any bytes: what isn't right is replaced, and how many characters these are. What lay in memory stays.
-/
import Derived.Test.YtblmpaplggnajaaDoorUIter
namespace Go.Proofs.YtblmpaplggnajaaDoor.U
open Go.RowKit Go.Shelf Go.Lib
attribute [local go_sem] Oper.semAt_some
set_option linter.unusedVariables false

theorem chars_fn (a : Option Addr) (n cap : Nat) (w : World) : Calls Tryd.prog 49 #[.slice a n cap] w fun e w' => e = .returned (.func (.func 68) #[] #[.pointer (some ⟨w.heap.size, 0, none⟩)]) ∧ w' = w.alloc (.cells #[.slice a n cap] 36) := by
  go_enter Tryd.func49, Tryd.ntmps49
  go_wp2
  go_ret
  exact ⟨rfl, rfl⟩

theorem iter_stops (n : Nat) (hn : 1 ≤ n) (bn n0 : Nat) (a : Option Addr) (cap : Nat) (l : List Nat) (w : World)
    (hbn : Boxed w bn 36 (.slice a l.length cap)) (hl : Bts w a l) (hlb : l ≠ [] → ∀ b off, a = some ⟨b, off, none⟩ → b < n0) (hT : Tabs w) (hn0 : n0 ≤ w.heap.size) (h2 : 2 ≤ n0) (hcap : l.length ≤ cap) (hm : cap ≤ maxLen) :
    SeqStopsK Fence.wide n Tryd.prog 68 #[.pointer (some ⟨bn, 0, none⟩)] chVals (KpT n0 bn) (fun ys => ys.map (·.1) = chars l) (fun _ => True) l.length w := fun lp J Jx W hW hJ _ hY h0 =>
  iter_in n hn lp bn n0 a cap l J Jx W hJ hY ((hW.block bn hbn.lt).trans hbn) (hl.below hW (Nat.le_refl _)) hlb (hT.below hW) (Nat.le_trans hn0 hW.size) h2 hcap hm h0

theorem own_form {w : World} {base : Nat} {v : Value} {l : List Nat} (h : Own w base v l) (hl : 1 ≤ l.length) : ∃ g cap, v = .slice (some ⟨g, 0, none⟩) l.length cap := by
  rcases h.2 with ⟨_, h0⟩ | ⟨g, cap, _, rfl, _⟩
  · omega
  · exact ⟨g, cap, rfl⟩
theorem own_cells {w : World} {base : Nat} {e : TypeId} {v : Value} {n : Nat} {xs : List Value} (h : w.ownsRow base e 1 v n xs) : ∀ (j : Nat) (o : Obj), v.ownBlock = some j → w.heap[j]? = some o → o.isCells = true := by
  intro j o hj ho
  rcases h.2 with ⟨rfl, _⟩ | ⟨g, cap, cur, rfl, _, hg, _⟩
  · simp [Value.ownBlock] at hj
  · obtain rfl : g = j := by simpa [Value.ownBlock] using hj
    rw [hg] at ho
    cases ho
    rfl
theorem own_base {w : World} {base : Nat} {e : TypeId} {v : Value} {n : Nat} {xs : List Value} (h : w.ownsRow base e 1 v n xs) : ∀ j, v.ownBlock = some j → base ≤ j := by
  intro j hj
  rcases h.2 with ⟨rfl, _⟩ | ⟨g, cap, cur, rfl, hb, _⟩
  · simp [Value.ownBlock] at hj
  · obtain rfl : g = j := by simpa [Value.ownBlock] using hj
    exact hb

/-- The bytes of characters. -/
def tl (pre : List Ch) : List Nat := (pre.map (·.1)).flatMap enc
theorem tl_snoc (pre : List Ch) (x : Ch) : tl (pre ++ [x]) = tl pre ++ enc x.1 := by simp [tl]
theorem tl_len (pre : List Ch) : (tl pre).length ≤ 4 * pre.length := by
  induction pre with
  | nil => simp [tl]
  | cons x pre ih =>
    have h := (enc_len x.1).2
    have e : tl (x :: pre) = enc x.1 ++ tl pre := by simp [tl]
    rw [e, List.length_append, List.length_cons]
    omega

theorem bts_lt {w : World} {a : Option Addr} {l : List Nat} (hl : Bts w a l) (hne : l ≠ []) : ∀ b off, a = some ⟨b, off, none⟩ → b < w.heap.size := by
  intro b off e
  obtain ⟨b', off', rfl, hc⟩ := hl.2 hne
  cases e
  exact block_lt_of_cell (hc 0 (List.length_pos_iff.2 hne))

set_option maxRecDepth 100000 in
set_option maxHeartbeats 2000000 in
theorem count_in (a : Option Addr) (cap : Nat) (l : List Nat) (w : World) (hl : Bts w a l) (hcap : l.length ≤ cap) (hm : cap ≤ maxLen) (hlen : l.length ≤ 100000) (hT : Tabs w) :
    CallsIn Fence.wide 4 Tryd.prog 33 #[.slice a l.length cap] w fun e W' => e = .returned (.int .i64 ((chars l).length : Nat)) ∧ Below w.heap.size w W' := by
  have h2 := hT.size
  refine callsIn_of_wp_marks Tryd.func33 rfl trivial ?_ rfl
  simp only [Tryd.ntmps33, List.size_toArray, List.length_cons, List.length_nil, Nat.reduceAdd, Nat.reduceSub, Array.replicate_succ, Array.replicate_zero, List.push_toArray, List.append_toArray, List.nil_append, List.cons_append]
  have K1 := Lib.hid (chars_fn a l.length cap)
  have Hl := Lib.hid hl
  have HT := Lib.hid hT
  have Hlb := Lib.hid (bts_lt hl)
  clear hl hT
  gi_wp2_with (refine ⟨trivial, ?_⟩; gi_at_call 49; refine (callsIn_wide.2 (K1.out _)).mono ?_; rintro e w' ⟨rfl, rfl⟩)
  have bO := Boxed.new w 3 (.int .i64 0)
  have bN := Boxed.new (w.alloc (.cells #[.int .i64 0] 3)) 36 (.slice a l.length cap)
  rw [World.size_alloc] at bN
  have hB0 : Below w.heap.size w ((w.alloc (.cells #[.int .i64 0] 3)).alloc (.cells #[.slice a l.length cap] 36)) := ((Below.refl _ w).alloc (Nat.le_refl _) _).alloc (by simp) _
  refine wpIn_rangeFunc_ownG rfl (by omega) (gf := 68) (lb := #[.pointer (some ⟨w.heap.size + 1, 0, none⟩)]) rfl trivial (enters_of Tryd.func68 (by kernel_rfl) rfl)
    (iter_stops 3 (by omega) (w.heap.size + 1) w.heap.size a cap l _ bN (Hl.out.below hB0 (Nat.le_refl _)) Hlb.out (HT.out.below hB0) (by simp; omega) h2 hcap hm) KpT.t (KpT.b (by simp; omega) (by simp)) (Below.refl _ _) (fun _ => rfl)
    (fun pre W => Boxed W w.heap.size 3 (.int .i64 (pre.length : Nat)) ∧ (Boxed W (w.heap.size + 1) 36 (.slice a l.length cap) ∧ Below w.heap.size w W))
    (fun _ _ _ => False)
    (OwnFrom.and (Own.from (boxed_own _ _ (fun pre : List Ch => .int .i64 (pre.length : Nat))) _) (OwnFrom.and (Own.from (boxed_own _ _ _) _) (ownFrom_below (Nat.le_refl _) (by simp; omega))))
    (fun _ _ _ _ _ hs _ _ => hs)
    ⟨bO.alloc _, bN, hB0⟩
    (fun x => { tmps := #[.slice a l.length cap, undef, .int .i64 0, .pointer (some ⟨w.heap.size, 0, none⟩), .slice a l.length cap, .func (.func 68) #[] #[.pointer (some ⟨w.heap.size + 1, 0, none⟩)], .int .i32 (x.1 : Int), undef, undef, undef], defers := [] }) ?assign ?body ?done ?stop
  case assign =>
    intro lp x W K hK
    simp only [chVals]
    gi_wp2
    simpa using hK
  case body =>
    rintro lp pre x W ⟨hv, hbx, hB⟩ hlt
    have hc := hv.cell
    have hf := hv.frozen
    have hsz := hB.size
    have Hv := Lib.hid hv
    have Hbx := Lib.hid hbx
    clear hv hbx
    gi_wp2
    have hbx2 := Hbx.out.other (show w.heap.size + 1 ≠ w.heap.size by omega) (.int .i64 ((pre.length : Int) + 1))
    have hko := KeepsOthers.setCell W ⟨w.heap.size, 0, none⟩ (.int .i64 ((pre.length : Int) + 1))
    have hbl := (Below.refl w.heap.size W).setCell (p := ⟨w.heap.size, 0, none⟩) (Nat.le_refl _) (.int .i64 ((pre.length : Int) + 1))
    refine ⟨hko.from _, ⟨hko.walks, hbl, hbx2.trans Hbx.out.symm⟩, ?_, hbx2, hB.trans hbl⟩
    have e : (((pre ++ [x]).length : Nat) : Int) = (pre.length : Int) + 1 := by simp
    rw [e]
    exact Hv.out.set _
  case done =>
    rintro D ys W hD hys ⟨hv, hbx, hB⟩ hK
    have hc := hv.cell
    gi_wp2
    refine ⟨by simp, .inl ⟨_, _, rfl, run_takeDeferred hK, ?_⟩⟩
    refine ⟨_, results_tmp rfl _ _ _, ?_, hB.trans (belowK_b (w := w) (Nat.le_refl _) W D _ _ (by simp at hD; omega) hK rfl rfl)⟩
    have e : (chars l).length = ys.length := by rw [← hys]; simp
    rw [e]
    rfl
  case stop =>
    rintro D c pre W _ _ h _
    exact h.elim

theorem count_any (a : Option Addr) (cap : Nat) (l : List Nat) (w : World) (hl : Bts w a l) (hcap : l.length ≤ cap) (hm : cap ≤ maxLen) (hlen : l.length ≤ 100000) (hT : Tabs w) :
    Calls Tryd.prog 33 #[.slice a l.length cap] w (OneInt (chars l).length w) :=
  (callsIn_wide (n := 4)).1 (count_in a cap l w hl hcap hm hlen hT)

end Go.Proofs.YtblmpaplggnajaaDoor.U
