/-
  utf.Text at any bytes: what isn't right is replaced. What lay in memory stays.
-/
import Derived.Test.YtdaenaoagejgeaaGreatDoorUIter
namespace Go.Proofs.YtdaenaoagejgeaaGreatDoor.U
open Go.RowKit Go.Shelf Go.Lib
attribute [local go_sem] Oper.semAt_some
set_option linter.unusedVariables false

theorem chars_fn (a : Option Addr) (n cap : Nat) (w : World) : Calls Tryz.prog 62 #[.slice a n cap] w fun e w' => e = .returned (.func (.func 76) #[] #[.pointer (some ⟨w.heap.size, 0, none⟩)]) ∧ w' = w.alloc (.cells #[.slice a n cap] 27) := by
  go_enter Tryz.func62, Tryz.ntmps62
  go_wp2
  go_ret
  exact ⟨rfl, rfl⟩

theorem iter_stops (n : Nat) (hn : 1 ≤ n) (bn n0 : Nat) (a : Option Addr) (cap : Nat) (l : List Nat) (w : World)
    (hbn : Boxed w bn 27 (.slice a l.length cap)) (hl : Bts w a l) (hlb : l ≠ [] → ∀ b off, a = some ⟨b, off, none⟩ → b < n0) (hT : Tabs w) (hn0 : n0 ≤ w.heap.size) (h2 : 4 ≤ n0) (hcap : l.length ≤ cap) (hm : cap ≤ maxLen) :
    SeqStopsK Fence.wide n Tryz.prog 76 #[.pointer (some ⟨bn, 0, none⟩)] chVals (KpT n0 bn) (fun ys => ys.map (·.1) = chars l) (fun _ => True) l.length w := fun lp J Jx W hW hJ _ hY h0 =>
  iter_in n hn lp bn n0 a cap l J Jx W hJ hY ((hW.block bn hbn.lt).trans hbn) (hl.below hW (Nat.le_refl _)) hlb (hT.below hW) (Nat.le_trans hn0 hW.size) h2 hcap hm h0

theorem own_form {w : World} {base : Nat} {v : Value} {l : List Nat} (h : Own w base v l) (hl : 1 ≤ l.length) : ∃ g cap, v = .slice (some ⟨g, 0, none⟩) l.length cap := by
  rcases h.2 with ⟨_, h0⟩ | ⟨g, cap, _, rfl, _⟩
  · omega
  · exact ⟨g, cap, rfl⟩
theorem own_cells {w : World} {base : Nat} {e : TypeId} {v : Value} {n : Nat} {xs : List Value} (h : w.ownsRow base e 1 v n xs) : ∀ (j : Nat) (o : Obj), v.ownBlock = some j → w.heap[j]? = some o → o.isCells = true := by
  intro j o hj ho
  rcases h.2 with ⟨rfl, _⟩ | ⟨g, cap, cur, rfl, _, hg, _⟩
  · simp [Value.ownBlock] at hj
  · obtain rfl : g = j := by simpa [Value.ownBlock] using hj
    rw [hg] at ho
    cases ho
    rfl
theorem own_base {w : World} {base : Nat} {e : TypeId} {v : Value} {n : Nat} {xs : List Value} (h : w.ownsRow base e 1 v n xs) : ∀ j, v.ownBlock = some j → base ≤ j := by
  intro j hj
  rcases h.2 with ⟨rfl, _⟩ | ⟨g, cap, cur, rfl, hb, _⟩
  · simp [Value.ownBlock] at hj
  · obtain rfl : g = j := by simpa [Value.ownBlock] using hj
    exact hb

/-- The bytes of characters. -/
def tl (pre : List Ch) : List Nat := (pre.map (·.1)).flatMap enc
theorem tl_snoc (pre : List Ch) (x : Ch) : tl (pre ++ [x]) = tl pre ++ enc x.1 := by simp [tl]
theorem tl_len (pre : List Ch) : (tl pre).length ≤ 4 * pre.length := by
  induction pre with
  | nil => simp [tl]
  | cons x pre ih =>
    have h := (enc_len x.1).2
    have e : tl (x :: pre) = enc x.1 ++ tl pre := by simp [tl]
    rw [e, List.length_append, List.length_cons]
    omega

theorem bts_lt {w : World} {a : Option Addr} {l : List Nat} (hl : Bts w a l) (hne : l ≠ []) : ∀ b off, a = some ⟨b, off, none⟩ → b < w.heap.size := by
  intro b off e
  obtain ⟨b', off', rfl, hc⟩ := hl.2 hne
  cases e
  exact block_lt_of_cell (hc 0 (List.length_pos_iff.2 hne))

set_option maxRecDepth 100000 in
set_option maxHeartbeats 2000000 in
theorem text_in (a : Option Addr) (cap : Nat) (l : List Nat) (w : World) (hl : Bts w a l) (hcap : l.length ≤ cap) (hm : cap ≤ maxLen) (hlen : l.length ≤ 1048576) (hT : Tabs w) :
    CallsIn Fence.wide 4 Tryz.prog 43 #[.slice a l.length cap] w fun e W' => ∃ v, e = .returned v ∧ Own W' w.heap.size v (textL l) ∧ Below w.heap.size w W' := by
  have h2 := hT.size
  refine callsIn_of_wp_marks Tryz.func43 rfl trivial ?_ rfl
  simp only [Tryz.ntmps43, List.size_toArray, List.length_cons, List.length_nil, Nat.reduceAdd, Nat.reduceSub, Array.replicate_succ, Array.replicate_zero, List.push_toArray, List.append_toArray, List.nil_append, List.cons_append]
  have K1 := Lib.hid (chars_fn a l.length cap)
  have Hl := Lib.hid hl
  have HT := Lib.hid hT
  have Hlb := Lib.hid (bts_lt hl)
  clear hl hT
  gi_wp2_with (refine ⟨trivial, ?_⟩; gi_at_call 62; refine (callsIn_wide.2 (K1.out _)).mono ?_; rintro e w' ⟨rfl, rfl⟩)
  have bO := Boxed.new w 27 (.slice none 0 0)
  have bN := Boxed.new (w.alloc (.cells #[.slice none 0 0] 27)) 27 (.slice a l.length cap)
  rw [World.size_alloc] at bN
  have hB0 : Below w.heap.size w ((w.alloc (.cells #[.slice none 0 0] 27)).alloc (.cells #[.slice a l.length cap] 27)) := ((Below.refl _ w).alloc (Nat.le_refl _) _).alloc (by simp) _
  refine wpIn_rangeFunc_ownG rfl (by omega) (gf := 76) (lb := #[.pointer (some ⟨w.heap.size + 1, 0, none⟩)]) rfl trivial (enters_of Tryz.func76 (by kernel_rfl) rfl)
    (iter_stops 3 (by omega) (w.heap.size + 1) w.heap.size a cap l _ bN (Hl.out.below hB0 (Nat.le_refl _)) Hlb.out (HT.out.below hB0) (by simp; omega) h2 hcap hm) KpT.t (KpT.b (by simp; omega) (by simp)) (Below.refl _ _) (fun _ => rfl)
    (fun pre W => (∃ v, Boxed W w.heap.size 27 v ∧ W.ownsRow w.heap.size 5 1 v (tl pre).length ((tl pre).map bval) ∧ True) ∧ (Boxed W (w.heap.size + 1) 27 (.slice a l.length cap) ∧ Below w.heap.size w W))
    (fun _ _ _ => False)
    (OwnFrom.and (Own.from (holdsRow_own w.heap.size w.heap.size 27 5 1 (fun pre => (tl pre).length) (fun pre => (tl pre).map bval) (fun pre v => True)) _) (OwnFrom.and (Own.from (boxed_own _ _ _) _) (ownFrom_below (Nat.le_refl _) (by simp; omega))))
    (fun _ _ _ _ _ hs _ _ => hs)
    ⟨⟨_, bO.alloc _, World.ownsRow_nil _ _ _ _, trivial⟩, bN, hB0⟩
    (fun x => { tmps := #[.slice a l.length cap, undef, .slice none 0 0, .pointer (some ⟨w.heap.size, 0, none⟩), .int .i32 (x.1 : Int), .slice a l.length cap, .func (.func 76) #[] #[.pointer (some ⟨w.heap.size + 1, 0, none⟩)], .int .i32 (x.1 : Int), undef, undef, undef, undef], defers := [] }) ?assign ?body ?done ?stop
  case assign =>
    intro lp x W K hK
    simp only [chVals]
    gi_wp2
    exact hK
  case body =>
    rintro lp pre x W ⟨⟨v, hv, hrow, _⟩, hbx, hB⟩ hlt
    have hc := hv.cell
    have htl := tl_len pre
    have hsz := hB.size
    have K2 := Lib.hid (rune_app W w.heap.size v (tl pre) x.1 x.2 hrow (by omega) hsz)
    have Hrow := Lib.hid hrow
    have Hv := Lib.hid hv
    have Hbx := Lib.hid hbx
    clear hrow hv hbx
    gi_wp2_with (refine ⟨trivial, ?_⟩; gi_at_call 22; refine (CallsIn.inRound lp (callsIn_wide.2 K2.out)).mono ?_; rintro e w1 ⟨v', rfl, ho, hg, hat⟩; obtain ⟨g', cap', rfl⟩ := own_form ho (by rw [List.length_append]; have := (enc_len x.1).1; omega); have hv1 := Hv.out.kept hg (Hv.out.not_row (by decide) Hrow.out); have hc1 := hv1.cell; have hf1 := hv1.frozen; have Hv1 := Lib.hid hv1; have Ho := Lib.hid ho; clear hv1 ho)
    have hrowc : ∀ (j : Nat) (o : Obj), v.ownBlock = some j → W.heap[j]? = some o → o.isCells = true := own_cells Hrow.out
    have hbx1 := Hbx.out.kept hg (Hbx.out.not_row (by decide) Hrow.out)
    have hbx2 := hbx1.other (show w.heap.size + 1 ≠ w.heap.size by omega) (.slice (some ⟨g', 0, none⟩) ((tl pre).length + (enc x.1).length) cap')
    have hko := (KeepsOthers.of_grownBy hg hrowc).trans (KeepsOthers.setCell w1 ⟨w.heap.size, 0, none⟩ (.slice (some ⟨g', 0, none⟩) ((tl pre).length + (enc x.1).length) cap'))
    have hbl := ((Below.refl w.heap.size W).grown hg hsz (own_base Hrow.out)).setCell (p := ⟨w.heap.size, 0, none⟩) (Nat.le_refl _) (.slice (some ⟨g', 0, none⟩) ((tl pre).length + (enc x.1).length) cap')
    refine ⟨hko.from _, ⟨hko.walks, hbl, hbx2.trans Hbx.out.symm⟩, ⟨_, Hv1.out.set _, ?_, trivial⟩, hbx2, hB.trans hbl⟩
    have ho' : Own w1 w.heap.size (.slice (some ⟨g', 0, none⟩) ((tl pre).length + (enc x.1).length) cap') (tl pre ++ enc x.1) := by
      rw [← List.length_append]
      exact Ho.out
    rw [tl_snoc]
    exact World.ownsRow.kept ho' (grownBy_setCell' w1 _ _) (.inr (Hv1.out.not_row (by decide) ho').symm)
  case done =>
    rintro D ys W hD hys ⟨⟨v, hv, hrow, _⟩, hbx, hB⟩ hK
    have hc := hv.cell
    gi_wp2
    refine ⟨by simp, .inl ⟨_, _, rfl, run_takeDeferred hK, ?_⟩⟩
    refine ⟨_, results_tmp rfl _ _ _, v, rfl, ?_, hB.trans (belowK_b (w := w) (Nat.le_refl _) W D _ _ (by simp at hD; omega) hK rfl rfl)⟩
    have e : textL l = tl ys := by unfold textL tl; rw [hys]
    unfold Own
    rw [e]
    exact ownsRow_putObj hrow _ hK rfl
  case stop =>
    rintro D c pre W _ _ h _
    exact h.elim

theorem text_any (a : Option Addr) (cap : Nat) (l : List Nat) (w : World) (hl : Bts w a l) (hcap : l.length ≤ cap) (hm : cap ≤ maxLen) (hlen : l.length ≤ 1048576) (hT : Tabs w) :
    Calls Tryz.prog 43 #[.slice a l.length cap] w fun e W' => ∃ v, e = .returned v ∧ Own W' w.heap.size v (textL l) ∧ Below w.heap.size w W' :=
  (callsIn_wide (n := 4)).1 (text_in a cap l w hl hcap hm hlen hT)

end Go.Proofs.YtdaenaoagejgeaaGreatDoor.U
