/-
  What the document's Read holds while it goes through all bytes; the document's Last.
-/
import Derived.Test.YthffjcacdcipeaaDoorAliveK
import Derived.Test.YthffjcacdcipeaaDoorRefNx
import Derived.Test.YthffjcacdcipeaaDoorKRef
import Derived.Test.YthffjcacdcipeaaDoorURef2
namespace Go.Proofs.YthffjcacdcipeaaDoor
open Go.RowKit Go.Lib
set_option linter.unusedVariables false

/-- The world of a goal by a name of its own. -/
theorem wlet {P : Program} {c : Code} {K : Exit → Act → World → Prop} {a : Act} {W : World} (h : ∀ w', w' = W → Code.wp P c K a w') : Code.wp P c K a W := h W rfl
/-- The document's Next at a list of bytes. -/
theorem rnx8_run (l : List UInt8) (a : Option Addr) (n cap : Nat) (w : World) (hb : Bts w a l) (hn : n = l.length) (hl : n ≤ 1000000) :
    Calls Tryd.prog 33 #[.slice a n cap] w (Tells (.tuple #[.int .i64 (nx8 l).1, .int .i64 (nx8 l).2.1, .int .i64 (nx8 l).2.2]) w) := by
  subst hn
  have h := U.ref_any a cap (l.map UInt8.toNat) w (K.bts_to_U hb) (by rw [List.length_map]; omega)
  rw [List.length_map] at h
  exact h.mono fun e w' ⟨he, hb⟩ => ⟨he, Stp.of_below hb⟩
theorem kof_no (c : Int) : K.kof c ≠ 13 ∧ K.kof c ≠ 14 := by
  have e : ∀ (p : Prop) [Decidable p] (a b : Nat), (a ≠ 13 ∧ a ≠ 14) → (b ≠ 13 ∧ b ≠ 14) → (if p then a else b) ≠ 13 ∧ (if p then a else b) ≠ 14 := by
    intro p _ a b ha hb
    split
    · exact ha
    · exact hb
  unfold K.kof
  exact e _ _ _ (by decide) (e _ _ _ (by decide) (e _ _ _ (by decide) (e _ _ _ (by decide) (e _ _ _ (by decide) (e _ _ _ (by decide) (e _ _ _ (by decide) (e _ _ _ (by decide) (e _ _ _ (by decide) (e _ _ _ (by decide) (e _ _ _ (by decide) (e _ _ _ (by decide) (e _ _ _ (by decide) (by decide)))))))))))))
theorem ofk_no (c : Int) : (K.ofk c).1 ≠ 13 ∧ (K.ofk c).1 ≠ 14 := by
  unfold K.ofk
  have := kof_no c
  split
  · exact ⟨by show (0 : Int) ≠ 13; decide, by show (0 : Int) ≠ 14; decide⟩
  · exact ⟨by show ((K.kof c : Nat) : Int) ≠ 13; omega, by show ((K.kof c : Nat) : Int) ≠ 14; omega⟩

/-! ### What Read holds -/
def AtT (W : World) (g : Nat) (v vh : Value) (p : Bool) : Prop := W.heap[g]? = some (.cells #[v, vh, .bool p] 32 (0, 0))
section
variable {W W' : World} {g : Nat} {v vh : Value} {p : Bool}
theorem AtT.lt (h : AtT W g v vh p) : g < W.heap.size := (Array.getElem?_eq_some_iff.1 h).1
theorem AtT.other {F F' : List Nat} (h : AtT W g v vh p) (hs : Stp F W F' W') (hF : g ∉ F) : AtT W' g v vh p := (hs.block g h.lt hF).trans h
theorem AtT.new (W : World) (v vh : Value) (p : Bool) : AtT (W.alloc (.cells #[v, vh, .bool p] 32)) W.heap.size v vh p := heap_alloc_new _ _
theorem AtT.cells (h : AtT W g v vh p) : W.cell? ⟨g, 0, none⟩ = some v ∧ W.cell? ⟨g, 1, none⟩ = some vh ∧ W.cell? ⟨g, 2, none⟩ = some (.bool p) ∧ W.frozen? ⟨g, 0, none⟩ = false ∧ W.frozen? ⟨g, 1, none⟩ = false ∧ W.frozen? ⟨g, 2, none⟩ = false :=
  ⟨by rw [cell_of_row W g 0 _ _ _ h]; rfl, by rw [cell_of_row W g 1 _ _ _ h]; rfl, by rw [cell_of_row W g 2 _ _ _ h]; rfl, frozen_of_row W g 0 _ _ h, frozen_of_row W g 1 _ _ h, frozen_of_row W g 2 _ _ h⟩
theorem AtT.set0 (h : AtT W g v vh p) (u : Value) : AtT (W.setCell ⟨g, 0, none⟩ u) g u vh p := heap_setCell_same W g 0 _ _ u h
theorem AtT.set1 (h : AtT W g v vh p) (u : Value) : AtT (W.setCell ⟨g, 1, none⟩ u) g v u p := heap_setCell_same W g 1 _ _ u h
theorem AtT.set2 (h : AtT W g v vh p) (u : Bool) : AtT (W.setCell ⟨g, 2, none⟩ (.bool u)) g v vh u := heap_setCell_same W g 2 _ _ (.bool u) h
end
/-- The bytes gone through, so far. -/
structure Rv (w wr : World) (q2 q3 : Nat) (l : List UInt8) (R : Rd) (i : Nat) (p : Bool) (ys : List Ky) (v1 : Value) : Prop where
  res : AtT wr q2 (.slice none 0 0) (.slice none 0 0) false
  t : AtT wr q3 v1 (.slice none 0 0) p
  row : KOwn wr (q3 + 1) v1 ys
  stp : Stp [] w [] wr
  eq : R = ⟨ys ++ (rd p (l.drop i)).ks, (rd p (l.drop i)).h, (rd p (l.drop i)).p⟩
  len : ys.length ≤ i
  q : q2 = w.heap.size ∧ q3 = w.heap.size + 1
theorem Rv.other {w wr W' : World} {q2 q3 i : Nat} {l : List UInt8} {R : Rd} {p : Bool} {ys : List Ky} {v1 : Value} {F F' : List Nat} (h : Rv w wr q2 q3 l R i p ys v1) (hs : Stp F wr F' W') (hF : ∀ k ∈ F, q3 < k ∧ ∀ j, v1.ownBlock = some j → j ≠ k) : Rv w W' q2 q3 l R i p ys v1 :=
  ⟨h.res.other hs (fun g => by have := (hF _ g).1; have := h.q; omega), h.t.other hs (fun g => by have := (hF _ g).1; omega), h.row.other hs (fun j hj g => (hF _ g).2 j hj rfl),
    h.stp.into hs (fun k hk => .inr (by have := (hF k hk).1; have := h.q; omega)) (by simp), h.eq, h.len, h.q⟩
theorem Rv.stays {w wr W' : World} {q2 q3 i : Nat} {l : List UInt8} {R : Rd} {p : Bool} {ys : List Ky} {v1 : Value} {F' : List Nat} (h : Rv w wr q2 q3 l R i p ys v1) (hs : Stp [] wr F' W') : Rv w W' q2 q3 l R i p ys v1 := h.other hs (by simp)
/-- What Read answers. -/
def Reads (R : Rd) (W : World) (e : Ending) (w' : World) : Prop := ∃ v vh, e = .returned (.agg #[v, vh, .bool R.p]) ∧ KOwn w' W.heap.size v R.ks ∧ Own w' W.heap.size vh R.h ∧ Stp [] W [] w'
theorem told_info : (Tryd.prog.info? 32).map (·.size) = some 3 := by kernel_rfl
theorem res_told {fn : Func} {p : Tmp} (h : fn.results = #[.cell p 32]) (tmps : Array Value) (w : World) (g : Nat) (v vh : Value) (q : Bool) (hp : tmps.getD p undef = .pointer (some ⟨g, 0, none⟩))
    (hg : AtT w g v vh q) : (results fn tmps).run Tryd.prog w = .ok (.agg #[v, vh, .bool q]) w :=
  results_cell_row h tmps w g _ _ _ _ hp hg Tryd.underlying32 rfl told_info

section
variable {w wk wX w8 : World} {q2 q3 i m : Nat} {l : List UInt8} {R : Rd} {p pn : Bool} {ys : List Ky} {x : Ky} {v1 v' vh : Value}
theorem Rv.X0 (h : Rv w wk q2 q3 l R i p ys v1) (x : Ky) : Stp [q3] wk [q3] (wk.alloc (.cells #[.int .i64 x.1, .int .i64 x.2] 41)) ∧ AtT (wk.alloc (.cells #[.int .i64 x.1, .int .i64 x.2] 41)) q3 v1 (.slice none 0 0) p ∧ KOwn (wk.alloc (.cells #[.int .i64 x.1, .int .i64 x.2] 41)) (q3 + 1) v1 ys ∧ Kts (wk.alloc (.cells #[.int .i64 x.1, .int .i64 x.2] 41)) (some ⟨wk.heap.size, 0, none⟩) [x] :=
  ⟨Stp.alloc _ _ _, h.t.other (Stp.alloc [] _ _) (by simp), h.row.stays (Stp.alloc [] _ _), key_new wk x⟩
theorem Rv.X1 (h : Rv w wk q2 q3 l R i p ys v1) (pn : Bool) (x : Ky) : Stp [q3] wk [q3] ((wk.setCell ⟨q3, 2, none⟩ (.bool pn)).alloc (.cells #[.int .i64 x.1, .int .i64 x.2] 41)) ∧ AtT ((wk.setCell ⟨q3, 2, none⟩ (.bool pn)).alloc (.cells #[.int .i64 x.1, .int .i64 x.2] 41)) q3 v1 (.slice none 0 0) pn ∧ KOwn ((wk.setCell ⟨q3, 2, none⟩ (.bool pn)).alloc (.cells #[.int .i64 x.1, .int .i64 x.2] 41)) (q3 + 1) v1 ys ∧ Kts ((wk.setCell ⟨q3, 2, none⟩ (.bool pn)).alloc (.cells #[.int .i64 x.1, .int .i64 x.2] 41)) (some ⟨wk.heap.size, 0, none⟩) [x] := by
  have hs : Stp [q3] wk [q3] (wk.setCell ⟨q3, 2, none⟩ (.bool pn)) := Stp.setCell _ _ (by simp)
  have hk := key_new (wk.setCell ⟨q3, 2, none⟩ (.bool pn)) x
  rw [World.size_setCell] at hk
  exact ⟨hs.trans (Stp.alloc _ _ _), (h.t.set2 pn).other (Stp.alloc [] _ _) (by simp), (h.row.other hs (fun k hk => by have := (h.row.lt k hk).1; simp; omega)).stays (Stp.alloc [] _ _), hk⟩
theorem Rv.push (h : Rv w wk q2 q3 l R i p ys v1) (hf : fst1 p (l.drop i) = some ⟨x, m, pn⟩) (hX : Stp [q3] wk [q3] wX) (hXt : AtT wX q3 v1 (.slice none 0 0) pn) (hrow : KOwn w8 (q3 + 1) v' (ys ++ [x])) (hgrow : wX.grownBy w8 v1.ownBlock) :
    Rv w (w8.setCell ⟨q3, 0, none⟩ v') q2 q3 l R (i + m) pn (ys ++ [x]) v' := by
  have hq := h.q
  have hown : ∀ k, v1.ownBlock = some k → q3 < k := fun k hk => by have := (h.row.lt k hk).1; omega
  have hown' : ∀ k, v'.ownBlock = some k → q3 < k := fun k hk => by have := (hrow.lt k hk).1; omega
  have hg : Stp v1.ownBlock.toList wX v1.ownBlock.toList w8 := grown_stp hgrow (fun k e => by simp [e]) (fun k hk => hk)
  have hgm : ∀ k, k ∈ v1.ownBlock.toList → q3 < k := fun k hk => hown k (by simpa using hk)
  have hset : Stp [q3] w8 [q3] (w8.setCell ⟨q3, 0, none⟩ v') := Stp.setCell _ _ (by simp)
  have hb : 1 ≤ m ∧ m ≤ _ := fst1_bd hf
  refine ⟨((h.res.other hX (by simp; omega)).other hg (fun e => by have := hgm _ e; omega)).other hset (by simp; omega), (hXt.other hg (fun e => by have := hgm _ e; omega)).set0 v', hrow.other hset (fun k hk => by have := hown' k hk; simp; omega), ?_, ?_, ?_, hq⟩
  · exact ((h.stp.into (K := []) hX (fun k hk => .inr (by simp at hk; omega)) (by simp)).into (K := []) hg (fun k hk => .inr (by have := hgm k hk; omega)) (by simp)).into hset (fun k hk => .inr (by simp at hk; omega)) (by simp)
  · have e := h.eq
    rw [rd_some hf] at e
    rw [e]
    simp [List.drop_drop]
  · have := h.len
    simp only [List.length_append, List.length_cons, List.length_nil]
    omega
/-- The result is laid. -/
theorem Rv.fin {W : World} {hs : List UInt8} (hq : q2 = w.heap.size ∧ q3 = w.heap.size + 1) (hres : AtT W q2 (.slice none 0 0) (.slice none 0 0) false) (hrow : KOwn W (q3 + 1) v1 ys) (hown : Own W (q3 + 1) vh hs) (hstp : Stp [] w [] W) :
    AtT (((W.setCell ⟨q2, 0, none⟩ v1).setCell ⟨q2, 1, none⟩ vh).setCell ⟨q2, 2, none⟩ (.bool p)) q2 v1 vh p ∧ KOwn (((W.setCell ⟨q2, 0, none⟩ v1).setCell ⟨q2, 1, none⟩ vh).setCell ⟨q2, 2, none⟩ (.bool p)) w.heap.size v1 ys ∧ Own (((W.setCell ⟨q2, 0, none⟩ v1).setCell ⟨q2, 1, none⟩ vh).setCell ⟨q2, 2, none⟩ (.bool p)) w.heap.size vh hs ∧ Stp [] w [] (((W.setCell ⟨q2, 0, none⟩ v1).setCell ⟨q2, 1, none⟩ vh).setCell ⟨q2, 2, none⟩ (.bool p)) := by
  have s : Stp [q2] W [q2] (((W.setCell ⟨q2, 0, none⟩ v1).setCell ⟨q2, 1, none⟩ vh).setCell ⟨q2, 2, none⟩ (.bool p)) :=
    (Stp.setCell (F := [q2]) (a := ⟨q2, 0, none⟩) W v1 (by simp)).trans ((Stp.setCell (F := [q2]) (a := ⟨q2, 1, none⟩) _ vh (by simp)).trans (Stp.setCell (F := [q2]) (a := ⟨q2, 2, none⟩) _ (.bool p) (by simp)))
  refine ⟨((hres.set0 v1).set1 vh).set2 p, (hrow.other s (fun k hk => by have := (hrow.lt k hk).1; simp; omega)).mono (by omega), ?_, hstp.into s (fun k hk => .inr (by simp at hk; omega)) (by simp)⟩
  have h1 := hown.other s (fun k hk => by have := (hown.lt k hk).1; simp; omega)
  refine ⟨h1.1, ?_⟩
  rcases h1.2 with hn | ⟨g, cap, cur, rfl, hg, rest⟩
  · exact .inl hn
  · exact .inr ⟨g, cap, cur, rfl, by omega, rest⟩
/-- What is held is laid. -/
theorem Rv.hold {W : World} {hs : List UInt8} (h : Rv w wk q2 q3 l R i p ys v1) (hX : Stp [] wk [] wX) (hnew : ∀ k, v'.ownBlock = some k → k = wk.heap.size) (hrow : Own W (q3 + 1) vh hs) (hgrow : wX.grownBy W v'.ownBlock) :
    AtT (W.setCell ⟨q3, 1, none⟩ vh) q2 (.slice none 0 0) (.slice none 0 0) false ∧ AtT (W.setCell ⟨q3, 1, none⟩ vh) q3 v1 vh p ∧ KOwn (W.setCell ⟨q3, 1, none⟩ vh) (q3 + 1) v1 ys ∧ Own (W.setCell ⟨q3, 1, none⟩ vh) (q3 + 1) vh hs ∧ Stp [] w [] (W.setCell ⟨q3, 1, none⟩ vh) := by
  have hq := h.q
  have hl := h.t.lt
  have hg : Stp v'.ownBlock.toList wX v'.ownBlock.toList W := grown_stp hgrow (fun k e => by simp [e]) (fun k hk => hk)
  have hgm : ∀ k, k ∈ v'.ownBlock.toList → k = wk.heap.size := fun k hk => hnew k (by simpa using hk)
  have hset : Stp [q3] W [q3] (W.setCell ⟨q3, 1, none⟩ vh) := Stp.setCell _ _ (by simp)
  have hl2 := h.res.lt
  refine ⟨((h.res.other hX (by simp)).other hg (fun e => by have := hgm _ e; omega)).other hset (by simp; omega), ((h.t.other hX (by simp)).other hg (fun e => by have := hgm _ e; omega)).set1 vh, ((h.row.stays hX).other hg (fun k hk e => by have := hgm k e; have := (h.row.lt k hk).2; omega)).other hset (fun k hk => by have := (h.row.lt k hk).1; simp; omega),
    hrow.other hset (fun k hk => by have := (hrow.lt k hk).1; simp; omega), ((h.stp.trans hX).into (K := []) hg (fun k hk => .inr (by have := hgm k hk; omega)) (by simp)).into hset (fun k hk => .inr (by simp at hk; omega)) (by simp)⟩
end
theorem ofk_zero (c : Int) : ((K.ofk c).1 = 0 ∧ K.shown c = true) ∨ ((K.ofk c).1 ≠ 0 ∧ K.shown c = false) := by
  unfold K.ofk
  cases h : K.shown c with
  | true => exact .inl ⟨rfl, rfl⟩
  | false =>
    refine .inr ⟨?_, rfl⟩
    show ((K.kof c : Nat) : Int) ≠ 0
    have := K.kof_pos c
    omega

/-! ### Last -/
/-- What Last answers. -/
def Lasts (h : List UInt8) (W : World) (e : Ending) (w' : World) : Prop := (∃ x : Ky, e = .returned (.tuple #[kvp x, .bool (!h.isEmpty)]) ∧ (h ≠ [] → lastk h = [x])) ∧ Stp [] W [] w'
set_option maxHeartbeats 1000000 in
set_option maxRecDepth 100000 in
theorem rlast_run (a : Option Addr) (n cap : Nat) (h : List UInt8) (w : World) (hb : Bts w a h) (hn : n = h.length) : Calls Tryd.prog 20 #[.slice a n cap] w (Lasts h w) := by
  rcases h with _ | ⟨c, r⟩
  · obtain rfl : n = 0 := hn
    go_enter Tryd.func20, Tryd.ntmps20
    go_wp2
    refine bodyPost_ret (res_key2 rfl _ _ w.heap.size 0 0 rfl (heap_alloc_new _ _)) rfl ⟨⟨(0, 0), rfl, fun h => absurd rfl h⟩, Stp.alloc [] w _⟩
  · obtain ⟨bb, off, rfl, hx⟩ := head_cell hb
    have hx0 := (Stp.alloc [] w (.cells #[.int .i64 0, .int .i64 0] 41)).keeps rfl hx
    have hn1 : ((n : Int) == 0) = false := beq_eq_false_iff_ne.2 (by subst hn; simp only [List.length_cons]; omega)
    have hn2 : (0 : Int) < (n : Int) := by subst hn; simp only [List.length_cons]; omega
    clear hb hn hx
    by_cases hc : c = 27
    · subst hc
      rw [show ((UInt8.toNat 27 : Nat) : Int) = 27 from rfl] at hx0
      go_enter Tryd.func20, Tryd.ntmps20
      go_wp2
      refine bodyPost_ret (res_key2 rfl _ _ w.heap.size 15 0 rfl (heap_alloc_new _ _)) rfl ⟨⟨(15, 0), rfl, fun _ => rfl⟩, Stp.alloc [] w _⟩
    · have hz : (((c.toNat : Nat) : Int) == 27) = false := beq_eq_false_iff_ne.2 (fun e => hc (UInt8.toNat_inj.1 (by show c.toNat = 27; omega)))
      generalize ((c.toNat : Nat) : Int) = z at *
      go_enter Tryd.func20, Tryd.ntmps20
      go_wp2
      refine bodyPost_ret (res_key2 rfl _ _ w.heap.size 0 65533 rfl (heap_alloc_new _ _)) rfl ⟨⟨(0, 65533), rfl, fun _ => ?_⟩, Stp.alloc [] w _⟩
      show (if c = 27 then [((15, 0) : Ky)] else [(0, 65533)]) = _
      rw [if_neg hc]
end Go.Proofs.YthffjcacdcipeaaDoor
