/-
  The decoder in memory; New, Held, Pastes, Reset, ofSequence, ofCharacter.
-/
import Derived.Test.YthffjcacdcipeaaDoorZero
import Derived.Test.YthffjcacdcipeaaDoorDcd
namespace Go.Proofs.YthffjcacdcipeaaDoor
open Go.RowKit Go.Lib
set_option linter.unusedVariables false

/-- A step, and then one in some of its blocks and in new ones. -/
theorem Stp.into {F F' G G' K : List Nat} {W W1 W2 : World} (h : Stp F W F' W1) (k : Stp G W1 G' W2) (hG : ∀ i ∈ G, i ∈ F ∨ W.heap.size ≤ i) (hK : ∀ i ∈ K, i ∈ F ∨ W.heap.size ≤ i) : Stp F W K W2 :=
  ⟨k.os.trans h.os, k.tape.trans h.tape, k.output.trans h.output, Nat.le_trans h.size k.size,
    fun i hi hF => (k.block i (Nat.lt_of_lt_of_le hi h.size) (fun g => by rcases hG i g with e | e; exact hF e; omega)).trans (h.block i hi hF), hK⟩
/-- The decoder at d, whose arena at b has the bytes l; is a paste begun? -/
structure Dc (W : World) (d b g N : Nat) (l : List UInt8) (p : Bool) : Prop where
  obj : W.heap[d]? = some (.cells #[.pointer (some ⟨b, 0, none⟩), .bool p] 63 (0, 0))
  ar : Ar W b g N l
  big : 36 ≤ N
  db : d ≠ b
  dg : d ≠ g
  lo : 3 ≤ d ∧ 3 ≤ b ∧ 3 ≤ g
section
variable {W W' : World} {d b g N : Nat} {l : List UInt8} {p : Bool}
theorem Dc.c0 (h : Dc W d b g N l p) : W.cell? ⟨d, 0, none⟩ = some (.pointer (some ⟨b, 0, none⟩)) := by rw [cell_of_row W d 0 _ _ _ h.obj]; rfl
theorem Dc.c1 (h : Dc W d b g N l p) : W.cell? ⟨d, 1, none⟩ = some (.bool p) := by rw [cell_of_row W d 1 _ _ _ h.obj]; rfl
theorem Dc.f1 (h : Dc W d b g N l p) : W.frozen? ⟨d, 1, none⟩ = false := frozen_of_row W d 1 _ _ h.obj
theorem Dc.lt (h : Dc W d b g N l p) : d < W.heap.size ∧ b < W.heap.size ∧ g < W.heap.size := ⟨(Array.getElem?_eq_some_iff.1 h.obj).1, Cl.lt h.ar, h.ar.row.lt⟩
theorem Dc.other {F F' : List Nat} (h : Dc W d b g N l p) (hs : Stp F W F' W') (hd : d ∉ F) (hb : b ∉ F) (hg : g ∉ F) : Dc W' d b g N l p :=
  ⟨(hs.block d h.lt.1 hd).trans h.obj, h.ar.other hs hb hg, h.big, h.db, h.dg, h.lo⟩
theorem Dc.stays {F : List Nat} (h : Dc W d b g N l p) (hs : Stp [] W F W') : Dc W' d b g N l p := h.other hs (by simp) (by simp) (by simp)
/-- Its arena has other bytes. -/
theorem Dc.turn {l' : List UInt8} (h : Dc W d b g N l p) (hs : Stp [b, g] W [b, g] W') (ha : Ar W' b g N l') : Dc W' d b g N l' p :=
  ⟨(hs.block d h.lt.1 (by simp [h.db, h.dg])).trans h.obj, ha, h.big, h.db, h.dg, h.lo⟩
theorem Dc.set (h : Dc W d b g N l p) (p' : Bool) : Dc (W.setCell ⟨d, 1, none⟩ (.bool p')) d b g N l p' :=
  ⟨heap_setCell_same W d 1 _ _ _ h.obj, h.ar.other (Stp.setCell (F := [d]) (a := ⟨d, 1, none⟩) W (.bool p') (by simp)) (by simpa using h.db.symm) (by simpa using h.dg.symm), h.big, h.db, h.dg, h.lo⟩
end

/-! ### What the library's tables hold -/
theorem utabs_other {W W' : World} {F F' : List Nat} (h : U.Tabs W) (hs : Stp F W F' W') (hF : ∀ k ∈ F, 3 ≤ k) : U.Tabs W' := by
  refine ⟨fun c hc => ?_, fun i hi => ⟨?_, ?_⟩⟩
  · exact (hs.cell (a := ⟨1, c, none⟩) (block_lt_of_cell (h.1 c hc)) (fun g => by have := hF _ g; simp at this)).trans (h.1 c hc)
  · exact (hs.cell (a := ⟨2, 2 * i, none⟩) (block_lt_of_cell (h.2 i hi).1) (fun g => by have := hF _ g; simp at this)).trans (h.2 i hi).1
  · exact (hs.cell (a := ⟨2, 2 * i + 1, none⟩) (block_lt_of_cell (h.2 i hi).2) (fun g => by have := hF _ g; simp at this)).trans (h.2 i hi).2

/-! ### New -/
theorem dnew_nil (W : World) : Calls Tryd.prog 24 #[.pointer none] W (Gives (.tuple #[.pointer none, .int .i64 1]) W) := by
  go_enter Tryd.func24, Tryd.ntmps24
  go_wp2
  go_ret2
  exact ⟨rfl, rfl⟩
theorem dnew_no {W : World} {b g N : Nat} {l : List UInt8} (h : Ar W b g N l) (hN : N < 36) : Calls Tryd.prog 24 #[.pointer (some ⟨b, 0, none⟩)] W (Gives (.tuple #[.pointer none, .int .i64 12]) W) := by
  have K := Lib.hid (cap_cl h)
  have i1 : (N : Int) < 36 := by omega
  clear h hN
  go_enter Tryd.func24, Tryd.ntmps24
  go_wp2_with fail
  refine K.out.mono ?_
  rintro _ W ⟨rfl, rfl⟩
  go_wp2
  go_ret2
  exact ⟨rfl, rfl⟩
/-- What New answers. -/
def DNewed (b g N : Nat) (W : World) (e : Ending) (w' : World) : Prop := ∃ d, e = .returned (.tuple #[.pointer (some ⟨d, 0, none⟩), .int .i64 0]) ∧ W.heap.size ≤ d ∧ Dc w' d b g N [] false ∧ Stp [b, g] W [d, b, g] w'
theorem dnew_run {W : World} {b g N : Nat} {l : List UInt8} (h : Ar W b g N l) (hN : 36 ≤ N) (hlo : 3 ≤ b ∧ 3 ≤ g) : Calls Tryd.prog 24 #[.pointer (some ⟨b, 0, none⟩)] W (DNewed b g N W) := by
  have K := Lib.hid (cap_cl h)
  have K2 := Lib.hid (wipe_run h)
  have HL : Aside (b < W.heap.size ∧ g < W.heap.size) := ⟨Cl.lt h, h.row.lt⟩
  have i1 : ¬ (N : Int) < 36 := by omega
  clear h
  go_enter Tryd.func24, Tryd.ntmps24
  go_wp2_with fail
  refine K.out.mono ?_
  rintro _ W ⟨rfl, rfl⟩
  clear K
  go_wp2_with fail
  refine K2.out.mono ?_
  rintro _ w1 ⟨rfl, ha, hs⟩
  have H1 : Aside (Ar w1 b g N [] ∧ Stp [b, g] W [b, g] w1) := ⟨ha, hs⟩
  clear K2 ha hs
  go_wp2
  go_ret2
  have hsz := H1.out.2.size
  refine ⟨w1.heap.size, rfl, hsz, ⟨heap_alloc_new _ _, H1.out.1.stays (Stp.alloc [] w1 _), hN, ?_, ?_, by have := HL.out; omega, hlo⟩, ?_⟩
  · have := HL.out; omega
  · have := HL.out; omega
  · have h2 := H1.out.2.trans (Stp.alloc [b, g] w1 (.cells #[.pointer (some ⟨b, 0, none⟩), .bool false] 63))
    exact ⟨h2.os, h2.tape, h2.output, h2.size, h2.block, fun k hk => by
      simp only [List.mem_cons, List.not_mem_nil, or_false] at hk ⊢
      omega⟩

section
variable {W : World} {d b g N : Nat} {l : List UInt8} {p : Bool}
theorem held_nil (W : World) : Calls Tryd.prog 16 #[.pointer none] W (Gives (.int .i64 0) W) := by
  go_enter Tryd.func16, Tryd.ntmps16
  go_wp2
  go_ret
  exact ⟨rfl, rfl⟩
theorem held_run (h : Dc W d b g N l p) : Calls Tryd.prog 16 #[.pointer (some ⟨d, 0, none⟩)] W (Gives (.int .i64 (l.length : Int)) W) := by
  have c0 := h.c0
  have K := Lib.hid (len_cl h.ar)
  clear h
  go_enter Tryd.func16, Tryd.ntmps16
  go_wp2_with fail
  refine K.out.mono ?_
  rintro _ W ⟨rfl, rfl⟩
  go_wp2
  go_ret
  exact ⟨rfl, rfl⟩
theorem pastes_nil (W : World) : Calls Tryd.prog 18 #[.pointer none] W (Gives (.bool false) W) := by
  go_enter Tryd.func18, Tryd.ntmps18
  go_wp2
  go_ret
  exact ⟨rfl, rfl⟩
theorem pastes_run (h : Dc W d b g N l p) : Calls Tryd.prog 18 #[.pointer (some ⟨d, 0, none⟩)] W (Gives (.bool p) W) := by
  have c1 := h.c1
  clear h
  go_enter Tryd.func18, Tryd.ntmps18
  go_wp2
  go_ret
  exact ⟨rfl, rfl⟩
theorem reset_nil (W : World) : Calls Tryd.prog 23 #[.pointer none] W (Gives (.tuple #[]) W) := by
  go_enter Tryd.func23, Tryd.ntmps23
  go_wp2
  refine bodyPost_ret (results_none rfl _ _ _) rfl ?_
  exact ⟨rfl, rfl⟩
theorem reset_run (h : Dc W d b g N l p) : Calls Tryd.prog 23 #[.pointer (some ⟨d, 0, none⟩)] W fun e w' => e = .returned (.tuple #[]) ∧ Dc w' d b g N [] false ∧ Stp [d, b, g] W [d, b, g] w' := by
  have c0 := h.c0
  have K := Lib.hid (wipe_run h.ar)
  have H := Lib.hid h
  clear h
  go_enter Tryd.func23, Tryd.ntmps23
  go_wp2_with fail
  refine K.out.mono ?_
  rintro _ w1 ⟨rfl, ha, hs⟩
  have H1 : Aside (Dc w1 d b g N [] p ∧ Stp [b, g] W [b, g] w1) := ⟨H.out.turn hs ha, hs⟩
  have c1 := H1.out.1.c1
  have f1 := H1.out.1.f1
  clear K ha hs c0
  go_wp2
  go_end0
  exact ⟨rfl, H1.out.1.set false, (H1.out.2.more (by simp)).trans (Stp.setCell _ _ (by simp))⟩

/-! ### The key of a sequence, of a character -/
/-- A key as a value. -/
def kvp (x : Ky) : Value := kv x.1 x.2
/-- What a call answers that tells a key, and whether a paste is begun then. -/
def KeyP (d b g N : Nat) (l : List UInt8) (W : World) (x : Ky) (p' : Bool) (e : Ending) (w' : World) : Prop := e = .returned (kvp x) ∧ Dc w' d b g N l p' ∧ Stp [d] W [d] w'
theorem alloc2 (W : World) (o1 o2 : Obj) : ((W.alloc o1).alloc o2).heap[W.heap.size + 1]? = some o2 := by
  have := heap_alloc_new (W.alloc o1) o2
  rwa [World.size_alloc] at this
theorem alloc2s (W : World) (a : Addr) (v : Value) (o1 o2 : Obj) : (((W.setCell a v).alloc o1).alloc o2).heap[W.heap.size + 1]? = some o2 := by
  have := alloc2 (W.setCell a v) o1 o2
  rwa [World.size_setCell] at this
/-- A key is laid into a new block. -/
theorem keyP_2 {w1 : World} {q : Nat} {p' : Bool} {l' : List UInt8} (h : Dc W d b g N l p) (h1 : Dc w1 d b g N l' p') (hs : Stp [d] W [d] w1) (hq : W.heap.size ≤ q) (u v : Value) : Dc ((w1.setCell ⟨q, 0, none⟩ u).setCell ⟨q, 1, none⟩ v) d b g N l' p' ∧ Stp [d] W [d] ((w1.setCell ⟨q, 0, none⟩ u).setCell ⟨q, 1, none⟩ v) := by
  have hl := h.lt
  exact ⟨h1.other (At2.stp w1 q u v) (by simp; omega) (by simp; omega) (by simp; omega), hs.into (At2.stp w1 q u v) (fun i hi => .inr (by simp at hi; omega)) (fun i hi => .inl hi)⟩
theorem keyP_0 (h : Dc W d b g N l p) (o1 o2 : Obj) : Dc ((W.alloc o1).alloc o2) d b g N l p ∧ Stp [d] W [d] ((W.alloc o1).alloc o2) :=
  ⟨(h.stays (Stp.alloc [] W _)).stays (Stp.alloc [] _ _), (Stp.alloc [d] W _).trans (Stp.alloc [d] _ _)⟩
theorem keyP_1 (h : Dc W d b g N l p) (p' : Bool) (o1 o2 : Obj) : Dc (((W.setCell ⟨d, 1, none⟩ (.bool p')).alloc o1).alloc o2) d b g N l p' ∧ Stp [d] W [d] (((W.setCell ⟨d, 1, none⟩ (.bool p')).alloc o1).alloc o2) :=
  ⟨((h.set p').stays (Stp.alloc [] _ _)).stays (Stp.alloc [] _ _), (Stp.setCell (F := [d]) (a := ⟨d, 1, none⟩) W (.bool p') (by simp)).trans ((Stp.alloc [d] _ _).trans (Stp.alloc [d] _ _))⟩
set_option maxHeartbeats 1000000 in
set_option maxRecDepth 100000 in
theorem ofseq_run (h : Dc W d b g N l p) (k : Int) : Calls Tryd.prog 58 #[.pointer (some ⟨d, 0, none⟩), kv k 0] W (KeyP d b g N l W (osk p k).1 (osk p k).2) := by
  have HB := Lib.hid h
  have hlt := h.lt.1
  have c1 := h.c1
  have f1 := h.f1
  clear h
  unfold osk
  cases p with
  | true =>
    rw [if_pos rfl]
    by_cases hk : k = 14
    · subst hk
      rw [if_pos rfl]
      unfold kv
      go_enter Tryd.func58, Tryd.ntmps58
      go_wp2
      refine bodyPost_ret (res_key rfl _ _ (W.heap.size + 1) 14 0 rfl (alloc2s _ _ _ _ _)) rfl ⟨rfl, ?_⟩
      exact keyP_1 HB.out false _ _
    · rw [if_neg hk]
      unfold kv
      have hk1 : (k == 14) = false := beq_eq_false_iff_ne.2 hk
      clear hk
      go_enter Tryd.func58, Tryd.ntmps58
      go_wp2
      refine bodyPost_ret (res_key rfl _ _ (W.heap.size + 1) 15 0 rfl (alloc2 _ _ _)) rfl ⟨rfl, ?_⟩
      exact keyP_0 HB.out _ _
  | false =>
    rw [if_neg (by simp)]
    by_cases hk : k = 14
    · subst hk
      rw [if_pos rfl]
      unfold kv
      go_enter Tryd.func58, Tryd.ntmps58
      go_wp2
      refine bodyPost_ret (res_key rfl _ _ (W.heap.size + 1) 15 0 rfl (alloc2 _ _ _)) rfl ⟨rfl, ?_⟩
      exact keyP_0 HB.out _ _
    · rw [if_neg hk]
      have hk1 : (k == 14) = false := beq_eq_false_iff_ne.2 hk
      by_cases h3 : k = 13
      · subst h3
        rw [if_pos rfl]
        unfold kv
        clear hk hk1
        go_enter Tryd.func58, Tryd.ntmps58
        go_wp2
        refine bodyPost_ret (res_key rfl _ _ (W.heap.size + 1) 13 0 rfl (alloc2s _ _ _ _ _)) rfl ⟨rfl, ?_⟩
        exact keyP_1 HB.out true _ _
      · rw [if_neg h3]
        have hk3 : (k == 13) = false := beq_eq_false_iff_ne.2 h3
        unfold kv
        clear hk h3
        go_enter Tryd.func58, Tryd.ntmps58
        go_wp2
        refine bodyPost_ret (res_key rfl _ _ (W.heap.size + 1) k 0 rfl (alloc2 _ _ _)) rfl ⟨rfl, ?_⟩
        exact keyP_0 HB.out _ _
set_option maxHeartbeats 1000000 in
set_option maxRecDepth 100000 in
theorem ofchr_run (h : Dc W d b g N l p) (c : Int) (hc : (Lit.int .i64 c).wf = true) : Calls Tryd.prog 60 #[.pointer (some ⟨d, 0, none⟩), .int .i64 c] W (KeyP d b g N l W (ock p c) p) := by
  have HB := Lib.hid h
  have c1 := h.c1
  have hlt := h.lt.1
  have KP := Lib.hid (fun W => K.pr_run c W)
  have KO := Lib.hid (fun W => K.of_run c hc W)
  clear h hc
  unfold ock
  by_cases hp : p = true ∧ K.shown c = false
  · rw [if_pos hp]
    obtain ⟨rfl, hs⟩ := hp
    rw [hs] at KP
    clear hs
    go_enter Tryd.func60, Tryd.ntmps60
    go_wp2_with (go_at_call 50; refine (KP.out _).mono ?_; rintro _ w1 ⟨rfl, rfl⟩)
    refine bodyPost_ret (res_key rfl _ _ W.heap.size 15 0 rfl (heap_alloc_new _ _)) rfl ⟨rfl, HB.out.stays (Stp.alloc [] W _), Stp.alloc [d] W _⟩
  · rw [if_neg hp]
    generalize K.ofk c = x at *
    unfold kv at KO
    cases p with
    | true =>
      have hs : K.shown c = true := by
        cases e : K.shown c
        · exact absurd ⟨rfl, e⟩ hp
        · rfl
      rw [hs] at KP
      clear hs hp
      go_enter Tryd.func60, Tryd.ntmps60
      go_wp2_with (go_at_call 50; refine (KP.out _).mono ?_; rintro _ w1 ⟨rfl, rfl⟩)
      refine (KO.out _).mono ?_
      rintro _ w1 ⟨rfl, hs⟩
      have H1 : Aside (Dc w1 d b g N l true ∧ Stp [d] W [d] w1 ∧ At2 w1 W.heap.size 0 0) := ⟨(HB.out.stays (Stp.alloc [] W _)).stays hs, (Stp.alloc [d] W _).trans (hs.more (by simp)), (At2.new W 0 0).stays hs⟩
      clear hs
      obtain ⟨c0, c1, f0, f1⟩ := H1.out.2.2.cells
      have hlt2 := H1.out.2.2.lt
      go_wp2
      refine bodyPost_ret (res_key rfl _ _ W.heap.size x.1 x.2 rfl (H1.out.2.2.set x.1 x.2)) rfl ⟨rfl, ?_⟩
      exact keyP_2 HB.out H1.out.1 H1.out.2.1 (Nat.le_refl _) _ _
    | false =>
      clear hp
      go_enter Tryd.func60, Tryd.ntmps60
      go_wp2_with fail
      refine (KO.out _).mono ?_
      rintro _ w1 ⟨rfl, hs⟩
      have H1 : Aside (Dc w1 d b g N l false ∧ Stp [d] W [d] w1 ∧ At2 w1 W.heap.size 0 0) := ⟨(HB.out.stays (Stp.alloc [] W _)).stays hs, (Stp.alloc [d] W _).trans (hs.more (by simp)), (At2.new W 0 0).stays hs⟩
      clear hs
      obtain ⟨c0, c1, f0, f1⟩ := H1.out.2.2.cells
      have hlt2 := H1.out.2.2.lt
      go_wp2
      refine bodyPost_ret (res_key rfl _ _ W.heap.size x.1 x.2 rfl (H1.out.2.2.set x.1 x.2)) rfl ⟨rfl, ?_⟩
      exact keyP_2 HB.out H1.out.1 H1.out.2.1 (Nat.le_refl _) _ _
end
end Go.Proofs.YthffjcacdcipeaaDoor
