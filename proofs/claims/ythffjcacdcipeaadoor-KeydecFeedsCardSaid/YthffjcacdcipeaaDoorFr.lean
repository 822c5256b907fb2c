/-
  The decoder: first: the key that what is held begins with, looked at in cells of its own.
-/
import Derived.Test.YthffjcacdcipeaaDoorFst
import Derived.Deep.RegionHeld3
namespace Go.Proofs.YthffjcacdcipeaaDoor
open Go.RowKit Go.Lib
set_option linter.unusedVariables false

/-- An array of 36 bytes known whole. -/
def Bx (w : World) (g : Nat) (C : List UInt8) : Prop := w.heap[g]? = some (.cells (C.map bval).toArray 90 (0, 0))
theorem Bx.lt {w : World} {g : Nat} {C : List UInt8} (h : Bx w g C) : g < w.heap.size := (Array.getElem?_eq_some_iff.1 h).1
theorem Bx.cell {w : World} {g : Nat} {C : List UInt8} (h : Bx w g C) {i : Nat} (hi : i < C.length) : w.cell? ⟨g, i, none⟩ = some (bval (C[i]!)) := by
  rw [cell_of_row w g i _ _ _ h]
  simp [hi]
theorem Bx.fz {w : World} {g : Nat} {C : List UInt8} (h : Bx w g C) (i : Nat) : w.frozen? ⟨g, i, none⟩ = false := frozen_of_row w g i _ _ h
theorem Bx.bts {w : World} {g : Nat} {C : List UInt8} (h : Bx w g C) : Bts w (some ⟨g, 0, none⟩) C := fun _ => ⟨g, 0, rfl, fun i hi => by rw [Nat.zero_add]; exact h.cell hi⟩
theorem Bx.other {w w' : World} {g : Nat} {C : List UInt8} {F F' : List Nat} (h : Bx w g C) (hs : Stp F w F' w') (hF : g ∉ F) : Bx w' g C := (hs.block g h.lt hF).trans h
theorem Bx.new (w : World) : Bx (w.alloc (Obj.cells #[.int .u8 0, .int .u8 0, .int .u8 0, .int .u8 0, .int .u8 0, .int .u8 0, .int .u8 0, .int .u8 0, .int .u8 0, .int .u8 0, .int .u8 0, .int .u8 0, .int .u8 0, .int .u8 0, .int .u8 0, .int .u8 0, .int .u8 0, .int .u8 0, .int .u8 0, .int .u8 0, .int .u8 0, .int .u8 0, .int .u8 0, .int .u8 0, .int .u8 0, .int .u8 0, .int .u8 0, .int .u8 0, .int .u8 0, .int .u8 0, .int .u8 0, .int .u8 0, .int .u8 0, .int .u8 0, .int .u8 0, .int .u8 0] 90)) w.heap.size (List.replicate 36 0) := by
  unfold Bx
  rw [heap_alloc_new]
  rfl
theorem len36 : Tryd.prog.arrayLen 90 = 36 := by kernel_rfl
theorem und36 : Tryd.prog.underlying 90 = some (.array (Tryd.prog.arrayLen 90) (Tryd.prog.elem 90)) := by kernel_rfl
theorem elem36 : Tryd.prog.elem 90 = 5 := by kernel_rfl
theorem slice36 (g : Nat) (W : World) : (Instr.sliceAt 90 (.pointer (some ⟨g, 0, none⟩)) none none none).run Tryd.prog W = .ok (.slice (some ⟨g, 0, none⟩) 36 36) W := by
  rw [run_sliceAt_array_all W 90 ⟨g, 0, none⟩ und36, elem36, size8, len36]
  simp [Result.andThen, slicedAt, addr_add]
theorem slice36h (g n : Nat) (hn : n ≤ 36) (W : World) : (Instr.sliceAt 90 (.pointer (some ⟨g, 0, none⟩)) none (some (.int .i64 (n : Int))) none).run Tryd.prog W = .ok (.slice (some ⟨g, 0, none⟩) n 36) W := by
  rw [run_sliceAt_array_h W 90 ⟨g, 0, none⟩ und36 .i64 (n : Int) (by omega) (by rw [len36]; omega), elem36, size8, len36]
  simp [Result.andThen, slicedAt, addr_add]
theorem copyx_any {w : World} {g n sC : Nat} {sp : Option Addr} {C l : List UInt8} (ty : TypeId) (hB : Bx w g C) (hs : Bts w sp l) (hn : l.length = n) (h36 : n ≤ 36) (hC : C.length = 36) :
    ∃ w', (Builtin.copy_ #[29, 29] ty #[.slice (some ⟨g, 0, none⟩) 36 36, .slice sp n sC]).run Tryd.prog w = .ok (.int .i64 (n : Int)) w' ∧ Bx w' g (lay C 0 l) ∧ Stp [g] w [g] w' := by
  by_cases hl : l = []
  · subst hl
    obtain rfl : n = 0 := hn.symm
    refine ⟨w, ?_, by rw [lay_nil]; exact hB, Stp.refl _ _⟩
    exact run_copy_none (P := Tryd.prog) w _ _ ty _ (some ⟨g, 0, none⟩) sp 36 36 0 sC Tryd.underlying29 info8 rfl
  · obtain ⟨b, o, rfl, _⟩ := hs hl
    have hrun := run_copy_row (P := Tryd.prog) w 29 29 ty 5 g 0 36 36 ⟨b, o, none⟩ n sC _ _ (l.map bval) Tryd.underlying29 info8 hB (by rw [List.length_map, hn]; exact (Nat.min_eq_left h36).symm) hs.cells (by simp; omega) (map_bval_one l)
    rw [List.length_map, hn] at hrun
    refine ⟨_, hrun, ?_, ?_⟩
    · unfold Bx
      rw [setRow_heap w g _ _ _ _ hB]
      simp [lay, hn]
    · exact ⟨rfl, rfl, rfl, by simp [World.setRow], fun k hk hF => setRow_other w g k _ (by simpa using hF), fun _ h => .inl h⟩
theorem clearx_any {w : World} {g : Nat} {C : List UInt8} (ty : TypeId) (hB : Bx w g C) (hC : C.length = 36) :
    ∃ w', (Builtin.clear_ #[29] ty #[.slice (some ⟨g, 0, none⟩) 36 36]).run Tryd.prog w = .ok (.tuple #[]) w' ∧ Bx w' g (List.replicate 36 0) ∧ Stp [g] w [g] w' := by
  have hrun := run_clear_slice (P := Tryd.prog) w 29 5 ty (.int .u8 0) Tryd.underlying29 zero8 rfl rfl g 0 36 36 (by omega) (fun j hj => by rw [hB.cell (by omega)]; rfl) (fun j hj => hB.fz _)
  refine ⟨_, hrun, ?_, setCells_other g _ 0 w⟩
  unfold Bx
  rw [heap_setCells g _ 0 w _ _ hB (by simp; omega)]
  have : (C.map bval).drop 36 = [] := List.drop_eq_nil_of_le (by simp; omega)
  simp [bval, hC]
section
variable {W : World} {d b g N : Nat} {l : List UInt8} {p : Bool}
/-- The bytes laid into the 36 cells. -/
def Laid36 (k : Nat) (l : List UInt8) (W : World) (e : Ending) (w' : World) : Prop := e = .returned (.int .i64 (l.length : Int)) ∧ Bx w' k (l ++ List.replicate (36 - l.length) 0) ∧ Stp [k] W [k] w'
theorem copyx_run (h : Ar W b g N l) (k : Nat) (hB : Bx W k (List.replicate 36 0)) (hl : l.length ≤ 36) (hk : k ≠ g) : Calls Tryd.prog 35 #[.pointer (some ⟨b, 0, none⟩), .slice (some ⟨k, 0, none⟩) 36 36] W (Laid36 k l W) := by
  have c0 := h.c0
  have c1 := h.c1
  have hu := h.le
  have s1 := cut_h (some ⟨g, 0, none⟩) N N l.length hu
  obtain ⟨w1, hr1, hB1, hs1⟩ := copyx_any (w := W.drew) (n := l.length) (sC := N) (sp := some ⟨g, 0, none⟩) (l := l) 3 (hB.other (Stp.drew [] W) (fun h => by cases h))
    (by
      have := (Ar.stays h (Stp.drew [] W)).row.bts
      unfold pad at this
      exact this.head) rfl hl (by simp)
  have e : lay (List.replicate 36 (0 : UInt8)) 0 l = l ++ List.replicate (36 - l.length) 0 := by
    unfold lay
    rw [List.take_zero, List.nil_append, Nat.zero_add, List.drop_replicate]
  rw [e] at hB1
  have H1 := Lib.hid (And.intro hB1 hs1)
  clear h hB hB1 hs1 e
  go_enter Tryd.func35, Tryd.ntmps35
  go_wp2_with fail
  go_region
  go_wp2
  go_ret
  exact ⟨rfl, H1.out.1, (Stp.drew _ _).trans H1.out.2⟩
set_option maxHeartbeats 1000000 in
set_option maxRecDepth 100000 in
theorem first_run (h : Dc W d b g N l p) (hT : U.Tabs W) (hl : l ≠ []) (h36 : l.length ≤ 36) :
    Calls Tryd.prog 44 #[.pointer (some ⟨d, 0, none⟩)] W (DNext d b g N l p W (fst1 p l)) := by
  have HB := Lib.hid (And.intro h (And.intro hT (And.intro hl h36)))
  obtain ⟨o, ho⟩ : ∃ o, o = fst1 p l := ⟨_, rfl⟩
  have HO := Lib.hid ho
  rw [← ho]
  clear ho
  have hlt := h.lt.1
  have c0 := h.c0
  have hbx := Bx.new (W.alloc (.cells #[.int .i64 0, .int .i64 0] 41))
  have HA : Aside (At2 ((W.alloc (.cells #[.int .i64 0, .int .i64 0] 41)).alloc (Obj.cells #[.int .u8 0, .int .u8 0, .int .u8 0, .int .u8 0, .int .u8 0, .int .u8 0, .int .u8 0, .int .u8 0, .int .u8 0, .int .u8 0, .int .u8 0, .int .u8 0, .int .u8 0, .int .u8 0, .int .u8 0, .int .u8 0, .int .u8 0, .int .u8 0, .int .u8 0, .int .u8 0, .int .u8 0, .int .u8 0, .int .u8 0, .int .u8 0, .int .u8 0, .int .u8 0, .int .u8 0, .int .u8 0, .int .u8 0, .int .u8 0, .int .u8 0, .int .u8 0, .int .u8 0, .int .u8 0, .int .u8 0, .int .u8 0] 90)) W.heap.size 0 0 ∧ Dc ((W.alloc (.cells #[.int .i64 0, .int .i64 0] 41)).alloc (Obj.cells #[.int .u8 0, .int .u8 0, .int .u8 0, .int .u8 0, .int .u8 0, .int .u8 0, .int .u8 0, .int .u8 0, .int .u8 0, .int .u8 0, .int .u8 0, .int .u8 0, .int .u8 0, .int .u8 0, .int .u8 0, .int .u8 0, .int .u8 0, .int .u8 0, .int .u8 0, .int .u8 0, .int .u8 0, .int .u8 0, .int .u8 0, .int .u8 0, .int .u8 0, .int .u8 0, .int .u8 0, .int .u8 0, .int .u8 0, .int .u8 0, .int .u8 0, .int .u8 0, .int .u8 0, .int .u8 0, .int .u8 0, .int .u8 0] 90)) d b g N l p ∧ Bx ((W.alloc (.cells #[.int .i64 0, .int .i64 0] 41)).alloc (Obj.cells #[.int .u8 0, .int .u8 0, .int .u8 0, .int .u8 0, .int .u8 0, .int .u8 0, .int .u8 0, .int .u8 0, .int .u8 0, .int .u8 0, .int .u8 0, .int .u8 0, .int .u8 0, .int .u8 0, .int .u8 0, .int .u8 0, .int .u8 0, .int .u8 0, .int .u8 0, .int .u8 0, .int .u8 0, .int .u8 0, .int .u8 0, .int .u8 0, .int .u8 0, .int .u8 0, .int .u8 0, .int .u8 0, .int .u8 0, .int .u8 0, .int .u8 0, .int .u8 0, .int .u8 0, .int .u8 0, .int .u8 0, .int .u8 0] 90)) (W.heap.size + 1) (List.replicate 36 0) ∧ Stp [] W [] ((W.alloc (.cells #[.int .i64 0, .int .i64 0] 41)).alloc (Obj.cells #[.int .u8 0, .int .u8 0, .int .u8 0, .int .u8 0, .int .u8 0, .int .u8 0, .int .u8 0, .int .u8 0, .int .u8 0, .int .u8 0, .int .u8 0, .int .u8 0, .int .u8 0, .int .u8 0, .int .u8 0, .int .u8 0, .int .u8 0, .int .u8 0, .int .u8 0, .int .u8 0, .int .u8 0, .int .u8 0, .int .u8 0, .int .u8 0, .int .u8 0, .int .u8 0, .int .u8 0, .int .u8 0, .int .u8 0, .int .u8 0, .int .u8 0, .int .u8 0, .int .u8 0, .int .u8 0, .int .u8 0, .int .u8 0] 90))) :=
    ⟨(At2.new W 0 0).stays (Stp.alloc [] _ _), (h.stays (Stp.alloc [] W _)).stays (Stp.alloc [] _ _), by rw [World.size_alloc] at hbx; exact hbx, (Stp.alloc [] W _).trans (Stp.alloc [] _ _)⟩
  clear h hT hl h36 hbx
  go_enter Tryd.func44, Tryd.ntmps44
  go_wp2_with fail
  generalize (W.alloc (.cells #[.int .i64 0, .int .i64 0] 41)).alloc (Obj.cells #[.int .u8 0, .int .u8 0, .int .u8 0, .int .u8 0, .int .u8 0, .int .u8 0, .int .u8 0, .int .u8 0, .int .u8 0, .int .u8 0, .int .u8 0, .int .u8 0, .int .u8 0, .int .u8 0, .int .u8 0, .int .u8 0, .int .u8 0, .int .u8 0, .int .u8 0, .int .u8 0, .int .u8 0, .int .u8 0, .int .u8 0, .int .u8 0, .int .u8 0, .int .u8 0, .int .u8 0, .int .u8 0, .int .u8 0, .int .u8 0, .int .u8 0, .int .u8 0, .int .u8 0, .int .u8 0, .int .u8 0, .int .u8 0] 90) = w0 at *
  have q0 := Lib.hid (And.intro hlt c0)
  have hl := HA.out.2.1.lt
  replace c0 := HA.out.2.1.c0
  have KC : Hid (∀ W', Stp [] w0 [] W' → Calls Tryd.prog 35 #[.pointer (some ⟨b, 0, none⟩), .slice (some ⟨W.heap.size + 1, 0, none⟩) 36 36] W' (Laid36 (W.heap.size + 1) l W')) :=
    Lib.hid fun W' hs => copyx_run (HA.out.2.1.ar.stays hs) (W.heap.size + 1) (HA.out.2.2.1.other hs (by simp)) HB.out.2.2.2 (by have := HB.out.1.lt; omega)
  have s36 := slice36 (W.heap.size + 1)
  have s36h := slice36h (W.heap.size + 1) l.length HB.out.2.2.2
  go_region_held3 (fun w' => w'.cell? ⟨d, 0, none⟩ = some (.pointer (some ⟨b, 0, none⟩)))
    (first | assumption | go_keep)
    ((first
      | (go_at_call 35
         (with_reducible refine (KC.out _ (Stp.drew [] w0)).mono ?_)
         rintro _ w1 ⟨rfl, hb1, s1⟩
         have M1 : Aside (At2 w1 W.heap.size 0 0 ∧ Dc w1 d b g N l p ∧ Bx w1 (W.heap.size + 1) (l ++ List.replicate (36 - l.length) 0) ∧ Stp [] W [] w1) := by
           have h1 := HB.out.1.lt
           have h2 : Stp [W.heap.size + 1] w0 [W.heap.size + 1] w1 := (Stp.drew [W.heap.size + 1] w0).trans s1
           exact ⟨HA.out.1.other h2 (by simp), HA.out.2.1.other h2 (by simp; omega) (by simp; omega) (by simp; omega), hb1, HA.out.2.2.2.into h2 (fun i hi => .inr (by simp at hi; omega)) (by simp)⟩
         have c0w1 := M1.out.2.1.c0
         clear hb1 s1)))
  clear KC c0 HA
  have KN : Hid (Calls Tryd.prog 54 #[.pointer (some ⟨d, 0, none⟩), .slice (some ⟨W.heap.size + 1, 0, none⟩) l.length 36] w1 (DNext d b g N l p w1 o)) := Lib.hid (by rw [HO.out]; exact dnext_run M1.out.2.1 (utabs_other HB.out.2.1 M1.out.2.2.2 (by simp)) (some ⟨W.heap.size + 1, 0, none⟩) l.length 36 l M1.out.2.2.1.bts.head rfl HB.out.2.2.2 (by decide) (by have := HB.out.2.2.2; omega) HB.out.2.2.1)
  have hlt1 := M1.out.2.1.lt
  go_wp2_with fail
  refine KN.out.mono ?_
  clear HO
  cases o with
  | some f =>
    rintro _ w2 ⟨rfl, hd2, s2⟩
    have M2 : Aside (At2 w2 W.heap.size 0 0 ∧ Dc w2 d b g N l f.p ∧ Bx w2 (W.heap.size + 1) (l ++ List.replicate (36 - l.length) 0) ∧ Stp [d] W [d] w2) := by
      have h1 := HB.out.1.lt
      exact ⟨M1.out.1.other s2 (by simp; omega), hd2, M1.out.2.2.1.other s2 (by simp; omega), (M1.out.2.2.2.more (G := [d]) (by simp)).trans s2⟩
    clear KN M1 hd2 s2
    obtain ⟨x, fn, fp⟩ := f
    unfold kvp kv
    have hz2 := M2.out.2.2.1.lt
    obtain ⟨w3, hr3, hb3, s3⟩ := clearx_any 0 (M2.out.2.2.1.other (Stp.alloc [] w2 (.cells #[.int .i64 x.1, .int .i64 x.2] 41)) (by simp)) (by have := HB.out.2.2.2; simp; omega)
    have M3 : Aside (At2 w3 W.heap.size 0 0 ∧ At2 w3 w2.heap.size x.1 x.2 ∧ Dc w3 d b g N l fp ∧ Stp [d] W [d] w3) := by
      have h1 := HB.out.1.lt
      have h4 : Stp [W.heap.size + 1] w2 [W.heap.size + 1] w3 := (Stp.alloc [W.heap.size + 1] w2 _).trans s3
      exact ⟨M2.out.1.other h4 (by simp), (At2.new w2 x.1 x.2).other s3 (by simp; omega), M2.out.2.1.other h4 (by simp; omega) (by simp; omega) (by simp; omega), M2.out.2.2.2.into h4 (fun i hi => .inr (by simp at hi; omega)) (fun i hi => .inl hi)⟩
    obtain ⟨c0, c1, f0, f1⟩ := M3.out.1.cells
    obtain ⟨e0, e1, _, _⟩ := M3.out.2.1.cells
    have hlt3 := M3.out.1.lt
    have s36 := slice36 (W.heap.size + 1)
    clear M2 hb3 s3 hz2
    go_wp2
    refine bodyPost_ret (res_key3 rfl _ _ W.heap.size x.1 x.2 rfl (M3.out.1.set x.1 x.2)) rfl ⟨rfl, ?_⟩
    exact keyP_2 HB.out.1 M3.out.2.2.1 M3.out.2.2.2 (Nat.le_refl _) _ _
  | none =>
    rintro _ w2 ⟨z, q, rfl, hq, hd2, s2⟩
    have M2 : Aside (At2 w2 W.heap.size 0 0 ∧ Dc w2 d b g N l p ∧ Bx w2 (W.heap.size + 1) (l ++ List.replicate (36 - l.length) 0) ∧ Stp [d] W [d] w2) := by
      have h1 := HB.out.1.lt
      exact ⟨M1.out.1.other s2 (by simp; omega), hd2, M1.out.2.2.1.other s2 (by simp; omega), (M1.out.2.2.2.more (G := [d]) (by simp)).trans s2⟩
    have HQ : Aside (q ≠ 0) := hq
    clear KN M1 hd2 s2 hq
    unfold kv
    have hz2 := M2.out.2.2.1.lt
    obtain ⟨w3, hr3, hb3, s3⟩ := clearx_any 0 (M2.out.2.2.1.other (Stp.alloc [] w2 (.cells #[.int .i64 0, .int .i64 0] 41)) (by simp)) (by have := HB.out.2.2.2; simp; omega)
    have M3 : Aside (At2 w3 W.heap.size 0 0 ∧ At2 w3 w2.heap.size 0 0 ∧ Dc w3 d b g N l p ∧ Stp [d] W [d] w3) := by
      have h1 := HB.out.1.lt
      have h4 : Stp [W.heap.size + 1] w2 [W.heap.size + 1] w3 := (Stp.alloc [W.heap.size + 1] w2 _).trans s3
      exact ⟨M2.out.1.other h4 (by simp), (At2.new w2 0 0).other s3 (by simp; omega), M2.out.2.1.other h4 (by simp; omega) (by simp; omega) (by simp; omega), M2.out.2.2.2.into h4 (fun i hi => .inr (by simp at hi; omega)) (fun i hi => .inl hi)⟩
    obtain ⟨c0, c1, f0, f1⟩ := M3.out.1.cells
    obtain ⟨e0, e1, _, _⟩ := M3.out.2.1.cells
    have hlt3 := M3.out.1.lt
    have s36 := slice36 (W.heap.size + 1)
    clear M2 hb3 s3 hz2
    go_wp2
    refine bodyPost_ret (res_key3 rfl _ _ W.heap.size 0 0 rfl (M3.out.1.set 0 0)) rfl ⟨z, q, rfl, HQ.out, ?_⟩
    exact keyP_2 HB.out.1 M3.out.2.2.1 M3.out.2.2.2 (Nat.le_refl _) (.int .i64 0) (.int .i64 0)
end
end Go.Proofs.YthffjcacdcipeaaDoor
