/-
  The statements' own helpers: begin, text, and the document's example.
-/
import Derived.Test.YtblmpaplggnajaaDoorBuf5
namespace Go.Proofs.YtblmpaplggnajaaDoor
open Go.RowKit Go.Lib Go.Maps
set_option linter.unusedVariables false

/-- A buffer that is new since w. -/
structure Eb (w W : World) (e b g N : Nat) (A B : List Nat) : Prop where
  bu : Bu W e b g N A B
  stp : Stp [] w [] W
  new : w.heap.size ≤ e ∧ w.heap.size ≤ b ∧ w.heap.size ≤ g
section
variable {w W W' : World} {e b g N : Nat} {A B A' B' : List Nat}
theorem Eb.stays {F : List Nat} (h : Eb w W e b g N A B) (hs : Stp [] W F W') : Eb w W' e b g N A B := ⟨h.bu.stays hs, h.stp.trans hs.none, h.new⟩
theorem Eb.act (h : Eb w W e b g N A B) (hb : Bu W' e b g N A' B') (hs : Stp [e, b, g] W [e, b, g] W') : Eb w W' e b g N A' B' :=
  ⟨hb, (h.stp.fresh hs (fun i hi => by have := h.new; simp at hi; omega)).none, h.new⟩
/-- What happens in blocks that are others. -/
theorem Eb.other {F F' : List Nat} (h : Eb w W e b g N A B) (hs : Stp F W F' W') (hF : ∀ k ∈ F, w.heap.size ≤ k ∧ k ≠ e ∧ k ≠ b ∧ k ≠ g) : Eb w W' e b g N A B :=
  ⟨h.bu.other hs (fun k => (hF e k).2.1 rfl) (fun k => (hF b k).2.2.1 rfl) (fun k => (hF g k).2.2.2 rfl), (h.stp.fresh (hs.more (fun k h => h)) (fun i hi => (hF i hi).1)).none, h.new⟩
end
/-- What begin answers. -/
def Begun (n : Nat) (W : World) (en : Ending) (w' : World) : Prop := ∃ e b g, en = .returned (.tuple #[.pointer (some ⟨b, 0, none⟩), .pointer (some ⟨e, 0, none⟩)]) ∧ Eb W w' e b g n [] []
theorem begin_run (n : Nat) (W : World) (h1 : 1 ≤ n) (h2 : n ≤ 4096) : Calls Tryd.prog 9 #[.int .i64 (n : Int)] W (Begun n W) := by
  have K1 := Lib.hid (new_run n W h1 h2)
  clear h1 h2
  go_enter Tryd.func9, Tryd.ntmps9
  go_wp2_with fail
  refine K1.out.mono ?_
  rintro _ w1 ⟨b, g, rfl, hb, hg, ha, s1⟩
  have K2 := Lib.hid (enew_run ha)
  have H1 : Aside (W.heap.size ≤ b ∧ W.heap.size ≤ g ∧ Stp [] W [b, g] w1) := ⟨hb, hg, s1⟩
  clear K1 hb hg ha s1
  go_wp2_with fail
  refine K2.out.mono ?_
  rintro _ w2 ⟨d, rfl, hd, hdc, s2⟩
  have H2 : Aside (Bu w2 d b g n [] [] ∧ Stp [b, g] w1 [d, b, g] w2 ∧ w1.heap.size ≤ d) := ⟨hdc, s2, hd⟩
  clear K2 hd hdc s2
  go_wp2
  go_ret2
  have hz := H1.out.2.2.size
  exact ⟨d, b, g, rfl, H2.out.1, (H1.out.2.2.trans H2.out.2.1).none, by have := H2.out.2.2; omega, H1.out.1, H1.out.2.1⟩
/-! ### text -/
theorem max_nat (n : Nat) : ∀ (w : World) (ts : Array TypeId) (t : TypeId), (Builtin.max_ ts t #[.int .i64 0, .int .i64 (n : Int)]).run Tryd.prog w = .ok (.int .i64 (n : Int)) w := fun w ts t => by
  rw [run_max_int2]
  by_cases h : (n : Int) > 0
  · rw [if_pos h]
  · rw [if_neg h, show (n : Int) = 0 by omega]
/-- A new row of noughts, by a name of its own. -/
theorem make_obj (n : Nat) (hn : n ≤ 1000000) : ∃ o, Hid (o = Obj.cells ((List.replicate n (0 : UInt8)).map bval).toArray 5) ∧ ∀ (w : World) (kl kc : IntKind), (Instr.makeSlice 36 (.int kl (n : Int)) (.int kc (n : Int))).run Tryd.prog w = .ok (.slice (some ⟨w.heap.size, 0, none⟩) n n) (w.alloc o) :=
  ⟨_, Lib.hid rfl, fun w kl kc => make_any w kl kc n hn⟩
theorem new_blk {o : Obj} {n : Nat} (w : World) (h : Hid (o = Obj.cells ((List.replicate n (0 : UInt8)).map bval).toArray 5)) : Blk (w.alloc o) w.heap.size (List.replicate n 0) := by
  unfold Blk
  rw [heap_alloc_new, h.out]
section
variable {W : World} {e b g N : Nat} {A B : List Nat}
set_option maxRecDepth 100000 in
theorem text_run (h : Bu W e b g N A B) : Calls Tryd.prog 21 #[.pointer (some ⟨e, 0, none⟩)] W (Tells (.string (st (fl (A ++ B)))) W) := by
  have K1 := Lib.hid (blen_run h)
  obtain ⟨l, hl⟩ : ∃ l, l = fl (A ++ B) := ⟨_, rfl⟩
  obtain ⟨n, hn⟩ : ∃ n, n = l.length := ⟨_, rfl⟩
  rw [← hl, ← hn] at K1
  rw [← hl]
  have hn2 : n ≤ 4096 := by have := h.lens; rw [hn, hl]; omega
  have hmn := min_fst n 4096 hn2
  have hmm := min_fst n n (Nat.le_refl n)
  obtain ⟨o, ho, hmk⟩ := make_obj n (by omega)
  have hmx := max_nat n
  have K2 : ∀ W', Stp [] W [] W' → Calls Tryd.prog 27 #[.pointer (some ⟨e, 0, none⟩), .slice (some ⟨W'.heap.size, 0, none⟩) n n] (W'.alloc o)
      fun en w' => en = .returned (.int .i64 (n : Int)) ∧ Bts w' (some ⟨W'.heap.size, 0, none⟩) l ∧ Stp [] W [] w' := fun W' hs => by
    have k := bcopy_run ((h.stays hs).stays (Stp.alloc [] W' o)) W'.heap.size n n (List.replicate n 0) (new_blk W' ho) (by simp) (by have := (h.stays hs).lt; omega)
    refine k.mono fun _ w' ⟨h1, h2, h3⟩ => ⟨?_, ?_, ?_⟩
    · rw [h1, ← hl, ← hn, Nat.min_self]
    · rw [← hl] at h2
      have e : lay (List.replicate n 0) 0 (l.take n) = l := by
        rw [hn, List.take_length]
        unfold lay
        simp
      rw [e] at h2
      exact h2.bts
    · exact ((hs.trans (Stp.alloc [] W' o)).fresh (h3) (fun i hi => by simp at hi; have := hs.size; omega)).none
  have K2 := Lib.hid K2
  have H := Lib.hid hn
  have s1 := fun (q : Nat) => cut_h (some ⟨q, 0, none⟩) n n n (Nat.le_refl n)
  clear h hn hl
  go_enter Tryd.func21, Tryd.ntmps21
  go_wp2_with fail
  refine K1.out.mono ?_
  rintro _ W ⟨rfl, rfl⟩
  go_wp2_with fail
  refine (K2.out _ (Stp.refl _ _)).mono ?_
  rintro _ w1 ⟨rfl, hb, hs⟩
  have cv := conv_bts n n hb H.out
  have H1 := Lib.hid hs
  have s2 := s1 W.heap.size
  clear hb hs s1
  go_wp2
  go_ret
  exact ⟨rfl, H1.out⟩
end
/-! ### The example -/
def exk : Nat → Int × Int
  | 0 => (0, 97)
  | 1 => (0, 98)
  | 2 => (4, 0)
  | 3 => (0, 99)
  | 4 => (2, 0)
  | _ => (9, 0)
def exA : Nat → List Nat
  | 0 => []
  | 1 => [97]
  | 2 => [97, 98]
  | 3 => [97]
  | 4 => [97, 99]
  | _ => [97]
def exB : Nat → List Nat
  | 3 => [98]
  | 4 => [98]
  | 5 => [98]
  | _ => []
theorem ex_step : ∀ i, i < 6 → doS 10 (exk i).1 (exk i).2 (exA i) (exB i) = ⟨0, exA (i + 1), exB (i + 1)⟩ ∧ chg ⟨0, exA (i + 1), exB (i + 1)⟩ (exA i) (exB i) = true ∧ (Lit.int .i64 (exk i).1).wf = true := by
  intro i hi
  rcases (by omega : i = 0 ∨ i = 1 ∨ i = 2 ∨ i = 3 ∨ i = 4 ∨ i = 5) with rfl | rfl | rfl | rfl | rfl | rfl
  all_goals exact ⟨by rfl, by decide, by decide⟩
/-- A block of a key, new, and set. -/
theorem stp_key (W : World) (o : Obj) (k c : Value) : Stp [] W [] (((W.alloc o).setCell ⟨W.heap.size, 0, none⟩ k).setCell ⟨W.heap.size, 1, none⟩ c) :=
  (((Stp.alloc [] W o).fresh (Stp.setCell (F := [W.heap.size]) (a := ⟨W.heap.size, 0, none⟩) _ k (by simp)) (by simp)).fresh (Stp.setCell (F := [W.heap.size]) (a := ⟨W.heap.size, 1, none⟩) _ c (by simp)) (by simp)).none
/-- Do at a buffer that is new since w, whatever has been made besides. -/
theorem do_eb {w W : World} {e b g N : Nat} {A B : List Nat} (h : Eb w W e b g N A B) (k c : Int) (hk : (Lit.int .i64 k).wf = true) : ∀ W', Stp [] W [] W' →
    Calls Tryd.prog 13 #[.pointer (some ⟨e, 0, none⟩), .agg #[.int .i64 k, .int .i64 c]] W' fun en w' => en = .returned (.tuple #[.bool (chg (doS N k c A B) A B), .int .i64 (doS N k c A B).e]) ∧ Eb w w' e b g N (doS N k c A B).A (doS N k c A B).B ∧ Stp [e, b, g] W [e, b, g] w' := fun W' hs =>
  (do_run (h.bu.stays hs) k c hk).mono fun _ _ ⟨h1, h2, h3⟩ => ⟨h1, (h.stays hs).act h2 h3, (hs.more (fun k hk => by cases hk)).trans h3⟩
def exrow : Array Value := #[.int .i64 0, .int .i64 97, .int .i64 0, .int .i64 98, .int .i64 4, .int .i64 0, .int .i64 0, .int .i64 99, .int .i64 2, .int .i64 0, .int .i64 9, .int .i64 0]
theorem exrow_at : ∀ i, i < 6 → exrow[i * 2]? = some (.int .i64 (exk i).1) ∧ exrow[i * 2 + 1]? = some (.int .i64 (exk i).2) := by
  intro i hi
  rcases (by omega : i = 0 ∨ i = 1 ∨ i = 2 ∨ i = 3 ∨ i = 4 ∨ i = 5) with rfl | rfl | rfl | rfl | rfl | rfl
  all_goals exact ⟨rfl, rfl⟩
set_option maxHeartbeats 1000000 in
set_option maxRecDepth 100000 in
theorem alive_run (w : World) : Calls Tryd.prog 11 #[] w (Tells (.bool true) w) := by
  have KB : Calls Tryd.prog 9 #[.int .i64 10] w (Begun 10 w) := begin_run 10 w (by omega) (by omega)
  have KB := Lib.hid KB
  go_enter Tryd.func11, Tryd.ntmps11
  go_wp2_with fail
  refine KB.out.mono ?_
  rintro _ w1 ⟨e, b, g, rfl, h1⟩
  have H1 : Aside (Eb w w1 e b g 10 [] []) := h1
  clear KB h1
  go_wp2_with fail
  have H2 : Aside (Eb w (w1.alloc (.cells exrow 35)) e b g 10 (exA 0) (exB 0) ∧ (w1.alloc (.cells exrow 35)).heap[w1.heap.size]? = some (.cells exrow 35 (0, 0)) ∧ e < w1.heap.size ∧ b < w1.heap.size ∧ g < w1.heap.size) := ⟨H1.out.stays (Stp.alloc [] w1 _), heap_alloc_new w1 _, H1.out.bu.lt⟩
  unfold exrow at H2
  generalize w1.alloc (.cells #[.int .i64 0, .int .i64 97, .int .i64 0, .int .i64 98, .int .i64 4, .int .i64 0, .int .i64 0, .int .i64 99, .int .i64 2, .int .i64 0, .int .i64 9, .int .i64 0] 35) = w2 at *
  rw [← exrow] at H2
  generalize w1.heap.size = gb at *
  go_loopg [21] 6 (fun gk vi wr => ∃ i : Nat, vi = .int .i64 (i : Int) ∧ i ≤ 6 ∧ 6 - i ≤ gk ∧ Aside (Eb w wr e b g 10 (exA i) (exB i) ∧ wr.heap[gb]? = some (.cells exrow 35 (0, 0))))
  case atStart => exact ⟨0, rfl, by omega, by omega, H2.out.1, H2.out.2.1⟩
  case round =>
    obtain ⟨i, rfl, hi, hg, HS⟩ := hrel
    by_cases hlt : i < 6
    · have hltz : (i : Int) < 6 := by omega
      have hx := exrow_at i hlt
      have d0 : wr.cell? ⟨gb, i * 2, none⟩ = some (.int .i64 (exk i).1) := by rw [cell_of_row wr gb _ _ _ _ HS.out.2]; exact hx.1
      have d1 : wr.cell? ⟨gb, i * 2 + 1, none⟩ = some (.int .i64 (exk i).2) := by rw [cell_of_row wr gb _ _ _ _ HS.out.2]; exact hx.2
      have hst := ex_step i hlt
      have KD := do_eb HS.out.1 (exk i).1 (exk i).2 hst.2.2
      rw [hst.1, hst.2.1] at KD
      have KD := Lib.hid KD
      have HL : Aside (gb < wr.heap.size ∧ i < 6) := ⟨(Array.getElem?_eq_some_iff.1 HS.out.2).1, hlt⟩
      generalize (exk i).1 = k at *
      generalize (exk i).2 = c at *
      clear hx hst
      go_wp2_with fail
      refine (KD.out _ (Stp.alloc [] wr _)).mono ?_
      rintro _ w3 ⟨rfl, h3, s3⟩
      have H3 : Aside (Eb w w3 e b g 10 (exA (i + 1)) (exB (i + 1)) ∧ w3.heap[gb]? = some (.cells exrow 35 (0, 0))) := ⟨h3, (s3.block gb HL.out.1 (by have := H2.out.2.2; simp; omega)).trans HS.out.2⟩
      clear KD h3 s3
      go_wp2
      go_roundg (6 - (i + 1))
      case measure => have := HL.out.2; omega
      case rel => exact ⟨i + 1, by go_num, by have := HL.out.2; omega, by omega, H3.out⟩
    · have hltz : ¬ (i : Int) < 6 := by omega
      obtain rfl : i = 6 := by omega
      have H3 : Aside (Eb w wr e b g 10 [97] []) := HS.out.1
      have KT := Lib.hid (text_run H3.out.bu)
      have e0 : st (fl ([97] ++ [])) = st [97] := rfl
      rw [e0] at KT
      clear e0 HS
      go_wp2_with fail
      refine KT.out.mono ?_
      rintro _ w4 ⟨rfl, s4⟩
      have H4 : Aside (Eb w w4 e b g 10 [97] []) := H3.out.stays s4
      have KA : Calls Tryd.prog 24 #[.pointer (some ⟨e, 0, none⟩)] w4 (Gives (.int .i64 1) w4) := bat_run H4.out.bu
      have KA := Lib.hid KA
      have KC : Calls Tryd.prog 23 #[.pointer (some ⟨e, 0, none⟩)] w4 (Gives (.int .i64 1) w4) := bcount_run H4.out.bu
      have KC := Lib.hid KC
      clear s4 KT H3
      have ht := st_toList [97]
      go_wp2_with fail
      refine KA.out.mono ?_
      rintro _ _ ⟨rfl, rfl⟩
      go_wp2_with fail
      refine KC.out.mono ?_
      rintro _ _ ⟨rfl, rfl⟩
      go_wp2
      go_ret
      exact ⟨rfl, H4.out.stp⟩
end Go.Proofs.YtblmpaplggnajaaDoor
