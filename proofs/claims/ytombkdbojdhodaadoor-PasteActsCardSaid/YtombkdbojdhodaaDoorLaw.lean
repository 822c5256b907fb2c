/-
  A buffer that is new since the call; text; two buffers.
-/
import Derived.Test.YtombkdbojdhodaaDoorBuf5
namespace Go.Proofs.YtombkdbojdhodaaDoor
open Go.RowKit Go.Lib Go.Maps
set_option linter.unusedVariables false

/-- A buffer that is new since w. -/
structure Eb (w W : World) (e b g N : Nat) (A B : List Nat) : Prop where
  bu : Bu W e b g N A B
  stp : Stp [] w [] W
  new : w.heap.size ≤ e ∧ w.heap.size ≤ b ∧ w.heap.size ≤ g
section
variable {w W W' : World} {e b g N : Nat} {A B A' B' : List Nat}
theorem Eb.stays {F : List Nat} (h : Eb w W e b g N A B) (hs : Stp [] W F W') : Eb w W' e b g N A B := ⟨h.bu.stays hs, h.stp.trans hs.none, h.new⟩
theorem Eb.act (h : Eb w W e b g N A B) (hb : Bu W' e b g N A' B') (hs : Stp [e, b, g] W [e, b, g] W') : Eb w W' e b g N A' B' :=
  ⟨hb, (h.stp.fresh hs (fun i hi => by have := h.new; simp at hi; omega)).none, h.new⟩
/-- What happens in blocks that are others. -/
theorem Eb.other {F F' : List Nat} (h : Eb w W e b g N A B) (hs : Stp F W F' W') (hF : ∀ k ∈ F, w.heap.size ≤ k ∧ k ≠ e ∧ k ≠ b ∧ k ≠ g) : Eb w W' e b g N A B :=
  ⟨h.bu.other hs (fun k => (hF e k).2.1 rfl) (fun k => (hF b k).2.2.1 rfl) (fun k => (hF g k).2.2.2 rfl), (h.stp.fresh (hs.more (fun k h => h)) (fun i hi => (hF i hi).1)).none, h.new⟩
end
/-! ### text -/
theorem max_nat (n : Nat) : ∀ (w : World) (ts : Array TypeId) (t : TypeId), (Builtin.max_ ts t #[.int .i64 0, .int .i64 (n : Int)]).run Tryd.prog w = .ok (.int .i64 (n : Int)) w := fun w ts t => by
  rw [run_max_int2]
  by_cases h : (n : Int) > 0
  · rw [if_pos h]
  · rw [if_neg h, show (n : Int) = 0 by omega]
/-- A new row of noughts, by a name of its own. -/
theorem make_obj (n : Nat) (hn : n ≤ 1000000) : ∃ o, Hid (o = Obj.cells ((List.replicate n (0 : UInt8)).map bval).toArray 5) ∧ ∀ (w : World) (kl kc : IntKind), (Instr.makeSlice 50 (.int kl (n : Int)) (.int kc (n : Int))).run Tryd.prog w = .ok (.slice (some ⟨w.heap.size, 0, none⟩) n n) (w.alloc o) :=
  ⟨_, Lib.hid rfl, fun w kl kc => make_any w kl kc n hn⟩
theorem new_blk {o : Obj} {n : Nat} (w : World) (h : Hid (o = Obj.cells ((List.replicate n (0 : UInt8)).map bval).toArray 5)) : Blk (w.alloc o) w.heap.size (List.replicate n 0) := by
  unfold Blk
  rw [heap_alloc_new, h.out]
section
variable {W : World} {e b g N : Nat} {A B : List Nat}
set_option maxRecDepth 100000 in
theorem text_run (h : Bu W e b g N A B) : Calls Tryd.prog 28 #[.pointer (some ⟨e, 0, none⟩)] W (Tells (.string (st (fl (A ++ B)))) W) := by
  have K1 := Lib.hid (blen_run h)
  obtain ⟨l, hl⟩ : ∃ l, l = fl (A ++ B) := ⟨_, rfl⟩
  obtain ⟨n, hn⟩ : ∃ n, n = l.length := ⟨_, rfl⟩
  rw [← hl, ← hn] at K1
  rw [← hl]
  have hn2 : n ≤ 4096 := by have := h.lens; rw [hn, hl]; omega
  have hmn := min_fst n 4096 hn2
  have hmm := min_fst n n (Nat.le_refl n)
  obtain ⟨o, ho, hmk⟩ := make_obj n (by omega)
  have hmx := max_nat n
  have K2 : ∀ W', Stp [] W [] W' → Calls Tryd.prog 50 #[.pointer (some ⟨e, 0, none⟩), .slice (some ⟨W'.heap.size, 0, none⟩) n n] (W'.alloc o)
      fun en w' => en = .returned (.int .i64 (n : Int)) ∧ Bts w' (some ⟨W'.heap.size, 0, none⟩) l ∧ Stp [] W [] w' := fun W' hs => by
    have k := bcopy_run ((h.stays hs).stays (Stp.alloc [] W' o)) W'.heap.size n n (List.replicate n 0) (new_blk W' ho) (by simp) (by have := (h.stays hs).lt; omega)
    refine k.mono fun _ w' ⟨h1, h2, h3⟩ => ⟨?_, ?_, ?_⟩
    · rw [h1, ← hl, ← hn, Nat.min_self]
    · rw [← hl] at h2
      have e : lay (List.replicate n 0) 0 (l.take n) = l := by
        rw [hn, List.take_length]
        unfold lay
        simp
      rw [e] at h2
      exact h2.bts
    · exact ((hs.trans (Stp.alloc [] W' o)).fresh (h3) (fun i hi => by simp at hi; have := hs.size; omega)).none
  have K2 := Lib.hid K2
  have H := Lib.hid hn
  have s1 := fun (q : Nat) => cut_h (some ⟨q, 0, none⟩) n n n (Nat.le_refl n)
  clear h hn hl
  go_enter Tryd.func28, Tryd.ntmps28
  go_wp2_with fail
  refine K1.out.mono ?_
  rintro _ W ⟨rfl, rfl⟩
  go_wp2_with fail
  refine (K2.out _ (Stp.refl _ _)).mono ?_
  rintro _ w1 ⟨rfl, hb, hs⟩
  have cv := conv_bts n n hb H.out
  have H1 := Lib.hid hs
  have s2 := s1 W.heap.size
  clear hb hs s1
  go_wp2
  go_ret
  exact ⟨rfl, H1.out⟩
end
/-- Do at a buffer that is new since w, whatever has been made besides. -/
theorem do_eb {w W : World} {e b g N : Nat} {A B : List Nat} (h : Eb w W e b g N A B) (k c : Int) (hk : (Lit.int .i64 k).wf = true) : ∀ W', Stp [] W [] W' →
    Calls Tryd.prog 21 #[.pointer (some ⟨e, 0, none⟩), .agg #[.int .i64 k, .int .i64 c]] W' fun en w' => en = .returned (.tuple #[.bool (chg (doS N k c A B) A B), .int .i64 (doS N k c A B).e]) ∧ Eb w w' e b g N (doS N k c A B).A (doS N k c A B).B ∧ Stp [e, b, g] W [e, b, g] w' := fun W' hs =>
  (do_run (h.bu.stays hs) k c hk).mono fun _ _ ⟨h1, h2, h3⟩ => ⟨h1, (h.stays hs).act h2 h3, (hs.more (fun k hk => by cases hk)).trans h3⟩
/-! ### Two buffers -/
/-- Two buffers that are new since w, each by itself. -/
structure Pair (w W : World) (N : Nat) (e b g : Nat) (A B : List Nat) (e' b' g' : Nat) (A' B' : List Nat) : Prop where
  one : Eb w W e b g N A B
  two : Eb w W e' b' g' N A' B'
  ap : ∀ k ∈ [e', b', g'], k ≠ e ∧ k ≠ b ∧ k ≠ g
section
variable {w W W' : World} {N e b g e' b' g' : Nat} {A B A' B' C D : List Nat}
theorem Pair.stays {F : List Nat} (h : Pair w W N e b g A B e' b' g' A' B') (hs : Stp [] W F W') : Pair w W' N e b g A B e' b' g' A' B' := ⟨h.one.stays hs, h.two.stays hs, h.ap⟩
theorem Pair.act1 (h : Pair w W N e b g A B e' b' g' A' B') (h1 : Eb w W' e b g N C D) (hs : Stp [e, b, g] W [e, b, g] W') : Pair w W' N e b g C D e' b' g' A' B' :=
  ⟨h1, h.two.other hs (fun k hk => by
    have h1 := h.ap e' (by simp)
    have h2 := h.ap b' (by simp)
    have h3 := h.ap g' (by simp)
    have h4 := h.one.new
    simp at hk
    omega), h.ap⟩
theorem Pair.act2 (h : Pair w W N e b g A B e' b' g' A' B') (h1 : Eb w W' e' b' g' N C D) (hs : Stp [e', b', g'] W [e', b', g'] W') : Pair w W' N e b g A B e' b' g' C D :=
  ⟨h.one.other hs (fun k hk => ⟨by have := h.two.new; simp at hk; omega, h.ap k hk⟩), h1, h.ap⟩
/-- One, and then another. -/
theorem Pair.mk' (h : Eb w W e b g N A B) (k : Eb W W' e' b' g' N [] []) : Pair w W' N e b g A B e' b' g' [] [] :=
  ⟨h.stays k.stp, ⟨k.bu, h.stp.trans k.stp, by have := h.stp.size; have := k.new; omega⟩, fun i hi => by
    have h1 := h.bu.lt
    have h2 := k.new
    simp at hi
    omega⟩
end
end Go.Proofs.YtombkdbojdhodaaDoor
