/-
  The buffer and the document's buffer, side by side.
-/
import Derived.Test.YtblmpaplggnajaaDoorWEditbufVacates
import Derived.Test.YtblmpaplggnajaaDoorRefD67
namespace Go.Proofs.YtblmpaplggnajaaDoor
open Go.RowKit Go.Lib
set_option linter.unusedVariables false

theorem total_take_le (l : List Ac) (j : Nat) : total (l.take j) ≤ total l := by
  have h : total l = total (l.take j) + total (l.drop j) := by
    unfold total
    rw [← List.sum_append, ← List.map_append, List.take_append_drop]
  omega
/-- The buffer has had a key more than the document's. -/
structure Half (w W : World) (e b g m N : Nat) (r : Rs) (A B : List Nat) : Prop where
  eb : Eb w W e b g N r.A r.B
  rb : Rb [e, b, g, m] W m N A B
  ne : m ≠ e ∧ m ≠ b ∧ m ≠ g ∧ w.heap.size ≤ m
/-- They are alike. -/
def Two (w W : World) (e b g m N : Nat) (A B : List Nat) : Prop := Half w W e b g m N ⟨0, A, B⟩ A B
theorem Half.stays {w W W' : World} {e b g m N : Nat} {r : Rs} {A B : List Nat} {G : List Nat} (h : Half w W e b g m N r A B) (hs : Stp [] W G W') : Half w W' e b g m N r A B :=
  ⟨h.eb.stays hs, h.rb.stays hs, h.ne⟩
theorem Two.stays {w W W' : World} {e b g m N : Nat} {A B : List Nat} {G : List Nat} (h : Two w W e b g m N A B) (hs : Stp [] W G W') : Two w W' e b g m N A B := Half.stays h hs
theorem Two.half {w W W' : World} {e b g m N : Nat} {r : Rs} {A B : List Nat} (h : Two w W e b g m N A B) (hb : Eb w W' e b g N r.A r.B) (hs : Stp [e, b, g] W [e, b, g] W') : Half w W' e b g m N r A B :=
  ⟨hb, h.rb.other hs (fun k hk => by simp at hk ⊢; omega) (by have := h.ne; simp; omega), h.ne⟩
theorem Half.two {w W W' : World} {e b g m N : Nat} {r : Rs} {A B : List Nat} (h : Half w W e b g m N r A B) (hb : Rb [e, b, g, m] W' m N r.A r.B) (hs : Stp [m] W [m] W') : Two w W' e b g m N r.A r.B :=
  ⟨h.eb.other hs (fun k hk => by have := h.ne; simp at hk; subst hk; exact ⟨this.2.2.2, this.1, this.2.1, this.2.2.1⟩), hb, h.ne⟩
/-- The document's Do answers what is asked. -/
def DoOK : Prop := ∀ (F : List Nat) (W : World) (m N : Nat) (A B : List Nat) (k c : Int), Rb F W m N A B → N ≤ 4096 →
    Calls Tryd.prog 14 #[.pointer (some ⟨m, 0, none⟩), .agg #[.int .i64 k, .int .i64 c]] W (RDone F m N (doS N k c A B) A B W)
def Both (w : World) (e b g m N : Nat) (w' : World) : Prop := ∃ A B, Two w w' e b g m N A B
theorem small_e {e : Int} (h : 0 ≤ e ∧ e ≤ 100) : IntKind.i64.wrap e = e := by rw [IntKind.wrap_i64]; omega
theorem putS_e (N : Nat) (c : Int) (A B : List Nat) : 0 ≤ (putS N c A B).e ∧ (putS N c A B).e ≤ 100 := by
  unfold putS layS
  (repeat split) <;> simp
theorem doS_e (N : Nat) (k c : Int) (A B : List Nat) : 0 ≤ (doS N k c A B).e ∧ (doS N k c A B).e ≤ 100 := by
  unfold doS
  split
  · exact putS_e N c A B
  · (repeat' split) <;> simp
theorem insS_e (N : Nat) (l : List UInt8) (A B : List Nat) : 0 ≤ (insS N l A B).e ∧ (insS N l A B).e ≤ 100 := by
  unfold insS layS
  (repeat split) <;> simp
section
variable {w W : World} {e b g m N : Nat} {A B : List Nat}
theorem do_two (hD : DoOK) (hN : N ≤ 4096) (h : Two w W e b g m N A B) (k c : Int) (hk : (Lit.int .i64 k).wf = true) : ∃ (cg : Bool) (ee : Int), IntKind.i64.wrap ee = ee ∧ ∀ W', Stp [] W [] W' →
    Calls Tryd.prog 13 #[.pointer (some ⟨e, 0, none⟩), .agg #[.int .i64 k, .int .i64 c]] W' fun en w' => en = .returned (.tuple #[.bool cg, .int .i64 ee]) ∧
      (Aside (Stp [e, b, g] W' [e, b, g] w') ∧ Aside (∀ W'', Stp [] w' [] W'' → Calls Tryd.prog 14 #[.pointer (some ⟨m, 0, none⟩), .agg #[.int .i64 k, .int .i64 c]] W'' fun en w'' => en = .returned (.tuple #[.bool cg, .int .i64 ee]) ∧ Aside (Both w e b g m N w'') ∧ Aside (Stp [m] W'' [m] w''))) :=
  ⟨chg (doS N k c A B) A B, (doS N k c A B).e, small_e (doS_e N k c A B), fun W' hs => (do_run (h.eb.bu.stays hs) k c hk).mono fun _ w' ⟨h1, h2, h3⟩ => ⟨h1, h3, fun W'' hs' => by
    have q : Half w W'' e b g m N (doS N k c A B) A B := ((h.stays hs).half ((h.eb.stays hs).act h2 h3) h3).stays hs'
    exact (hD _ _ _ _ _ _ k c q.rb hN).mono fun _ w'' ⟨g1, g2, g3⟩ => ⟨g1, ⟨_, _, q.two g2 g3⟩, g3⟩⟩⟩
theorem put_two (hN : N ≤ 4096) (h : Two w W e b g m N A B) (c : Int) : ∃ (ee : Int), IntKind.i64.wrap ee = ee ∧ ∀ W', Stp [] W [] W' →
    Calls Tryd.prog 15 #[.pointer (some ⟨e, 0, none⟩), .int .i64 c] W' fun en w' => en = .returned (.int .i64 ee) ∧
      (Aside (Stp [e, b, g] W' [e, b, g] w') ∧ Aside (∀ W'', Stp [] w' [] W'' → Calls Tryd.prog 16 #[.pointer (some ⟨m, 0, none⟩), .int .i64 c] W'' fun en w'' => en = .returned (.int .i64 ee) ∧ Aside (Both w e b g m N w'') ∧ Aside (Stp [m] W'' [m] w''))) :=
  ⟨(putS N c A B).e, small_e (putS_e N c A B), fun W' hs => (bput_run (h.eb.bu.stays hs) c).mono fun _ w' ⟨h1, h2, h3⟩ => ⟨h1, h3, fun W'' hs' => by
    have q : Half w W'' e b g m N (putS N c A B) A B := ((h.stays hs).half ((h.eb.stays hs).act h2 h3) h3).stays hs'
    exact (rbput_run q.rb hN c).mono fun _ w'' ⟨g1, g2, g3⟩ => ⟨g1, ⟨_, _, q.two g2 g3⟩, g3⟩⟩⟩
theorem ins_two (hN : N ≤ 4096) (h : Two w W e b g m N A B) (hT : U.Tabs w) (p : Option Addr) (n c : Nat) (l : List UInt8) (hb : Bts w p l) (hn : n = l.length) (hcap : n ≤ c) (hm : c ≤ maxLen) (hl : n ≤ 4096) : ∃ (ee : Int), IntKind.i64.wrap ee = ee ∧ ∀ W', Stp [] W [] W' →
    Calls Tryd.prog 17 #[.pointer (some ⟨e, 0, none⟩), .slice p n c] W' fun en w' => en = .returned (.int .i64 ee) ∧
      (Aside (Stp [e, b, g] W' [e, b, g] w') ∧ Aside (∀ W'', Stp [] w' [] W'' → Calls Tryd.prog 18 #[.pointer (some ⟨m, 0, none⟩), .slice p n c] W'' fun en w'' => en = .returned (.int .i64 ee) ∧ Aside (Both w e b g m N w'') ∧ Aside (Stp [m] W'' [m] w''))) :=
  ⟨(insS N l A B).e, small_e (insS_e N l A B), fun W' hs => (ins_run (h.eb.bu.stays hs) (tabs_stays hT (h.eb.stp.trans hs)) p n c l (hb.stays (h.eb.stp.trans hs)) hn hcap hm (fun hne ad e => by
    obtain ⟨bb, off, e2, hlt⟩ := hb.blk hne
    rw [e2] at e
    cases e
    have := h.eb.new
    show bb ≠ g
    omega)).mono fun _ w' ⟨h1, h2, h3⟩ => ⟨h1, h3, fun W'' hs' => by
    have q : Half w W'' e b g m N (insS N l A B) A B := ((h.stays hs).half ((h.eb.stays hs).act h2 h3) h3).stays hs'
    exact (rbins_run q.rb hN p n c l (hb.stays q.eb.stp) hn hcap hm hl).mono fun _ w'' ⟨g1, g2, g3⟩ => ⟨g1, ⟨_, _, q.two g2 g3⟩, g3⟩⟩⟩
/-- The call's copy, behind what the buffer does. -/
theorem act_cells (h : Two w W e b g m N A B) (o : Obj) (cs : Array Value) (t : TypeId) (ho : o = .cells cs t) : ∀ w', Stp [e, b, g] (W.alloc o) [e, b, g] w' → ∀ i v, cs[i]? = some v → w'.cell? ⟨W.heap.size, i, none⟩ = some v := fun w' hs i v hv => by
  subst ho
  have hl := h.eb.bu.lt
  refine (hs.cell (a := ⟨W.heap.size, i, none⟩) (by simp) (by simp; omega)).trans ?_
  rw [cell_of_row _ W.heap.size i _ _ _ (heap_alloc_new W (.cells cs t))]
  exact hv
/-- Clear; and what two stores into the document's then make of it. -/
theorem clr_two (h : Two w W e b g m N A B) : ∀ W', Stp [] W [] W' →
    Calls Tryd.prog 19 #[.pointer (some ⟨e, 0, none⟩)] W' fun en w' => en = .returned (.tuple #[]) ∧
      Aside (∀ W'', Stp [] w' [] W'' → W''.frozen? ⟨m, 0, none⟩ = false ∧ W''.frozen? ⟨m, 1, none⟩ = false ∧ (∃ u, W''.cell? ⟨m, 0, none⟩ = some u) ∧ (∃ u, W''.cell? ⟨m, 1, none⟩ = some u) ∧
        (W''.setCell ⟨m, 0, none⟩ (.slice none 0 0)).frozen? ⟨m, 1, none⟩ = false ∧ (∃ u, (W''.setCell ⟨m, 0, none⟩ (.slice none 0 0)).cell? ⟨m, 1, none⟩ = some u) ∧
        Both w e b g m N ((W''.setCell ⟨m, 0, none⟩ (.slice none 0 0)).setCell ⟨m, 1, none⟩ (.slice none 0 0))) := fun W' hs =>
  (clearB_run (h.eb.bu.stays hs)).mono fun _ w' ⟨h1, h2, h3⟩ => ⟨h1, fun W'' hs' => by
    have q : Half w W'' e b g m N ⟨0, [], []⟩ A B := (h.half (r := ⟨0, [], []⟩) ((h.eb.stays hs).act h2 h3) ((hs.more (fun k hk => by cases hk)).trans h3)).stays hs'
    obtain ⟨pa, ca, pb, cb, r1⟩ := q.rb.ex
    have r2 := r1.setA (a := none) (c := 0) (X := []) (fun h => (h rfl).elim) (Nat.le_refl _) (fun _ => rfl) (fun ad e => by cases e)
    have r3 := r2.setB (a := none) (c := 0) (X := []) (fun h => (h rfl).elim) (Nat.le_refl _) (fun _ => rfl) (fun ad e => by cases e)
    exact ⟨r1.f0, r1.f1, ⟨_, r1.c0⟩, ⟨_, r1.c1⟩, r2.f1, ⟨_, r2.c1⟩, [], [], q.two ⟨⟨_, _, _, _, r3⟩, Pr.nil, by simp⟩ ((Stp.setCell (F := [m]) (a := ⟨m, 0, none⟩) _ _ (by simp)).trans (Stp.setCell (F := [m]) (a := ⟨m, 1, none⟩) _ _ (by simp)))⟩⟩
/-- The document's bytes, as a string. -/
theorem mtext_two (h : Two w W e b g m N A B) : Calls Tryd.prog 20 #[.pointer (some ⟨m, 0, none⟩)] W fun en w' => ∃ a c, en = .returned (.slice a (fl (A ++ B)).length c) ∧ Aside (Two w w' e b g m N A B) ∧
    Aside (∀ W', Stp [] w' [] W' → (convert 36 9 (.slice a (fl (A ++ B)).length c)).run Tryd.prog W' = .ok (.string (st (fl (A ++ B)))) W') :=
  (rtext_run h.rb).mono fun _ w' ⟨v, h1, h2, h3⟩ => by
    obtain ⟨a, c, e1, hb, _⟩ := h2.bts
    exact ⟨a, c, by rw [h1, e1], h.stays h3, fun W' hs => conv_bts c _ (hb.stays hs) rfl⟩
/-- The document's buffer, new. -/
theorem new_two (h : Eb w W e b g N [] []) : ∀ W', Stp [] W [] W' → Both w e b g W'.heap.size N (W'.alloc (.cells #[.slice none 0 0, .slice none 0 0, .int .i64 (N : Int)] 33)) := fun W' hs => by
  have q := h.stays hs
  have hz : (W'.alloc (.cells #[.slice none 0 0, .slice none 0 0, .int .i64 (N : Int)] 33)).heap.size = W'.heap.size + 1 := by simp
  have hl := q.bu.lt
  refine ⟨[], [], q.stays (Stp.alloc [] W' _), ⟨⟨none, 0, none, 0, heap_alloc_new W' _, fun h => (h rfl).elim, fun h => (h rfl).elim, Nat.le_refl _, Nat.le_refl _, fun _ => rfl, fun _ => rfl, (fun ad e => by cases e), (fun ad e => by cases e), by simp, fun k hk => ?_⟩, Pr.nil, by simp⟩, ?_⟩
  · rw [hz]
    simp at hk
    omega
  · have := q.stp.size
    refine ⟨?_, ?_, ?_, this⟩ <;> omega
end
end Go.Proofs.YtblmpaplggnajaaDoor
