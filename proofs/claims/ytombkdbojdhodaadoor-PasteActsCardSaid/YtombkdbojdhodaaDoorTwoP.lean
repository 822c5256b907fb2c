/-
  A stage and a buffer, and the document's, side by side.
-/
import Derived.Test.YtombkdbojdhodaaDoorRefQ
import Derived.Test.YtombkdbojdhodaaDoorRefD4
namespace Go.Proofs.YtombkdbojdhodaaDoor
open Go.RowKit Go.Lib
set_option linter.unusedVariables false

/-- The stage's and the buffer's; the document's, that may be a step behind. -/
structure PH (w W : World) (s b g N e c q M x m : Nat) (t : Sv) (A B : List Nat) (t' : Sv) (A' B' : List Nat) : Prop where
  sb : SB w W s b g N t e c q M A B
  tx : Tx [s, b, g, e, c, q, x, m] W x N t'
  rb : Rb [s, b, g, e, c, q, x, m] W m M A' B'
  nx : ∀ k ∈ [s, b, g, e, c, q], x ≠ k ∧ m ≠ k
  xm : x ≠ m
  new : w.heap.size ≤ x ∧ w.heap.size ≤ m
  hM : M ≤ 4096
/-- They are alike. -/
def PA (w W : World) (s b g N e c q M x m : Nat) (t : Sv) (A B : List Nat) : Prop := PH w W s b g N e c q M x m t A B t A B
def Both (w : World) (s b g N e c q M x m : Nat) (w' : World) : Prop := ∃ t A B, PA w w' s b g N e c q M x m t A B
section
variable {w W W' : World} {s b g N e c q M x m : Nat} {t t' t2 : Sv} {A B A' B' C D : List Nat}
theorem PH.stays {G : List Nat} (h : PH w W s b g N e c q M x m t A B t' A' B') (hs : Stp [] W G W') : PH w W' s b g N e c q M x m t A B t' A' B' := ⟨h.sb.stays hs, h.tx.stays hs, h.rb.stays hs, h.nx, h.xm, h.new, h.hM⟩
theorem PA.stays {G : List Nat} (h : PA w W s b g N e c q M x m t A B) (hs : Stp [] W G W') : PA w W' s b g N e c q M x m t A B := PH.stays h hs
theorem PH.prog {G : List Nat} (h : PH w W s b g N e c q M x m t A B t' A' B') (h1 : SB w W' s b g N t2 e c q M C D) (hs : Stp G W G W') (hG : ∀ k ∈ G, k ∈ [s, b, g, e, c, q]) : PH w W' s b g N e c q M x m t2 C D t' A' B' := by
  have hF : ∀ k ∈ G, k ∈ [s, b, g, e, c, q, x, m] := fun k hk => by
    have := hG k hk
    simp only [List.mem_cons, List.not_mem_nil, or_false] at this ⊢
    rcases this with h | h | h | h | h | h <;> simp [h]
  exact ⟨h1, h.tx.other hs hF (fun hx => (h.nx x (hG x hx)).1 rfl), h.rb.other hs hF (fun hx => (h.nx m (hG m hx)).2 rfl), h.nx, h.xm, h.new, h.hM⟩
theorem PH.sbo {G : List Nat} (h : PH w W s b g N e c q M x m t A B t' A' B') (hs : Stp G W G W') (hG : ∀ k ∈ G, k = x ∨ k = m) : SB w W' s b g N t e c q M A B := by
  have z1 := h.nx s (by simp)
  have z2 := h.nx b (by simp)
  have z3 := h.nx g (by simp)
  have z4 := h.nx e (by simp)
  have z5 := h.nx c (by simp)
  have z6 := h.nx q (by simp)
  refine h.sb.other hs (fun k hk => ?_)
  rcases hG k hk with rfl | rfl
  · exact ⟨h.new.1, ⟨z1.1, z2.1, z3.1⟩, z4.1, z5.1, z6.1⟩
  · exact ⟨h.new.2, ⟨z1.2, z2.2, z3.2⟩, z4.2, z5.2, z6.2⟩
theorem PH.docS (h : PH w W s b g N e c q M x m t A B t' A' B') (ht : Tx [s, b, g, e, c, q, x, m] W' x N t2) (hs : Stp [x] W [x] W') : PH w W' s b g N e c q M x m t A B t2 A' B' :=
  ⟨h.sbo hs (fun k hk => .inl (List.mem_singleton.1 hk)), ht, h.rb.other hs (fun k hk => by rw [List.mem_singleton.1 hk]; simp) (by have := h.xm; simp; omega), h.nx, h.xm, h.new, h.hM⟩
theorem PH.docB (h : PH w W s b g N e c q M x m t A B t' A' B') (hr : Rb [s, b, g, e, c, q, x, m] W' m M C D) (hs : Stp [m] W [m] W') : PH w W' s b g N e c q M x m t A B t' C D :=
  ⟨h.sbo hs (fun k hk => .inr (List.mem_singleton.1 hk)), h.tx.other hs (fun k hk => by rw [List.mem_singleton.1 hk]; simp) (by have := h.xm; simp; omega), hr, h.nx, h.xm, h.new, h.hM⟩
theorem PH.docE (h : PH w W s b g N e c q M x m t A B t' A' B') (ht : Tx [s, b, g, e, c, q, x, m] W' x N t2) (hr : Rb [s, b, g, e, c, q, x, m] W' m M C D) (hs : Stp [x, m] W [x, m] W') : PH w W' s b g N e c q M x m t A B t2 C D :=
  ⟨h.sbo hs (fun k hk => by simpa using hk), ht, hr, h.nx, h.xm, h.new, h.hM⟩

/-! ### The calls, one and then the other -/
/-- A call of the document's, behind one of the stage's or the buffer's, that had the error ee. -/
def Then (w : World) (s b g N e c q M x m : Nat) (f : FuncId) (args : Array Value) (v : Value) (G : List Nat) (w' : World) : Prop :=
  ∀ W'', Stp [] w' [] W'' → Calls Tryd.prog f args W'' fun en w'' => en = .returned v ∧ Aside (Both w s b g N e c q M x m w'') ∧ Aside (Stp G W'' G w'')
theorem small_e {e : Int} (h : 0 ≤ e ∧ e ≤ 100) : IntKind.i64.wrap e = e := by rw [IntKind.wrap_i64]; omega
theorem putS_e (N : Nat) (c : Int) (A B : List Nat) : 0 ≤ (putS N c A B).e ∧ (putS N c A B).e ≤ 100 := by
  unfold putS layS
  (repeat split) <;> simp
theorem enS_e (M : Nat) (t : Sv) (A B : List Nat) : 0 ≤ (enS M t A B).e ∧ (enS M t A B).e ≤ 100 := by
  unfold enS layS
  (repeat' split) <;> simp
theorem stS_e (t : Sv) : 0 ≤ (stS t).1 ∧ (stS t).1 ≤ 100 := by
  unfold stS
  (repeat' split) <;> simp
theorem adS_e (N : Nat) (c : Int) (t : Sv) : 0 ≤ (adS N c t).1 ∧ (adS N c t).1 ≤ 100 := by
  unfold adS
  (repeat' split) <;> simp
theorem start_two (h : PA w W s b g N e c q M x m t A B) : ∃ ee : Int, IntKind.i64.wrap ee = ee ∧ ∀ W', Stp [] W [] W' →
    Calls Tryd.prog 11 #[.pointer (some ⟨s, 0, none⟩)] W' fun en w' => en = .returned (.int .i64 ee) ∧ Aside (Stp [s, b, g] W' [s, b, g] w') ∧ Aside (Then w s b g N e c q M x m 12 #[.pointer (some ⟨x, 0, none⟩)] (.int .i64 ee) [x] w') :=
  ⟨(stS t).1, small_e (stS_e t), fun W' hs => (start_sb (h.stays hs).sb W' (Stp.refl _ _)).mono fun _ w' ⟨h1, h2, h3⟩ => ⟨h1, h3, fun W'' hs' => by
    have p := ((h.stays hs).prog h2 h3 (fun k hk => by simp at hk; rcases hk with h | h | h <;> simp [h])).stays hs'
    obtain ⟨pa, ca, ht⟩ := p.tx
    exact (rstart_run ht).mono fun _ w'' ⟨g1, g2, g3⟩ => ⟨g1, ⟨_, _, _, p.docS g2 g3⟩, g3⟩⟩⟩
theorem add_two (h : PA w W s b g N e c q M x m t A B) (z : Int) : ∃ ee : Int, IntKind.i64.wrap ee = ee ∧ ∀ W', Stp [] W [] W' →
    Calls Tryd.prog 13 #[.pointer (some ⟨s, 0, none⟩), .int .i64 z] W' fun en w' => en = .returned (.int .i64 ee) ∧ Aside (Stp [s, b, g] W' [s, b, g] w') ∧ Aside (Then w s b g N e c q M x m 14 #[.pointer (some ⟨x, 0, none⟩), .int .i64 z] (.int .i64 ee) [x] w') :=
  ⟨(adS N z t).1, small_e (adS_e N z t), fun W' hs => (add_sb (h.stays hs).sb z W' (Stp.refl _ _)).mono fun _ w' ⟨h1, h2, h3⟩ => ⟨h1, h3, fun W'' hs' => by
    have p := ((h.stays hs).prog h2 h3 (fun k hk => by simp at hk; rcases hk with h | h | h <;> simp [h])).stays hs'
    obtain ⟨pa, ca, ht⟩ := p.tx
    exact (radd_run ht z).mono fun _ w'' ⟨g1, g2, g3⟩ => ⟨g1, ⟨_, _, _, p.docS g2 g3⟩, g3⟩⟩⟩
theorem end_two (h : PA w W s b g N e c q M x m t A B) (hT : U.Tabs w) : ∃ ee : Int, IntKind.i64.wrap ee = ee ∧ ∀ W', Stp [] W [] W' →
    Calls Tryd.prog 15 #[.pointer (some ⟨s, 0, none⟩), .pointer (some ⟨e, 0, none⟩)] W' fun en w' => en = .returned (.int .i64 ee) ∧ Aside (Stp [s, b, g, e, c, q] W' [s, b, g, e, c, q] w') ∧ Aside (Then w s b g N e c q M x m 16 #[.pointer (some ⟨x, 0, none⟩), .pointer (some ⟨m, 0, none⟩)] (.int .i64 ee) [x, m] w') :=
  ⟨(enS M t A B).e, small_e (enS_e M t A B), fun W' hs => (end_sb (h.stays hs).sb hT W' (Stp.refl _ _)).mono fun _ w' ⟨h1, h2, h3⟩ => ⟨h1, h3, fun W'' hs' => by
    have p := ((h.stays hs).prog h2 h3 (fun k hk => hk)).stays hs'
    obtain ⟨pa, ca, ht⟩ := p.tx
    exact (rend_run ht p.rb h.hM (by simp) h.xm).mono fun _ w'' ⟨g1, g2, g3, g4⟩ => ⟨g1, ⟨_, _, _, p.docE g2 g3 g4⟩, g4⟩⟩⟩
theorem drop_two (h : PA w W s b g N e c q M x m t A B) : ∀ W', Stp [] W [] W' →
    Calls Tryd.prog 17 #[.pointer (some ⟨s, 0, none⟩)] W' fun en w' => en = .returned (.tuple #[]) ∧ Aside (Stp [s, b, g] W' [s, b, g] w') ∧ Aside (Then w s b g N e c q M x m 18 #[.pointer (some ⟨x, 0, none⟩)] (.tuple #[]) [x] w') :=
  fun W' hs => (drop_sb (h.stays hs).sb W' (Stp.refl _ _)).mono fun _ w' ⟨h1, h2, h3⟩ => ⟨h1, h3, fun W'' hs' => by
    have p := ((h.stays hs).prog h2 h3 (fun k hk => by simp at hk; rcases hk with h | h | h <;> simp [h])).stays hs'
    obtain ⟨pa, ca, ht⟩ := p.tx
    exact (rdrop_run ht).mono fun _ w'' ⟨g1, g2, g3⟩ => ⟨g1, ⟨_, _, _, p.docS g2 g3⟩, g3⟩⟩
theorem putb_two (h : PA w W s b g N e c q M x m t A B) (z : Int) : ∃ ee : Int, IntKind.i64.wrap ee = ee ∧ ∀ W', Stp [] W [] W' →
    Calls Tryd.prog 19 #[.pointer (some ⟨e, 0, none⟩), .int .i64 z] W' fun en w' => en = .returned (.int .i64 ee) ∧ Aside (Stp [e, c, q] W' [e, c, q] w') ∧ Aside (Then w s b g N e c q M x m 20 #[.pointer (some ⟨m, 0, none⟩), .int .i64 z] (.int .i64 ee) [m] w') :=
  ⟨(putS M z A B).e, small_e (putS_e M z A B), fun W' hs => (putb_sb (h.stays hs).sb z W' (Stp.refl _ _)).mono fun _ w' ⟨h1, h2, h3⟩ => ⟨h1, h3, fun W'' hs' => by
    have p := ((h.stays hs).prog h2 h3 (fun k hk => by simp at hk; rcases hk with h | h | h <;> simp [h])).stays hs'
    exact (rbput_run p.rb h.hM z).mono fun _ w'' ⟨g1, g2, g3⟩ => ⟨g1, ⟨_, _, _, p.docB g2 g3⟩, g3⟩⟩⟩
theorem rdo_left {F : List Nat} (h : Rb F W m M A B) : Calls Tryd.prog 22 #[.pointer (some ⟨m, 0, none⟩), .agg #[.int .i64 4, .int .i64 0]] W (RDone F m M ⟨0, A.dropLast, lst A ++ B⟩ A B W) := by
  obtain ⟨pa, ca, pb, cb, h1⟩ := h.ex
  by_cases hA : A = []
  · subst hA
    exact rdo_4n h1 h.le h.pr 0 rfl
  · exact rdo_4y h1 h.le h.pr 0 hA
theorem left_two (h : PA w W s b g N e c q M x m t A B) : ∃ cg : Bool, ∀ W', Stp [] W [] W' →
    Calls Tryd.prog 21 #[.pointer (some ⟨e, 0, none⟩), .agg #[.int .i64 4, .int .i64 0]] W' fun en w' => en = .returned (.tuple #[.bool cg, .int .i64 0]) ∧ Aside (Stp [e, c, q] W' [e, c, q] w') ∧ Aside (Then w s b g N e c q M x m 22 #[.pointer (some ⟨m, 0, none⟩), .agg #[.int .i64 4, .int .i64 0]] (.tuple #[.bool cg, .int .i64 0]) [m] w') :=
  ⟨chg ⟨0, A.dropLast, lst A ++ B⟩ A B, fun W' hs => (dob_sb (h.stays hs).sb 4 0 (by decide) W' (Stp.refl _ _)).mono fun _ w' ⟨h1, h2, h3⟩ => ⟨h1, h3, fun W'' hs' => by
    have p := ((h.stays hs).prog h2 h3 (fun k hk => by simp at hk; rcases hk with h | h | h <;> simp [h])).stays hs'
    exact (rdo_left p.rb).mono fun _ w'' ⟨g1, g2, g3⟩ => ⟨g1, ⟨_, _, _, p.docB g2 g3⟩, g3⟩⟩⟩
/-- The document's, new. -/
theorem new_two (h : SB w W s b g N sv0 e c q M [] []) (hN : N ≤ 4096) (hM : M ≤ 4096) : ∀ W', Stp [] W [] W' → Both w s b g N e c q M W'.heap.size (W'.heap.size + 1) ((W'.alloc (.cells #[.slice none 0 0, .int .i64 (N : Int), .bool false, .bool false] 33)).alloc (.cells #[.slice none 0 0, .slice none 0 0, .int .i64 (M : Int)] 36)) := fun W' hs => by
  have p := h.stays hs
  have hl1 := p.sg.lt
  have hl2 := p.eb.bu.lt
  have hz := p.eb.stp.size
  obtain ⟨W1, hW1⟩ : ∃ W1, W1 = W'.alloc (.cells #[.slice none 0 0, .int .i64 (N : Int), .bool false, .bool false] 33) := ⟨_, rfl⟩
  rw [← hW1]
  have hz1 : W1.heap.size = W'.heap.size + 1 := by rw [hW1]; simp
  have o1 : W1.heap[W'.heap.size]? = some (.cells #[.slice none 0 0, .int .i64 (N : Int), .bool false, .bool false] 33 (0, 0)) := by rw [hW1]; exact heap_alloc_new W' _
  have s1 : Stp [] W' [] W1 := by rw [hW1]; exact Stp.alloc [] W' _
  have s2 := Stp.alloc [] W1 (.cells #[.slice none 0 0, .slice none 0 0, .int .i64 (M : Int)] 36)
  have hz2 : (W1.alloc (.cells #[.slice none 0 0, .slice none 0 0, .int .i64 (M : Int)] 36)).heap.size = W1.heap.size + 1 := by simp
  have o2 := heap_alloc_new W1 (.cells #[.slice none 0 0, .slice none 0 0, .int .i64 (M : Int)] 36)
  have o3 := (s2.block W'.heap.size (by omega) (by simp)).trans o1
  rw [hz1] at o2
  have hlo : ∀ k ∈ [s, b, g, e, c, q, W'.heap.size, W'.heap.size + 1], k < (W1.alloc (.cells #[.slice none 0 0, .slice none 0 0, .int .i64 (M : Int)] 36)).heap.size := fun k hk => by
    rw [hz2, hz1]
    simp only [List.mem_cons, List.not_mem_nil, or_false] at hk
    rcases hk with rfl | rfl | rfl | rfl | rfl | rfl | rfl | rfl <;> omega
  refine ⟨sv0, [], [], p.stays (s1.trans s2), ⟨none, 0, o3, Its.nil _ _, fun _ => rfl, (fun ad e => by cases e), by simp, hlo, Pr.nil, ⟨Nat.zero_le _, hN⟩, fun _ => ⟨rfl, rfl⟩⟩, ⟨⟨none, 0, none, 0, o2, fun h => (h rfl).elim, fun h => (h rfl).elim, Nat.le_refl _, Nat.le_refl _, fun _ => rfl, fun _ => rfl, (fun ad e => by cases e), (fun ad e => by cases e), by simp, hlo⟩, Pr.nil, by simp⟩, fun k hk => ?_, by omega, ⟨hz, by omega⟩, hM⟩
  simp only [List.mem_cons, List.not_mem_nil, or_false] at hk
  rcases hk with rfl | rfl | rfl | rfl | rfl | rfl <;> exact ⟨by omega, by omega⟩
end
/-- The call's copy, behind what comes then. -/
theorem copy_cells {W : World} (o : Obj) (cs : Array Value) (t : TypeId) (ho : o = .cells cs t) {G G' : List Nat} (hG : ∀ k ∈ G, k < W.heap.size) : ∀ w', Stp G (W.alloc o) G' w' → ∀ i v, cs[i]? = some v → w'.cell? ⟨W.heap.size, i, none⟩ = some v := fun w' hs i v hv => by
  subst ho
  refine (hs.cell (a := ⟨W.heap.size, i, none⟩) (by simp) (fun h => by have := hG _ h; simp at this)).trans ?_
  rw [cell_of_row _ W.heap.size i _ _ _ (heap_alloc_new W (.cells cs t))]
  exact hv
end Go.Proofs.YtombkdbojdhodaaDoor
