/-
  The forms of all kinds' lines: for each two closures, over a name and fields.
-/
import Derived.Test.YthfiilhbgogoaaaGreatDoorRead2
import Derived.Laws.EntriesVeiled
namespace Go.Proofs.YthfiilhbgogoaaaGreatDoor
open Go.RowKit Go.Lib
set_option linter.unusedVariables false

/-! ### Fields -/
inductive FK | ok | attrs | data | num
def putF : FK → Value
  | .ok => .func (.func 45) #[] #[]
  | .attrs => .func (.func 47) #[] #[]
  | .data => .func (.func 51) #[] #[]
  | .num => .func (.func 55) #[] #[]
def takeF : FK → Value
  | .ok => .func (.func 46) #[] #[]
  | .attrs => .func (.func 49) #[] #[]
  | .data => .func (.func 53) #[] #[]
  | .num => .func (.func 57) #[] #[]
theorem field_info : (Tryz.prog.info? 76).map (·.size) = some 2 := by kernel_rfl
theorem form_info : (Tryz.prog.info? 50).map (·.size) = some 2 := by kernel_rfl
theorem forms_info : (Tryz.prog.info? 52).map (·.size) = some 14 := by kernel_rfl
def FieldIs (k : FK) (w : World) (e : Ending) (w' : World) : Prop := e = .returned (.agg #[putF k, takeF k]) ∧ Stp [] w [] w'
set_option maxRecDepth 100000 in
theorem okf_run (w : World) : Calls Tryz.prog 28 #[] w (FieldIs .ok w) := by
  go_enter Tryz.func28, Tryz.ntmps28
  go_wp2
  refine bodyPost_ret (results_cell_row rfl _ _ w.heap.size _ _ _ _ rfl (heap_alloc_new _ _) Tryz.underlying76 rfl field_info) rfl ?_
  exact ⟨rfl, Stp.alloc _ _ _⟩
set_option maxRecDepth 100000 in
theorem atf_run (w : World) : Calls Tryz.prog 29 #[] w (FieldIs .attrs w) := by
  go_enter Tryz.func29, Tryz.ntmps29
  go_wp2
  refine bodyPost_ret (results_cell_row rfl _ _ w.heap.size _ _ _ _ rfl (heap_alloc_new _ _) Tryz.underlying76 rfl field_info) rfl ?_
  exact ⟨rfl, Stp.alloc _ _ _⟩
set_option maxRecDepth 100000 in
theorem daf_run (w : World) : Calls Tryz.prog 30 #[] w (FieldIs .data w) := by
  go_enter Tryz.func30, Tryz.ntmps30
  go_wp2
  refine bodyPost_ret (results_cell_row rfl _ _ w.heap.size _ _ _ _ rfl (heap_alloc_new _ _) Tryz.underlying76 rfl field_info) rfl ?_
  exact ⟨rfl, Stp.alloc _ _ _⟩
set_option maxRecDepth 100000 in
theorem nuf_run (w : World) : Calls Tryz.prog 31 #[] w (FieldIs .num w) := by
  go_enter Tryz.func31, Tryz.ntmps31
  go_wp2
  refine bodyPost_ret (results_cell_row rfl _ _ w.heap.size _ _ _ _ rfl (heap_alloc_new _ _) Tryz.underlying76 rfl field_info) rfl ?_
  exact ⟨rfl, Stp.alloc _ _ _⟩

/-! ### Forms -/
/-- Two closures over the cells of a name and of fields. -/
def wF (gn gf : Nat) : Value := .func (.func 42) #[] #[.pointer (some ⟨gn, 0, none⟩), .pointer (some ⟨gf, 0, none⟩)]
def rF (gn gf : Nat) : Value := .func (.func 43) #[] #[.pointer (some ⟨gf, 0, none⟩), .pointer (some ⟨gn, 0, none⟩)]
theorem heap_alloc3_new (w : World) (A B C : Obj) : (((w.alloc A).alloc B).alloc C).heap[w.heap.size + 1 + 1]? = some C := by
  have h := heap_alloc2_new (w.alloc A) B C
  rw [World.size_alloc] at h
  exact h
set_option maxRecDepth 100000 in
theorem form_run (w : World) (s : ByteArray) (a : Option Addr) (n c : Nat) : Calls Tryz.prog 27 #[.string s, .slice a n c] w fun e w' =>
    ∃ gn gf, e = .returned (.agg #[wF gn gf, rF gn gf]) ∧ w'.cell? ⟨gn, 0, none⟩ = some (.string s) ∧ w'.cell? ⟨gf, 0, none⟩ = some (.slice a n c) ∧ Stp [] w [] w' := by
  go_enter Tryz.func27, Tryz.ntmps27
  go_wp2
  refine bodyPost_ret (results_cell_row rfl _ _ (w.heap.size + 1 + 1) _ _ _ _ rfl (heap_alloc3_new _ _ _ _) Tryz.underlying50 rfl form_info) rfl ?_
  refine ⟨w.heap.size, w.heap.size + 1, rfl, ?_, ?_, ((Stp.alloc [] _ _).trans (Stp.alloc [] _ _)).trans (Stp.alloc [] _ _)⟩
  · exact ((Stp.alloc [] _ _).trans (Stp.alloc [] _ _)).keeps rfl (by rw [cell_of_row _ _ 0 _ _ _ (heap_alloc_new w (.cells #[.string s] 9))]; rfl)
  · exact (Stp.alloc [] _ _).keeps rfl (by rw [cell_of_row _ _ 0 _ _ _ (heap_alloc2_new w (.cells #[.string s] 9) (.cells #[.slice a n c] 92))]; rfl)
/-- Over a name and fields. -/
def FormAt (w : World) (x : Nat × Nat) (nm : List UInt8) (ks : List FK) : Prop :=
  w.cell? ⟨x.1, 0, none⟩ = some (.string (st nm)) ∧ ∃ a cap, w.cell? ⟨x.2, 0, none⟩ = some (.slice a ks.length cap) ∧
    ∀ (i : Nat) k, ks[i]? = some k → ∃ g, a = some ⟨g, 0, none⟩ ∧ w.cell? ⟨g, 2 * i, none⟩ = some (putF k) ∧ w.cell? ⟨g, 2 * i + 1, none⟩ = some (takeF k)
theorem Stp.keepsAny {F' : List Nat} {w w' : World} (h : Stp [] w F' w') {a : Addr} {v : Value} (hc : w.cell? a = some v) : w'.cell? a = some v := h.keeps rfl hc
theorem FormAt.stays {w w' : World} {G : List Nat} {x : Nat × Nat} {nm : List UInt8} {ks : List FK} (h : FormAt w x nm ks) (hs : Stp [] w G w') : FormAt w' x nm ks := by
  obtain ⟨h1, a, cap, h2, h3⟩ := h
  refine ⟨hs.keepsAny h1, a, cap, hs.keepsAny h2, fun i k hk => ?_⟩
  obtain ⟨g, e, c1, c2⟩ := h3 i k hk
  exact ⟨g, e, hs.keepsAny c1, hs.keepsAny c2⟩
def flat (ks : List FK) : List Value := ks.flatMap fun k => [putF k, takeF k]
theorem flat_at : ∀ (ks : List FK) (i : Nat) k, ks[i]? = some k → (flat ks)[2 * i]? = some (putF k) ∧ (flat ks)[2 * i + 1]? = some (takeF k)
  | [], i, k, h => by simp at h
  | k0 :: ks, 0, k, h => by
    simp at h
    subst h
    exact ⟨rfl, rfl⟩
  | k0 :: ks, i + 1, k, h => by
    have := flat_at ks i k (by simpa using h)
    have e : flat (k0 :: ks) = putF k0 :: takeF k0 :: flat ks := rfl
    rw [e, show 2 * (i + 1) = 2 * i + 1 + 1 by omega, show 2 * i + 1 + 1 + 1 = (2 * i + 1) + 1 + 1 by omega]
    simpa using this
theorem form_at (w : World) (nm : List UInt8) (ks : List FK) : Calls Tryz.prog 27 #[.string (st nm), .slice (some ⟨w.heap.size, 0, none⟩) ks.length ks.length] (w.alloc (.cells (flat ks).toArray 76)) fun e w' =>
    ∃ x : Nat × Nat, e = .returned (.agg #[wF x.1 x.2, rF x.1 x.2]) ∧ FormAt w' x nm ks ∧ Stp [] w [] w' := by
  refine (form_run _ _ _ _ _).mono ?_
  rintro e w' ⟨gn, gf, he, h1, h2, hs⟩
  refine ⟨(gn, gf), he, ⟨h1, _, _, h2, fun i k hk => ⟨w.heap.size, rfl, ?_, ?_⟩⟩, (Stp.alloc [] w _).trans hs⟩
  · refine hs.keepsAny ?_
    rw [cell_of_row _ _ _ _ _ _ (heap_alloc_new w (.cells (flat ks).toArray 76))]
    simpa using (flat_at ks i k hk).1
  · refine hs.keepsAny ?_
    rw [cell_of_row _ _ _ _ _ _ (heap_alloc_new w (.cells (flat ks).toArray 76))]
    simpa using (flat_at ks i k hk).2
theorem form_at0 (w : World) (nm : List UInt8) : Calls Tryz.prog 27 #[.string (st nm), .slice none 0 0] w fun e w' =>
    ∃ x : Nat × Nat, e = .returned (.agg #[wF x.1 x.2, rF x.1 x.2]) ∧ FormAt w' x nm [] ∧ Stp [] w [] w' := by
  refine (form_run _ _ _ _ _).mono ?_
  rintro e w' ⟨gn, gf, he, h1, h2, hs⟩
  exact ⟨(gn, gf), he, ⟨h1, _, _, h2, fun i k hk => by simp at hk⟩, hs⟩
theorem all_set {W : World} {g : Nat} {t : TypeId} {C : Array Value} (h : W.heap[g]? = some (.cells C t (0, 0))) {V : List Value} (hV : V.length = C.size) : (W.setCells g 0 V).heap[g]? = some (.cells V.toArray t (0, 0)) := by
  have := heap_setCells g V 0 W C.toList t (by simpa using h) (by simp; omega)
  rw [this]
  simp [hV]
theorem store_at {W : World} {g : Nat} {t : TypeId} {C : Array Value} (hb : W.heap[g]? = some (.cells C t (0, 0))) (o : Nat) (ho : o < C.size) (v : Value) (hv : v.oneCell' = true) : (store ⟨g, o, none⟩ v).run Tryz.prog W = .ok () (W.setCell ⟨g, o, none⟩ v) := by
  have hc : W.cell? ⟨g, o, none⟩ = some C[o] := by
    rw [cell_of_row W g o _ _ _ hb]
    simp [ho]
  have hz := frozen_of_row W g o _ _ hb
  rw [run_store _ _ _ _ _ hv]
  simp [hc, hz]
/-- Values that are laid into cells, one by one. -/
noncomputable def chain (g : Nat) : Nat → Value → List Value → World → Result Unit
  | o, v, [], w => (store ⟨g, o, none⟩ v).run Tryz.prog w
  | o, v, v' :: r, w => ((store ⟨g, o, none⟩ v).run Tryz.prog w).andThen fun _ w' => chain g (o + 1) v' r w'
theorem chain_ok (g : Nat) (t : TypeId) : ∀ (r : List Value) (o : Nat) (v : Value) (w : World) (C : Array Value), w.heap[g]? = some (.cells C t (0, 0)) → o + r.length < C.size → (∀ x ∈ v :: r, x.oneCell' = true) → chain g o v r w = .ok () (w.setCells g o (v :: r))
  | [], o, v, w, C, hb, ho, h1 => store_at hb o (by simpa using ho) v (h1 v (by simp))
  | v' :: r, o, v, w, C, hb, ho, h1 => by
    simp only [List.length_cons] at ho
    unfold chain
    rw [store_at hb o (by omega) v (h1 v (by simp)), Result.andThen_ok]
    have hb2 := heap_setCell_same w g o _ _ v hb
    exact chain_ok g t r (o + 1) v' _ _ hb2 (by rw [Array.size_setIfInBounds]; omega) (fun x hx => h1 x (List.mem_cons_of_mem _ hx))
theorem FormAt.set {W : World} {g : Nat} {t : TypeId} {n : Nat} (hb : W.heap[g]? = some (.cells (Array.replicate n .nilFunc) t (0, 0))) {x : Nat × Nat} {nm : List UInt8} {ks : List FK} (h : FormAt W x nm ks) (V : List Value) : FormAt (W.setCells g 0 V) x nm ks := by
  have hne : ∀ (b o : Nat) (v : Value), W.cell? ⟨b, o, none⟩ = some v → v ≠ .nilFunc → b ≠ g := by
    intro b o v hc hv e
    subst e
    rw [cell_of_row W b o _ _ _ hb] at hc
    simp only [Array.getElem?_replicate] at hc
    split at hc
    · exact hv (Option.some.inj hc).symm
    · cases hc
  have keep : ∀ (b o : Nat) (v : Value), W.cell? ⟨b, o, none⟩ = some v → v ≠ .nilFunc → (W.setCells g 0 V).cell? ⟨b, o, none⟩ = some v := by
    intro b o v hc hv
    have hn := hne b o v hc hv
    have hlt : b < W.heap.size := by
      unfold World.cell? at hc
      split at hc
      · exact (Array.getElem?_eq_some_iff.1 (by assumption)).1
      · cases hc
    rw [(setCells_other g V 0 W).cell (a := ⟨b, o, none⟩) hlt (by simpa using hn)]
    exact hc
  obtain ⟨h1, a, cap, h2, h3⟩ := h
  refine ⟨keep _ _ _ h1 (by simp), a, cap, keep _ _ _ h2 (by simp), fun i k hk => ?_⟩
  obtain ⟨g', e, c1, c2⟩ := h3 i k hk
  exact ⟨g', e, keep _ _ _ c1 (by cases k <;> simp [putF]), keep _ _ _ c2 (by cases k <;> simp [takeF])⟩
end Go.Proofs.YthfiilhbgogoaaaGreatDoor
