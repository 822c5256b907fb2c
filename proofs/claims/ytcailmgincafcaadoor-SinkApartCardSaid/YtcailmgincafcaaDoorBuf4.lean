/-
  The buffer's calls: what lies a character; the table of what keys do; Do.
-/
import Derived.Test.YtcailmgincafcaaDoorBuf3
import Derived.Maps.OwnSet
import Derived.Maps.OwnOps
import Derived.Deep.RegionWith
namespace Go.Proofs.YtcailmgincafcaaDoor
open Go.RowKit Go.Lib Go.Maps
set_option linter.unusedVariables false

/-- A row of bytes of the call's own is cleared. -/
theorem clear_row {w : World} {base n : Nat} {v : Value} {xs : List Value} (h : w.ownsRow base 5 1 v n xs) (ty : TypeId) :
    ∃ w', (Builtin.clear_ #[22] ty #[v]).run Tryd.prog w = .ok (.tuple #[]) w' ∧ ∃ F, (∀ k ∈ F, base ≤ k) ∧ Stp F w F w' := by
  rcases h.2 with ⟨rfl, h0⟩ | ⟨g, cap, cur, rfl, hg, hh, hnc, hm, hcur, htake⟩
  · exact ⟨w, by simp [Builtin.clear_, run_underlying (P := Tryd.prog) Tryd.underlying22], [], (fun k hk => by cases hk), Stp.refl _ _⟩
  · rcases Nat.eq_zero_or_pos n with e | e
    · subst e
      exact ⟨w, by simp [Builtin.clear_, run_underlying (P := Tryd.prog) Tryd.underlying22], [], (fun k hk => by cases hk), Stp.refl _ _⟩
    · have hrun := run_clear_slice (P := Tryd.prog) w 22 5 ty (.int .u8 0) Tryd.underlying22 zero8 rfl rfl g 0 n cap e (fun j hj => by
        rw [Nat.zero_add, cell_of_row w g j cur _ _ hh]
        have : j < cur.size := by omega
        simp [this]) (fun j hj => frozen_of_row w g _ cur _ hh)
      exact ⟨_, hrun, [g], (fun k hk => by rw [List.mem_singleton.1 hk]; exact hg), setCells_other g _ 0 w⟩
theorem own_of_U {w : World} {base : Nat} {v : Value} {l : List Nat} (h : U.Own w base v l) (hl : ∀ x ∈ l, x < 256) : Own w base v (l.map UInt8.ofNat) := by
  have e1 : (l.map UInt8.ofNat).map bval = l.map U.bval := by
    rw [List.map_map]
    refine List.map_congr_left (fun x hx => ?_)
    show Value.int .u8 (((UInt8.ofNat x).toNat : Nat) : Int) = Value.int .u8 (x : Int)
    rw [UInt8.toNat_ofNat', Nat.mod_eq_of_lt (hl x hx)]
  unfold Own
  rw [e1, List.length_map]
  exact h
section
variable {W : World} {e b g N : Nat} {A B : List Nat}
set_option maxRecDepth 100000 in
theorem lay_run (h : Bu W e b g N A B) (X : List Nat) (hX : Pr X) (p : Option Addr) (n c : Nat) (hx : Bts W p (fl X)) (hd : fl X ≠ [] → ∀ ad, p = some ad → ad.block ≠ g) (hl : n = (fl X).length) :
    Calls Tryd.prog 28 #[.pointer (some ⟨e, 0, none⟩), .slice p n c] W (Did e b g N (layS N X A B) W) := by
  have c0 := h.c0
  have c1 := h.c1
  have hle := h.lens
  by_cases hf : (fl (A ++ B)).length + (fl X).length ≤ N
  · have er : layS N X A B = ⟨0, A ++ X, B⟩ := if_pos hf
    rw [er]
    have e1 : (fl (A ++ B)).take (fl A).length ++ fl X ++ (fl (A ++ B)).drop (fl A).length = fl ((A ++ X) ++ B) := by
      rw [fl_app A B, List.take_left' rfl, List.drop_left' rfl, fl_app, fl_app]
    have K : ∀ W', Stp [] W [] W' → Calls Tryd.prog 34 #[.pointer (some ⟨b, 0, none⟩), .int .i64 ((fl A).length : Int), .slice p n c] W'
        fun en w' => en = .returned (.int .i64 0) ∧ Ar w' b g N (fl ((A ++ X) ++ B)) ∧ Stp [b, g] W [b, g] w' := fun W' hs => by
      have k := insert_run (h.ar.stays hs) (fl A).length p (fl X) n c (hx.stays hs) hd hl (by omega) (by omega)
      rw [e1] at k
      exact k.mono fun _ _ ⟨h1, h2, h3⟩ => ⟨h1, h2, (hs.more (fun k hk => by cases hk)).trans h3⟩
    have K := Lib.hid K
    have H := Lib.hid (And.intro h (And.intro hX hl))
    have hw : IntKind.i64.wrap (((fl A).length : Int) + (n : Int)) = (((fl A).length + n : Nat) : Int) := by rw [IntKind.wrap_i64]; omega
    have hw2 : (fl A).length + n = (fl (A ++ X)).length := by rw [fl_app, List.length_append, hl]
    have HW := Lib.hid hw2
    clear h hx hd hf er e1 hle hX hl hw2
    obtain ⟨m, hm⟩ : ∃ m, m = (fl A).length := ⟨_, rfl⟩
    rw [← hm] at c1 hw HW K
    have HM := Lib.hid hm
    clear hm
    go_enter Tryd.func28, Tryd.ntmps28
    go_wp2_with fail
    go_region_with (go_at_call 34; refine (K.out _ ?_).mono ?_; (repeat (first | exact Stp.refl _ _ | refine Stp.trans ?_ (Stp.drew _ _))); rintro _ w1 ⟨rfl, ha, hs⟩; have HS := Lib.hid (And.intro ha hs); clear ha hs)
    all_goals
      obtain ⟨ha, hs⟩ := HS.out
      have ho : w1.heap[e]? = some (.cells #[.pointer (some ⟨b, 0, none⟩), .int .i64 (m : Int)] 56 (0, 0)) := by
        rw [HM.out]
        exact (hs.block e H.out.1.lt.1 (by simp [H.out.1.eb, H.out.1.eg])).trans H.out.1.obj
      have f1 : w1.frozen? ⟨e, 1, none⟩ = false := frozen_of_row w1 e 1 _ _ ho
      have d1 : w1.cell? ⟨e, 1, none⟩ = some (.int .i64 (m : Int)) := by rw [cell_of_row w1 e 1 _ _ _ ho]; rfl
      have HO := Lib.hid (And.intro ho (And.intro ha hs))
      clear ho ha hs K HS
      go_wp2
      go_ret
      obtain ⟨ho, ha, hs⟩ := HO.out
      obtain ⟨h, hX, hl⟩ := H.out
      have s2 : Stp [e] w1 [e] (w1.setCell ⟨e, 1, none⟩ (.int .i64 ((m + n : Nat) : Int))) := Stp.setCell (F := [e]) (a := ⟨e, 1, none⟩) w1 _ (by simp)
      refine ⟨rfl, ⟨?_, ha.other s2 (by simpa using h.eb.symm) (by simpa using h.eg.symm), (h.pr.left.app hX).app h.pr.right, h.eb, h.eg⟩, (hs.more (fun k hk => by simp at hk; simp; omega)).trans (s2.more (fun k hk => by simp at hk; simp; omega))⟩
      show _ = some (Obj.cells #[.pointer (some ⟨b, 0, none⟩), .int .i64 ((fl (A ++ X)).length : Int)] 56 (0, 0))
      rw [← HW.out]
      exact heap_setCell_same w1 e 1 _ _ _ ho
  · have er : layS N X A B = ⟨4, A, B⟩ := if_neg hf
    rw [er]
    have K : ∀ W', Stp [] W [] W' → Calls Tryd.prog 34 #[.pointer (some ⟨b, 0, none⟩), .int .i64 ((fl A).length : Int), .slice p n c] W'
        fun en w' => en = .returned (.int .i64 4) ∧ Stp [] W [] w' := fun W' hs =>
      (insert_full (h.ar.stays hs) (fl A).length p n c (by omega) (by omega)).mono fun _ _ ⟨h1, q, h2⟩ => ⟨h1, by rw [h2]; exact hs.trans (Stp.drewN _ _ _)⟩
    have K := Lib.hid K
    have H := Lib.hid h
    clear h hx hd hf er hle hX hl
    generalize (fl A).length = m at *
    go_enter Tryd.func28, Tryd.ntmps28
    go_wp2_with fail
    go_region_with (go_at_call 34; refine (K.out _ ?_).mono ?_; (repeat (first | exact Stp.refl _ _ | refine Stp.trans ?_ (Stp.drew _ _))); rintro _ w1 ⟨rfl, hs⟩; have HS := Lib.hid hs; clear hs)
    all_goals
      go_wp2
      go_ret
      exact ⟨rfl, H.out.stays HS.out, HS.out.more (fun k hk => by cases hk)⟩
end
/-! ### The table -/
abbrev kI (n : Int) : Lit := .int .i64 n
theorem lawI : Keyed Tryd.prog 3 := int_keyed Tryd.underlying3
theorem kI_ne {a b : Int} (h : a ≠ b) : kI a ≠ kI b := fun e => h (by simpa [kI] using e)
/-- How a function in a map reads: by its number. -/
def fEl : Value → Option (DataW Unit × List MemPlace)
  | .nilFunc => some (.lit (.int .i64 (-1)), [])
  | .func (.func f) a b => if a = #[] ∧ b = #[] then some (.lit (.int .i64 (f : Int)), []) else none
  | _ => none
theorem fEl_inv {v : Value} {y : DataW Unit × List MemPlace} {f : Nat} (h : fEl v = some y) (hy : y.1 = .lit (.int .i64 (f : Int))) : v = .func (.func f) #[] #[] := by
  unfold fEl at h
  split at h
  · cases h
    simp only [DataW.lit.injEq, Lit.int.injEq, true_and] at hy
    omega
  · rename_i c a b
    split at h
    · rename_i hab
      cases h
      simp only [DataW.lit.injEq, Lit.int.injEq, true_and] at hy
      have : c = f := by first | exact hy | exact Int.ofNat.inj hy
      rw [this, hab.1, hab.2]
    · cases h
  · cases h
/-- A map of functions, the last one that was laid first. -/
def cm : List (Int × Nat) → DataW Unit
  | [] => .map []
  | p :: r => (cm r).put (kI p.1) (.lit (.int .i64 (p.2 : Int)))
theorem cm_isMap : ∀ L, IsMap (cm L)
  | [] => ⟨[], rfl⟩
  | p :: r => (cm_isMap r).put _ _
/-- What lies at a number. -/
def cat (c : Int) : List (Int × Nat) → Option Nat
  | [] => none
  | p :: r => if c = p.1 then some p.2 else cat c r
theorem cm_has (c : Int) : ∀ L, Maps.has (cm L) (kI c) = (cat c L).isSome
  | [] => rfl
  | p :: r => by
    rw [cm, cat]
    by_cases h : c = p.1
    · subst h
      rw [has_put_same (k := kI p.1) (cm_isMap r) (show WideAt.IsKeyLit (kI p.1) from trivial), if_pos rfl]
      rfl
    · rw [has_put_other (kI_ne h), if_neg h, cm_has c r]
theorem cm_at (c : Int) (zd : DataW Unit) : ∀ L, (cm L).atKey (kI c) zd = match cat c L with | none => zd | some f => .lit (.int .i64 (f : Int))
  | [] => rfl
  | p :: r => by
    rw [cm, cat]
    by_cases h : c = p.1
    · subst h
      rw [atKey_put_same (k := kI p.1) (cm_isMap r) (show WideAt.IsKeyLit (kI p.1) from trivial), if_pos rfl]
    · rw [atKey_put_other (kI_ne h), if_neg h, cm_at c zd r]
def OM (w : World) (b n : Nat) (D : DataW Unit) : Prop := w.ownsMap Tryd.prog 3 fEl b n D
theorem Stp.of_grownM {W W' : World} {b : Nat} (h : W.grownBy W' (some b)) : Stp [b] W [b] W' :=
  ⟨h.os, h.tape, h.output, h.size, fun k hk hF => h.block k hk (fun e => hF (by simp at e; simp [e])), fun k hk => .inl hk⟩
end Go.Proofs.YtcailmgincafcaaDoor
