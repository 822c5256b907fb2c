/-
  The buffer's calls: what lies a character; the table of what keys do; Do.
-/
import Derived.Test.YtombkdbojdhodaaDoorBuf3
import Derived.Maps.OwnSet
import Derived.Maps.OwnOps
import Derived.Deep.RegionWith
namespace Go.Proofs.YtombkdbojdhodaaDoor
open Go.RowKit Go.Lib Go.Maps
set_option linter.unusedVariables false

/-- A row of bytes of the call's own is cleared. -/
theorem clear_row {w : World} {base n : Nat} {v : Value} {xs : List Value} (h : w.ownsRow base 5 1 v n xs) (ty : TypeId) :
    ∃ w', (Builtin.clear_ #[50] ty #[v]).run Tryd.prog w = .ok (.tuple #[]) w' ∧ ∃ F, (∀ k ∈ F, base ≤ k) ∧ Stp F w F w' := by
  rcases h.2 with ⟨rfl, h0⟩ | ⟨g, cap, cur, rfl, hg, hh, hnc, hm, hcur, htake⟩
  · exact ⟨w, by simp [Builtin.clear_, run_underlying (P := Tryd.prog) Tryd.underlying50], [], (fun k hk => by cases hk), Stp.refl _ _⟩
  · rcases Nat.eq_zero_or_pos n with e | e
    · subst e
      exact ⟨w, by simp [Builtin.clear_, run_underlying (P := Tryd.prog) Tryd.underlying50], [], (fun k hk => by cases hk), Stp.refl _ _⟩
    · have hrun := run_clear_slice (P := Tryd.prog) w 50 5 ty (.int .u8 0) Tryd.underlying50 zero8 rfl rfl g 0 n cap e (fun j hj => by
        rw [Nat.zero_add, cell_of_row w g j cur _ _ hh]
        have : j < cur.size := by omega
        simp [this]) (fun j hj => frozen_of_row w g _ cur _ hh)
      exact ⟨_, hrun, [g], (fun k hk => by rw [List.mem_singleton.1 hk]; exact hg), setCells_other g _ 0 w⟩
theorem own_of_U {w : World} {base : Nat} {v : Value} {l : List Nat} (h : U.Own w base v l) (hl : ∀ x ∈ l, x < 256) : Own w base v (l.map UInt8.ofNat) := by
  have e1 : (l.map UInt8.ofNat).map bval = l.map U.bval := by
    rw [List.map_map]
    refine List.map_congr_left (fun x hx => ?_)
    show Value.int .u8 (((UInt8.ofNat x).toNat : Nat) : Int) = Value.int .u8 (x : Int)
    rw [UInt8.toNat_ofNat', Nat.mod_eq_of_lt (hl x hx)]
  unfold Own
  rw [e1, List.length_map]
  exact h
section
variable {W : World} {e b g N : Nat} {A B : List Nat}
set_option maxRecDepth 100000 in
theorem lay_run (h : Bu W e b g N A B) (X : List Nat) (hX : Pr X) (p : Option Addr) (n c : Nat) (hx : Bts W p (fl X)) (hd : fl X ≠ [] → ∀ ad, p = some ad → ad.block ≠ g) (hl : n = (fl X).length) :
    Calls Tryd.prog 47 #[.pointer (some ⟨e, 0, none⟩), .slice p n c] W (Did e b g N (layS N X A B) W) := by
  have c0 := h.c0
  have c1 := h.c1
  have hle := h.lens
  by_cases hf : (fl (A ++ B)).length + (fl X).length ≤ N
  · have er : layS N X A B = ⟨0, A ++ X, B⟩ := if_pos hf
    rw [er]
    have e1 : (fl (A ++ B)).take (fl A).length ++ fl X ++ (fl (A ++ B)).drop (fl A).length = fl ((A ++ X) ++ B) := by
      rw [fl_app A B, List.take_left' rfl, List.drop_left' rfl, fl_app, fl_app]
    have K : ∀ W', Stp [] W [] W' → Calls Tryd.prog 34 #[.pointer (some ⟨b, 0, none⟩), .int .i64 ((fl A).length : Int), .slice p n c] W'
        fun en w' => en = .returned (.int .i64 0) ∧ Ar w' b g N (fl ((A ++ X) ++ B)) ∧ Stp [b, g] W [b, g] w' := fun W' hs => by
      have k := insert_run (h.ar.stays hs) (fl A).length p (fl X) n c (hx.stays hs) hd hl (by omega) (by omega)
      rw [e1] at k
      exact k.mono fun _ _ ⟨h1, h2, h3⟩ => ⟨h1, h2, (hs.more (fun k hk => by cases hk)).trans h3⟩
    have K := Lib.hid K
    have H := Lib.hid (And.intro h (And.intro hX hl))
    have hw : IntKind.i64.wrap (((fl A).length : Int) + (n : Int)) = (((fl A).length + n : Nat) : Int) := by rw [IntKind.wrap_i64]; omega
    have hw2 : (fl A).length + n = (fl (A ++ X)).length := by rw [fl_app, List.length_append, hl]
    have HW := Lib.hid hw2
    clear h hx hd hf er e1 hle hX hl hw2
    obtain ⟨m, hm⟩ : ∃ m, m = (fl A).length := ⟨_, rfl⟩
    rw [← hm] at c1 hw HW K
    have HM := Lib.hid hm
    clear hm
    go_enter Tryd.func47, Tryd.ntmps47
    go_wp2_with fail
    go_region_with (go_at_call 34; refine (K.out _ ?_).mono ?_; (repeat (first | exact Stp.refl _ _ | refine Stp.trans ?_ (Stp.drew _ _))); rintro _ w1 ⟨rfl, ha, hs⟩; have HS := Lib.hid (And.intro ha hs); clear ha hs)
    all_goals
      obtain ⟨ha, hs⟩ := HS.out
      have ho : w1.heap[e]? = some (.cells #[.pointer (some ⟨b, 0, none⟩), .int .i64 (m : Int)] 85 (0, 0)) := by
        rw [HM.out]
        exact (hs.block e H.out.1.lt.1 (by simp [H.out.1.eb, H.out.1.eg])).trans H.out.1.obj
      have f1 : w1.frozen? ⟨e, 1, none⟩ = false := frozen_of_row w1 e 1 _ _ ho
      have d1 : w1.cell? ⟨e, 1, none⟩ = some (.int .i64 (m : Int)) := by rw [cell_of_row w1 e 1 _ _ _ ho]; rfl
      have HO := Lib.hid (And.intro ho (And.intro ha hs))
      clear ho ha hs K HS
      go_wp2
      go_ret
      obtain ⟨ho, ha, hs⟩ := HO.out
      obtain ⟨h, hX, hl⟩ := H.out
      have s2 : Stp [e] w1 [e] (w1.setCell ⟨e, 1, none⟩ (.int .i64 ((m + n : Nat) : Int))) := Stp.setCell (F := [e]) (a := ⟨e, 1, none⟩) w1 _ (by simp)
      refine ⟨rfl, ⟨?_, ha.other s2 (by simpa using h.eb.symm) (by simpa using h.eg.symm), (h.pr.left.app hX).app h.pr.right, h.eb, h.eg⟩, (hs.more (fun k hk => by simp at hk; simp; omega)).trans (s2.more (fun k hk => by simp at hk; simp; omega))⟩
      show _ = some (Obj.cells #[.pointer (some ⟨b, 0, none⟩), .int .i64 ((fl (A ++ X)).length : Int)] 85 (0, 0))
      rw [← HW.out]
      exact heap_setCell_same w1 e 1 _ _ _ ho
  · have er : layS N X A B = ⟨4, A, B⟩ := if_neg hf
    rw [er]
    have K : ∀ W', Stp [] W [] W' → Calls Tryd.prog 34 #[.pointer (some ⟨b, 0, none⟩), .int .i64 ((fl A).length : Int), .slice p n c] W'
        fun en w' => en = .returned (.int .i64 4) ∧ Stp [] W [] w' := fun W' hs =>
      (insert_full (h.ar.stays hs) (fl A).length p n c (by omega) (by omega)).mono fun _ _ ⟨h1, q, h2⟩ => ⟨h1, by rw [h2]; exact hs.trans (Stp.drewN _ _ _)⟩
    have K := Lib.hid K
    have H := Lib.hid h
    clear h hx hd hf er hle hX hl
    generalize (fl A).length = m at *
    go_enter Tryd.func47, Tryd.ntmps47
    go_wp2_with fail
    go_region_with (go_at_call 34; refine (K.out _ ?_).mono ?_; (repeat (first | exact Stp.refl _ _ | refine Stp.trans ?_ (Stp.drew _ _))); rintro _ w1 ⟨rfl, hs⟩; have HS := Lib.hid hs; clear hs)
    all_goals
      go_wp2
      go_ret
      exact ⟨rfl, H.out.stays HS.out, HS.out.more (fun k hk => by cases hk)⟩
set_option maxRecDepth 100000 in
theorem bput_run (h : Bu W e b g N A B) (c : Int) : Calls Tryd.prog 19 #[.pointer (some ⟨e, 0, none⟩), .int .i64 c] W (Did e b g N (putS N c A B) W) := by
  have KP := Lib.hid (U.pr_any c W)
  by_cases hp : U.prB c = true
  · have er : putS N c A B = layS N [c.toNat] A B := if_pos hp
    rw [er]
    rw [hp] at KP
    have h0 := of_decide_eq_true hp
    obtain ⟨m, rfl⟩ : ∃ m : Nat, c = (m : Int) := ⟨c.toNat, by omega⟩
    obtain ⟨hc, hm⟩ := pr_ch hp
    have KU := Lib.hid (U.put_yes m W hc)
    have H := Lib.hid (And.intro h (And.intro (Pr.one hp) hm))
    rw [Int.toNat_natCast] at *
    clear er h hp hc hm h0
    go_enter Tryd.func19, Tryd.ntmps19
    go_wp2_with fail
    refine KP.out.mono ?_
    rintro _ w0 ⟨rfl, hw⟩
    obtain rfl : W = w0 := hw.symm
    clear KP
    go_wp2_with fail
    refine KU.out.mono ?_
    rintro _ w1 ⟨v, rfl, ho, hb⟩
    have s1 := Stp.of_below hb
    have ho := own_of_U ho (U.enc_lt m H.out.2.2)
    rw [show (U.enc m).map UInt8.ofNat = enc8 m from rfl] at ho
    obtain ⟨a, cap, rfl, hbt, hcap, hz, hbl⟩ := ho.bts
    have HB := Lib.hid (And.intro ho (And.intro s1 hbl))
    have KL := lay_run (H.out.1.stays s1) [m] H.out.2.1 a (enc8 m).length cap (by rw [fl_one]; exact hbt) (fun _ ad e => by
      have h1 := hbl ad e
      have h2 := H.out.1.lt
      omega) (by rw [fl_one])
    have KL := Lib.hid KL
    clear ho hb s1 hbt hcap hz hbl KU
    go_wp2_with fail
    refine KL.out.mono ?_
    rintro _ w2 ⟨rfl, h2, s2⟩
    have hown : Own w2 W.heap.size (.slice a (enc8 m).length cap) (enc8 m) := HB.out.1.other s2 (fun k hk => by
      have h1 := HB.out.1.lt k hk
      have h2 := H.out.1.lt
      simp
      omega)
    obtain ⟨w3, hclr, F, hF, s3⟩ := clear_row hown 0
    have HO := Lib.hid (And.intro h2 (And.intro s2 (And.intro hF s3)))
    clear h2 s2 hF s3 hown KL
    generalize (layS N [m] A B) = r at *
    go_wp2
    go_ret
    obtain ⟨h2, s2, hF, s3⟩ := HO.out
    have hlt := H.out.1.lt
    have hnf : ∀ k, k < W.heap.size → k ∉ F := fun k hk g => by have := hF k g; omega
    refine ⟨rfl, h2.other s3 (hnf _ hlt.1) (hnf _ hlt.2.1) (hnf _ hlt.2.2), ?_⟩
    have s12 : Stp [e, b, g] W [e, b, g] w2 := (HB.out.2.1.more (fun k hk => by cases hk)).trans s2
    exact ⟨s3.os.trans s12.os, s3.tape.trans s12.tape, s3.output.trans s12.output, Nat.le_trans s12.size s3.size, fun k hk hk2 => (s3.block k (Nat.lt_of_lt_of_le hk s12.size) (hnf k hk)).trans (s12.block k hk hk2), fun k hk => .inl hk⟩
  · have er : putS N c A B = ⟨2, A, B⟩ := if_neg hp
    rw [er]
    have hpf : U.prB c = false := by simpa using hp
    rw [hpf] at KP
    have H := Lib.hid h
    clear er h hp hpf
    go_enter Tryd.func19, Tryd.ntmps19
    go_wp2_with fail
    refine KP.out.mono ?_
    rintro _ w0 ⟨rfl, hw⟩
    obtain rfl : W = w0 := hw.symm
    go_wp2
    go_ret
    exact ⟨rfl, H.out, Stp.refl _ _⟩
end
/-! ### The table -/
abbrev kI (n : Int) : Lit := .int .i64 n
theorem lawI : Keyed Tryd.prog 3 := int_keyed Tryd.underlying3
theorem kI_ne {a b : Int} (h : a ≠ b) : kI a ≠ kI b := fun e => h (by simpa [kI] using e)
/-- How a function in a map reads: by its number. -/
def fEl : Value → Option (DataW Unit × List MemPlace)
  | .nilFunc => some (.lit (.int .i64 (-1)), [])
  | .func (.func f) a b => if a = #[] ∧ b = #[] then some (.lit (.int .i64 (f : Int)), []) else none
  | _ => none
theorem fEl_inv {v : Value} {y : DataW Unit × List MemPlace} {f : Nat} (h : fEl v = some y) (hy : y.1 = .lit (.int .i64 (f : Int))) : v = .func (.func f) #[] #[] := by
  unfold fEl at h
  split at h
  · cases h
    simp only [DataW.lit.injEq, Lit.int.injEq, true_and] at hy
    omega
  · rename_i c a b
    split at h
    · rename_i hab
      cases h
      simp only [DataW.lit.injEq, Lit.int.injEq, true_and] at hy
      have : c = f := by first | exact hy | exact Int.ofNat.inj hy
      rw [this, hab.1, hab.2]
    · cases h
  · cases h
theorem zeroF (w : World) : (zeroValue 80).run Tryd.prog w = .ok .nilFunc w := by kernel_rfl
/-- A map of functions, the last one that was laid first. -/
def cm : List (Int × Nat) → DataW Unit
  | [] => .map []
  | p :: r => (cm r).put (kI p.1) (.lit (.int .i64 (p.2 : Int)))
theorem cm_isMap : ∀ L, IsMap (cm L)
  | [] => ⟨[], rfl⟩
  | p :: r => (cm_isMap r).put _ _
/-- What lies at a number. -/
def cat (c : Int) : List (Int × Nat) → Option Nat
  | [] => none
  | p :: r => if c = p.1 then some p.2 else cat c r
theorem cm_has (c : Int) : ∀ L, Maps.has (cm L) (kI c) = (cat c L).isSome
  | [] => rfl
  | p :: r => by
    rw [cm, cat]
    by_cases h : c = p.1
    · subst h
      rw [has_put_same (k := kI p.1) (cm_isMap r) (show WideAt.IsKeyLit (kI p.1) from trivial), if_pos rfl]
      rfl
    · rw [has_put_other (kI_ne h), if_neg h, cm_has c r]
theorem cm_at (c : Int) (zd : DataW Unit) : ∀ L, (cm L).atKey (kI c) zd = match cat c L with | none => zd | some f => .lit (.int .i64 (f : Int))
  | [] => rfl
  | p :: r => by
    rw [cm, cat]
    by_cases h : c = p.1
    · subst h
      rw [atKey_put_same (k := kI p.1) (cm_isMap r) (show WideAt.IsKeyLit (kI p.1) from trivial), if_pos rfl]
    · rw [atKey_put_other (kI_ne h), if_neg h, cm_at c zd r]
def OM (w : World) (b n : Nat) (D : DataW Unit) : Prop := w.ownsMap Tryd.prog 3 fEl b n D
theorem Stp.of_grownM {W W' : World} {b : Nat} (h : W.grownBy W' (some b)) : Stp [b] W [b] W' :=
  ⟨h.os, h.tape, h.output, h.size, fun k hk hF => h.block k hk (fun e => hF (by simp at e; simp [e])), fun k hk => .inl hk⟩
theorem OM.put {w : World} {b n : Nat} {L : List (Int × Nat)} (h : OM w b n (cm L)) (hn : n ≤ 100) (k : Int) (f : Nat) (hk : (Lit.int .i64 k).wf = true) :
    ∃ w', (Instr.mapUpdate 82 (.map (some b)) (.int .i64 k) (.func (.func f) #[] #[])).run Tryd.prog w = .ok () w' ∧ OM w' b (n + 1) (cm ((k, f) :: L)) ∧ Stp [b] w [b] w' := by
  obtain ⟨w', hrun, r1, r2⟩ := World.ownsMap.update h lawI Tryd.underlying82 (by unfold maxLen; omega) (keyOf_int_mk Tryd.underlying3 hk) (show fEl (.func (.func f) #[] #[]) = some (.lit (.int .i64 (f : Int)), []) by simp [fEl])
  exact ⟨w', hrun, r1, Stp.of_grownM r2⟩
theorem OM.look {w : World} {b n : Nat} {L : List (Int × Nat)} (h : OM w b n (cm L)) (c : Int) (hc : (Lit.int .i64 c).wf = true) (f : Nat) (hf : cat c L = some f) :
    (Instr.lookup 82 (.map (some b)) (.int .i64 c) true).run Tryd.prog w = .ok (.tuple #[.func (.func f) #[] #[], .bool true]) w := by
  obtain ⟨v, ps, hrun, hv⟩ := World.ownsMap.look_ok h lawI Tryd.underlying82 (zeroF w) (zd := .lit (.int .i64 (-1))) (zp := []) rfl (keyOf_int_mk Tryd.underlying3 hc)
  rw [show (Lit.int IntKind.i64 c) = kI c from rfl, cm_at, hf] at hv
  rw [show (Lit.int IntKind.i64 c) = kI c from rfl, cm_has, hf] at hrun
  rw [hrun, fEl_inv hv rfl]
  rfl
theorem OM.lookNo {w : World} {b n : Nat} {L : List (Int × Nat)} (h : OM w b n (cm L)) (c : Int) (hc : (Lit.int .i64 c).wf = true) (hf : cat c L = none) :
    ∃ v, (Instr.lookup 82 (.map (some b)) (.int .i64 c) true).run Tryd.prog w = .ok (.tuple #[v, .bool false]) w := by
  obtain ⟨v, ps, hrun, hv⟩ := World.ownsMap.look_ok h lawI Tryd.underlying82 (zeroF w) (zd := .lit (.int .i64 (-1))) (zp := []) rfl (keyOf_int_mk Tryd.underlying3 hc)
  rw [show (Lit.int IntKind.i64 c) = kI c from rfl, cm_has, hf] at hrun
  exact ⟨v, hrun⟩
def tab : List (Int × Nat) := [(9, 69), (8, 68), (7, 67), (6, 66), (5, 65), (4, 64), (3, 63), (2, 62), (0, 19)]
def Tbl (w : World) (e : Ending) (w' : World) : Prop := ∃ b, e = .returned (.map (some b)) ∧ OM w' b 9 (cm tab) ∧ Stp [] w [] w'
set_option maxHeartbeats 1000000 in
set_option maxRecDepth 100000 in
theorem doings_run (w : World) : Calls Tryd.prog 49 #[] w (Tbl w) := by
  have hmm := @run_makeMap Tryd.prog
  have o0 : OM (w.alloc (.map #[] 0)) w.heap.size 0 (cm []) := World.ownsMap_made w Tryd.prog 3 _
  have s0 : Stp [] w [w.heap.size] (w.alloc (.map #[] 0)) := (Stp.alloc [] w _).fresh (Stp.refl [w.heap.size] _) (by simp)
  obtain ⟨w1, e1, o1, q1⟩ := o0.put (by omega) 0 19 (by decide)
  have s1 := s0.trans q1
  clear o0 s0 q1
  obtain ⟨w2, e2, o2, q2⟩ := o1.put (by omega) 2 62 (by decide)
  have s2 := s1.trans q2
  clear o1 s1 q2
  obtain ⟨w3, e3, o3, q3⟩ := o2.put (by omega) 3 63 (by decide)
  have s3 := s2.trans q3
  clear o2 s2 q3
  obtain ⟨w4, e4, o4, q4⟩ := o3.put (by omega) 4 64 (by decide)
  have s4 := s3.trans q4
  clear o3 s3 q4
  obtain ⟨w5, e5, o5, q5⟩ := o4.put (by omega) 5 65 (by decide)
  have s5 := s4.trans q5
  clear o4 s4 q5
  obtain ⟨w6, e6, o6, q6⟩ := o5.put (by omega) 6 66 (by decide)
  have s6 := s5.trans q6
  clear o5 s5 q6
  obtain ⟨w7, e7, o7, q7⟩ := o6.put (by omega) 7 67 (by decide)
  have s7 := s6.trans q7
  clear o6 s6 q7
  obtain ⟨w8, e8, o8, q8⟩ := o7.put (by omega) 8 68 (by decide)
  have s8 := s7.trans q8
  clear o7 s7 q8
  obtain ⟨w9, e9, o9, q9⟩ := o8.put (by omega) 9 69 (by decide)
  have s9 := s8.trans q9
  clear o8 s8 q9
  have HO : Aside (OM w9 w.heap.size 9 (cm tab) ∧ Stp [] w [w.heap.size] w9) := ⟨o9, s9⟩
  clear o9 s9
  go_enter Tryd.func49, Tryd.ntmps49
  go_wp2
  go_ret
  exact ⟨_, rfl, HO.out.1, HO.out.2.none⟩
end Go.Proofs.YtombkdbojdhodaaDoor
