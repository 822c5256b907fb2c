/-
  The seven forms: an array of closures.
-/
import Derived.Test.YthfiilhbgogoaaaGreatDoorForm
namespace Go.Proofs.YthfiilhbgogoaaaGreatDoor
open Go.RowKit Go.Lib
set_option linter.unusedVariables false

/-- The seven forms: names and fields. -/
def FL : List (List UInt8 × List FK) := [([103, 111, 116], [.ok, .attrs]), ([119, 97, 115], [.ok, .attrs]), ([119, 114, 111, 116, 101], [.ok, .data, .num]), ([114, 101, 97, 100], [.ok, .num]), ([115, 105, 103, 110, 97, 108], [.num]), ([101, 110, 100], []), ([104, 105, 115, 116, 111, 114, 121], [])]
/-- The closures of the seven forms, and what they stand over. -/
def AllAt (w : World) (X : List (Nat × Nat)) : Prop := X.length = 7 ∧ ∀ (i : Nat) x nk, X[i]? = some x → FL[i]? = some nk → FormAt w x nk.1 nk.2
theorem AllAt.stays {w w' : World} {G : List Nat} {X : List (Nat × Nat)} (h : AllAt w X) (hs : Stp [] w G w') : AllAt w' X := ⟨h.1, fun i x nk h1 h2 => (h.2 i x nk h1 h2).stays hs⟩
def closures (X : List (Nat × Nat)) : List Value := X.flatMap fun x => [wF x.1 x.2, rF x.1 x.2]
theorem all_end {w W : World} {g0 : Nat} {x0 x1 x2 x3 x4 x5 x6 : Nat × Nat} (hg : w.heap.size ≤ g0) (q : Stp [] w [] W) (hb : W.heap[g0]? = some (.cells #[.nilFunc, .nilFunc, .nilFunc, .nilFunc, .nilFunc, .nilFunc, .nilFunc, .nilFunc, .nilFunc, .nilFunc, .nilFunc, .nilFunc, .nilFunc, .nilFunc] 52 (0, 0))) (q0 : FormAt W x0 [103, 111, 116] [.ok, .attrs]) (q1 : FormAt W x1 [119, 97, 115] [.ok, .attrs]) (q2 : FormAt W x2 [119, 114, 111, 116, 101] [.ok, .data, .num]) (q3 : FormAt W x3 [114, 101, 97, 100] [.ok, .num]) (q4 : FormAt W x4 [115, 105, 103, 110, 97, 108] [.num]) (q5 : FormAt W x5 [101, 110, 100] []) (q6 : FormAt W x6 [104, 105, 115, 116, 111, 114, 121] []) :
    (W.setCells g0 0 [wF x0.1 x0.2, rF x0.1 x0.2, wF x1.1 x1.2, rF x1.1 x1.2, wF x2.1 x2.2, rF x2.1 x2.2, wF x3.1 x3.2, rF x3.1 x3.2, wF x4.1 x4.2, rF x4.1 x4.2, wF x5.1 x5.2, rF x5.1 x5.2, wF x6.1 x6.2, rF x6.1 x6.2]).heap[g0]? = some (.cells #[wF x0.1 x0.2, rF x0.1 x0.2, wF x1.1 x1.2, rF x1.1 x1.2, wF x2.1 x2.2, rF x2.1 x2.2, wF x3.1 x3.2, rF x3.1 x3.2, wF x4.1 x4.2, rF x4.1 x4.2, wF x5.1 x5.2, rF x5.1 x5.2, wF x6.1 x6.2, rF x6.1 x6.2] 52 (0, 0)) ∧ AllAt (W.setCells g0 0 [wF x0.1 x0.2, rF x0.1 x0.2, wF x1.1 x1.2, rF x1.1 x1.2, wF x2.1 x2.2, rF x2.1 x2.2, wF x3.1 x3.2, rF x3.1 x3.2, wF x4.1 x4.2, rF x4.1 x4.2, wF x5.1 x5.2, rF x5.1 x5.2, wF x6.1 x6.2, rF x6.1 x6.2]) [x0, x1, x2, x3, x4, x5, x6] ∧ Stp [] w [] (W.setCells g0 0 [wF x0.1 x0.2, rF x0.1 x0.2, wF x1.1 x1.2, rF x1.1 x1.2, wF x2.1 x2.2, rF x2.1 x2.2, wF x3.1 x3.2, rF x3.1 x3.2, wF x4.1 x4.2, rF x4.1 x4.2, wF x5.1 x5.2, rF x5.1 x5.2, wF x6.1 x6.2, rF x6.1 x6.2]) := by
  generalize hV : [wF x0.1 x0.2, rF x0.1 x0.2, wF x1.1 x1.2, rF x1.1 x1.2, wF x2.1 x2.2, rF x2.1 x2.2, wF x3.1 x3.2, rF x3.1 x3.2, wF x4.1 x4.2, rF x4.1 x4.2, wF x5.1 x5.2, rF x5.1 x5.2, wF x6.1 x6.2, rF x6.1 x6.2] = V
  have hl : V.length = 14 := by rw [← hV]; rfl
  have h1 := all_set hb (V := V) (by rw [hl]; rfl)
  refine ⟨by rw [h1, ← hV], ⟨rfl, fun i x nk e1 e2 => ?_⟩, (q.fresh (setCells_other g0 _ _ _) (by simp; exact hg)).none⟩
  match i, e1, e2 with
  | 0, e1, e2 => cases e1; cases e2; exact FormAt.set (n := 14) hb q0 _
  | 1, e1, e2 => cases e1; cases e2; exact FormAt.set (n := 14) hb q1 _
  | 2, e1, e2 => cases e1; cases e2; exact FormAt.set (n := 14) hb q2 _
  | 3, e1, e2 => cases e1; cases e2; exact FormAt.set (n := 14) hb q3 _
  | 4, e1, e2 => cases e1; cases e2; exact FormAt.set (n := 14) hb q4 _
  | 5, e1, e2 => cases e1; cases e2; exact FormAt.set (n := 14) hb q5 _
  | 6, e1, e2 => cases e1; cases e2; exact FormAt.set (n := 14) hb q6 _
  | i + 7, e1, e2 => simp at e1
set_option maxRecDepth 100000 in
set_option maxHeartbeats 800000 in
theorem all_run (w : World) : Calls Tryz.prog 16 #[] w fun e w' => ∃ X, e = .returned (.agg (closures X).toArray) ∧ AllAt w' X ∧ Stp [] w [] w' := by
  have KO : Hid (∀ W, Calls Tryz.prog 28 #[] W fun e w' => e = .returned (.agg #[.func (.func 45) #[] #[], .func (.func 46) #[] #[]]) ∧ Stp [] W [] w') := Lib.hid fun W => okf_run W
  have KA : Hid (∀ W, Calls Tryz.prog 29 #[] W fun e w' => e = .returned (.agg #[.func (.func 47) #[] #[], .func (.func 49) #[] #[]]) ∧ Stp [] W [] w') := Lib.hid fun W => atf_run W
  have KD : Hid (∀ W, Calls Tryz.prog 30 #[] W fun e w' => e = .returned (.agg #[.func (.func 51) #[] #[], .func (.func 53) #[] #[]]) ∧ Stp [] W [] w') := Lib.hid fun W => daf_run W
  have KN : Hid (∀ W, Calls Tryz.prog 31 #[] W fun e w' => e = .returned (.agg #[.func (.func 55) #[] #[], .func (.func 57) #[] #[]]) ∧ Stp [] W [] w') := Lib.hid fun W => nuf_run W
  have F0 : Hid (∀ W, Calls Tryz.prog 27 #[.string ⟨#[103, 111, 116]⟩, .slice (some ⟨W.heap.size, 0, none⟩) 2 2] (W.alloc (.cells #[.func (.func 45) #[] #[], .func (.func 46) #[] #[], .func (.func 47) #[] #[], .func (.func 49) #[] #[]] 76)) fun e w' => ∃ x : Nat × Nat, e = .returned (.agg #[wF x.1 x.2, rF x.1 x.2]) ∧ FormAt w' x [103, 111, 116] [.ok, .attrs] ∧ Stp [] W [] w') := Lib.hid fun W => form_at W [103, 111, 116] [.ok, .attrs]
  have F1 : Hid (∀ W, Calls Tryz.prog 27 #[.string ⟨#[119, 97, 115]⟩, .slice (some ⟨W.heap.size, 0, none⟩) 2 2] (W.alloc (.cells #[.func (.func 45) #[] #[], .func (.func 46) #[] #[], .func (.func 47) #[] #[], .func (.func 49) #[] #[]] 76)) fun e w' => ∃ x : Nat × Nat, e = .returned (.agg #[wF x.1 x.2, rF x.1 x.2]) ∧ FormAt w' x [119, 97, 115] [.ok, .attrs] ∧ Stp [] W [] w') := Lib.hid fun W => form_at W [119, 97, 115] [.ok, .attrs]
  have F2 : Hid (∀ W, Calls Tryz.prog 27 #[.string ⟨#[119, 114, 111, 116, 101]⟩, .slice (some ⟨W.heap.size, 0, none⟩) 3 3] (W.alloc (.cells #[.func (.func 45) #[] #[], .func (.func 46) #[] #[], .func (.func 51) #[] #[], .func (.func 53) #[] #[], .func (.func 55) #[] #[], .func (.func 57) #[] #[]] 76)) fun e w' => ∃ x : Nat × Nat, e = .returned (.agg #[wF x.1 x.2, rF x.1 x.2]) ∧ FormAt w' x [119, 114, 111, 116, 101] [.ok, .data, .num] ∧ Stp [] W [] w') := Lib.hid fun W => form_at W [119, 114, 111, 116, 101] [.ok, .data, .num]
  have F3 : Hid (∀ W, Calls Tryz.prog 27 #[.string ⟨#[114, 101, 97, 100]⟩, .slice (some ⟨W.heap.size, 0, none⟩) 2 2] (W.alloc (.cells #[.func (.func 45) #[] #[], .func (.func 46) #[] #[], .func (.func 55) #[] #[], .func (.func 57) #[] #[]] 76)) fun e w' => ∃ x : Nat × Nat, e = .returned (.agg #[wF x.1 x.2, rF x.1 x.2]) ∧ FormAt w' x [114, 101, 97, 100] [.ok, .num] ∧ Stp [] W [] w') := Lib.hid fun W => form_at W [114, 101, 97, 100] [.ok, .num]
  have F4 : Hid (∀ W, Calls Tryz.prog 27 #[.string ⟨#[115, 105, 103, 110, 97, 108]⟩, .slice (some ⟨W.heap.size, 0, none⟩) 1 1] (W.alloc (.cells #[.func (.func 55) #[] #[], .func (.func 57) #[] #[]] 76)) fun e w' => ∃ x : Nat × Nat, e = .returned (.agg #[wF x.1 x.2, rF x.1 x.2]) ∧ FormAt w' x [115, 105, 103, 110, 97, 108] [.num] ∧ Stp [] W [] w') := Lib.hid fun W => form_at W [115, 105, 103, 110, 97, 108] [.num]
  have F5 : Hid (∀ W, Calls Tryz.prog 27 #[.string ⟨#[101, 110, 100]⟩, .slice none 0 0] W fun e w' => ∃ x : Nat × Nat, e = .returned (.agg #[wF x.1 x.2, rF x.1 x.2]) ∧ FormAt w' x [101, 110, 100] [] ∧ Stp [] W [] w') := Lib.hid fun W => form_at0 W [101, 110, 100]
  have F6 : Hid (∀ W, Calls Tryz.prog 27 #[.string ⟨#[104, 105, 115, 116, 111, 114, 121]⟩, .slice none 0 0] W fun e w' => ∃ x : Nat × Nat, e = .returned (.agg #[wF x.1 x.2, rF x.1 x.2]) ∧ FormAt w' x [104, 105, 115, 116, 111, 114, 121] [] ∧ Stp [] W [] w') := Lib.hid fun W => form_at0 W [104, 105, 115, 116, 111, 114, 121]
  go_enter Tryz.func16, Tryz.ntmps16
  have HW : Aside (Stp [] w [] (w.alloc (.cells #[.nilFunc, .nilFunc, .nilFunc, .nilFunc, .nilFunc, .nilFunc, .nilFunc, .nilFunc, .nilFunc, .nilFunc, .nilFunc, .nilFunc, .nilFunc, .nilFunc] 52)) ∧ (w.alloc (.cells #[.nilFunc, .nilFunc, .nilFunc, .nilFunc, .nilFunc, .nilFunc, .nilFunc, .nilFunc, .nilFunc, .nilFunc, .nilFunc, .nilFunc, .nilFunc, .nilFunc] 52)).heap[w.heap.size]? = some (.cells #[.nilFunc, .nilFunc, .nilFunc, .nilFunc, .nilFunc, .nilFunc, .nilFunc, .nilFunc, .nilFunc, .nilFunc, .nilFunc, .nilFunc, .nilFunc, .nilFunc] 52 (0, 0))) := ⟨Stp.alloc _ _ _, heap_alloc_new _ _⟩
  go_wp2_with fail
  refine (KO.out _).mono ?_
  rintro _ w1 ⟨rfl, s1⟩
  go_wp2_with fail
  refine (KA.out _).mono ?_
  rintro _ w2 ⟨rfl, s2⟩
  go_wp2_with fail
  refine (F0.out _).mono ?_
  rintro _ w3 ⟨x0, rfl, f0, s3⟩
  have H0 : Aside (Stp [] w [] w3 ∧ w3.heap[w.heap.size]? = some (.cells #[.nilFunc, .nilFunc, .nilFunc, .nilFunc, .nilFunc, .nilFunc, .nilFunc, .nilFunc, .nilFunc, .nilFunc, .nilFunc, .nilFunc, .nilFunc, .nilFunc] 52 (0, 0)) ∧ FormAt w3 x0 [103, 111, 116] [.ok, .attrs]) := by
    have S := ((s1).trans s2).trans s3
    exact ⟨HW.out.1.trans S, (S.block _ (Array.getElem?_eq_some_iff.1 HW.out.2).1 (by simp)).trans HW.out.2, f0⟩
  clear s1 s2 s3 HW f0
  go_wp2_with fail
  refine (KO.out _).mono ?_
  rintro _ w4 ⟨rfl, s4⟩
  go_wp2_with fail
  refine (KA.out _).mono ?_
  rintro _ w5 ⟨rfl, s5⟩
  go_wp2_with fail
  refine (F1.out _).mono ?_
  rintro _ w6 ⟨x1, rfl, f1, s6⟩
  have H1 : Aside (Stp [] w [] w6 ∧ w6.heap[w.heap.size]? = some (.cells #[.nilFunc, .nilFunc, .nilFunc, .nilFunc, .nilFunc, .nilFunc, .nilFunc, .nilFunc, .nilFunc, .nilFunc, .nilFunc, .nilFunc, .nilFunc, .nilFunc] 52 (0, 0)) ∧ FormAt w6 x0 [103, 111, 116] [.ok, .attrs] ∧ FormAt w6 x1 [119, 97, 115] [.ok, .attrs]) := by
    have S := ((s4).trans s5).trans s6
    exact ⟨H0.out.1.trans S, (S.block _ (Array.getElem?_eq_some_iff.1 H0.out.2.1).1 (by simp)).trans H0.out.2.1, (H0.out.2.2).stays S, f1⟩
  clear s4 s5 s6 H0 f1
  go_wp2_with fail
  refine (KO.out _).mono ?_
  rintro _ w7 ⟨rfl, s7⟩
  go_wp2_with fail
  refine (KD.out _).mono ?_
  rintro _ w8 ⟨rfl, s8⟩
  go_wp2_with fail
  refine (KN.out _).mono ?_
  rintro _ w9 ⟨rfl, s9⟩
  go_wp2_with fail
  refine (F2.out _).mono ?_
  rintro _ w10 ⟨x2, rfl, f2, s10⟩
  have H2 : Aside (Stp [] w [] w10 ∧ w10.heap[w.heap.size]? = some (.cells #[.nilFunc, .nilFunc, .nilFunc, .nilFunc, .nilFunc, .nilFunc, .nilFunc, .nilFunc, .nilFunc, .nilFunc, .nilFunc, .nilFunc, .nilFunc, .nilFunc] 52 (0, 0)) ∧ FormAt w10 x0 [103, 111, 116] [.ok, .attrs] ∧ FormAt w10 x1 [119, 97, 115] [.ok, .attrs] ∧ FormAt w10 x2 [119, 114, 111, 116, 101] [.ok, .data, .num]) := by
    have S := (((s7).trans s8).trans s9).trans s10
    exact ⟨H1.out.1.trans S, (S.block _ (Array.getElem?_eq_some_iff.1 H1.out.2.1).1 (by simp)).trans H1.out.2.1, (H1.out.2.2.1).stays S, (H1.out.2.2.2).stays S, f2⟩
  clear s7 s8 s9 s10 H1 f2
  go_wp2_with fail
  refine (KO.out _).mono ?_
  rintro _ w11 ⟨rfl, s11⟩
  go_wp2_with fail
  refine (KN.out _).mono ?_
  rintro _ w12 ⟨rfl, s12⟩
  go_wp2_with fail
  refine (F3.out _).mono ?_
  rintro _ w13 ⟨x3, rfl, f3, s13⟩
  have H3 : Aside (Stp [] w [] w13 ∧ w13.heap[w.heap.size]? = some (.cells #[.nilFunc, .nilFunc, .nilFunc, .nilFunc, .nilFunc, .nilFunc, .nilFunc, .nilFunc, .nilFunc, .nilFunc, .nilFunc, .nilFunc, .nilFunc, .nilFunc] 52 (0, 0)) ∧ FormAt w13 x0 [103, 111, 116] [.ok, .attrs] ∧ FormAt w13 x1 [119, 97, 115] [.ok, .attrs] ∧ FormAt w13 x2 [119, 114, 111, 116, 101] [.ok, .data, .num] ∧ FormAt w13 x3 [114, 101, 97, 100] [.ok, .num]) := by
    have S := ((s11).trans s12).trans s13
    exact ⟨H2.out.1.trans S, (S.block _ (Array.getElem?_eq_some_iff.1 H2.out.2.1).1 (by simp)).trans H2.out.2.1, (H2.out.2.2.1).stays S, (H2.out.2.2.2.1).stays S, (H2.out.2.2.2.2).stays S, f3⟩
  clear s11 s12 s13 H2 f3
  go_wp2_with fail
  refine (KN.out _).mono ?_
  rintro _ w14 ⟨rfl, s14⟩
  go_wp2_with fail
  refine (F4.out _).mono ?_
  rintro _ w15 ⟨x4, rfl, f4, s15⟩
  have H4 : Aside (Stp [] w [] w15 ∧ w15.heap[w.heap.size]? = some (.cells #[.nilFunc, .nilFunc, .nilFunc, .nilFunc, .nilFunc, .nilFunc, .nilFunc, .nilFunc, .nilFunc, .nilFunc, .nilFunc, .nilFunc, .nilFunc, .nilFunc] 52 (0, 0)) ∧ FormAt w15 x0 [103, 111, 116] [.ok, .attrs] ∧ FormAt w15 x1 [119, 97, 115] [.ok, .attrs] ∧ FormAt w15 x2 [119, 114, 111, 116, 101] [.ok, .data, .num] ∧ FormAt w15 x3 [114, 101, 97, 100] [.ok, .num] ∧ FormAt w15 x4 [115, 105, 103, 110, 97, 108] [.num]) := by
    have S := (s14).trans s15
    exact ⟨H3.out.1.trans S, (S.block _ (Array.getElem?_eq_some_iff.1 H3.out.2.1).1 (by simp)).trans H3.out.2.1, (H3.out.2.2.1).stays S, (H3.out.2.2.2.1).stays S, (H3.out.2.2.2.2.1).stays S, (H3.out.2.2.2.2.2).stays S, f4⟩
  clear s14 s15 H3 f4
  go_wp2_with fail
  refine (F5.out _).mono ?_
  rintro _ w16 ⟨x5, rfl, f5, s16⟩
  have H5 : Aside (Stp [] w [] w16 ∧ w16.heap[w.heap.size]? = some (.cells #[.nilFunc, .nilFunc, .nilFunc, .nilFunc, .nilFunc, .nilFunc, .nilFunc, .nilFunc, .nilFunc, .nilFunc, .nilFunc, .nilFunc, .nilFunc, .nilFunc] 52 (0, 0)) ∧ FormAt w16 x0 [103, 111, 116] [.ok, .attrs] ∧ FormAt w16 x1 [119, 97, 115] [.ok, .attrs] ∧ FormAt w16 x2 [119, 114, 111, 116, 101] [.ok, .data, .num] ∧ FormAt w16 x3 [114, 101, 97, 100] [.ok, .num] ∧ FormAt w16 x4 [115, 105, 103, 110, 97, 108] [.num] ∧ FormAt w16 x5 [101, 110, 100] []) := by
    have S := s16
    exact ⟨H4.out.1.trans S, (S.block _ (Array.getElem?_eq_some_iff.1 H4.out.2.1).1 (by simp)).trans H4.out.2.1, (H4.out.2.2.1).stays S, (H4.out.2.2.2.1).stays S, (H4.out.2.2.2.2.1).stays S, (H4.out.2.2.2.2.2.1).stays S, (H4.out.2.2.2.2.2.2).stays S, f5⟩
  clear s16 H4 f5
  go_wp2_with fail
  refine (F6.out _).mono ?_
  rintro _ w17 ⟨x6, rfl, f6, s17⟩
  have H6 : Aside (Stp [] w [] w17 ∧ w17.heap[w.heap.size]? = some (.cells #[.nilFunc, .nilFunc, .nilFunc, .nilFunc, .nilFunc, .nilFunc, .nilFunc, .nilFunc, .nilFunc, .nilFunc, .nilFunc, .nilFunc, .nilFunc, .nilFunc] 52 (0, 0)) ∧ FormAt w17 x0 [103, 111, 116] [.ok, .attrs] ∧ FormAt w17 x1 [119, 97, 115] [.ok, .attrs] ∧ FormAt w17 x2 [119, 114, 111, 116, 101] [.ok, .data, .num] ∧ FormAt w17 x3 [114, 101, 97, 100] [.ok, .num] ∧ FormAt w17 x4 [115, 105, 103, 110, 97, 108] [.num] ∧ FormAt w17 x5 [101, 110, 100] [] ∧ FormAt w17 x6 [104, 105, 115, 116, 111, 114, 121] []) := by
    have S := s17
    exact ⟨H5.out.1.trans S, (S.block _ (Array.getElem?_eq_some_iff.1 H5.out.2.1).1 (by simp)).trans H5.out.2.1, (H5.out.2.2.1).stays S, (H5.out.2.2.2.1).stays S, (H5.out.2.2.2.2.1).stays S, (H5.out.2.2.2.2.2.1).stays S, (H5.out.2.2.2.2.2.2.1).stays S, (H5.out.2.2.2.2.2.2.2).stays S, f6⟩
  clear s17 H5 f6
  generalize hg0 : w.heap.size = g0 at *
  have b0 := H6.out.2.1
  clear KO KA KD KN F0 F1 F2 F3 F4 F5 F6
  go_wp2
  have hch := chain_ok g0 _ [rF x0.1 x0.2, wF x1.1 x1.2, rF x1.1 x1.2, wF x2.1 x2.2, rF x2.1 x2.2, wF x3.1 x3.2, rF x3.1 x3.2, wF x4.1 x4.2, rF x4.1 x4.2, wF x5.1 x5.2, rF x5.1 x5.2, wF x6.1 x6.2, rF x6.1 x6.2] 0 (wF x0.1 x0.2) _ _ b0 (by simp) (by simp [wF, rF, Value.oneCell'])
  simp only [chain, Nat.reduceAdd] at hch
  rw [hch, Result.andThen_ok]
  clear hch
  have HZ : Aside ((w17.setCells g0 0 [wF x0.1 x0.2, rF x0.1 x0.2, wF x1.1 x1.2, rF x1.1 x1.2, wF x2.1 x2.2, rF x2.1 x2.2, wF x3.1 x3.2, rF x3.1 x3.2, wF x4.1 x4.2, rF x4.1 x4.2, wF x5.1 x5.2, rF x5.1 x5.2, wF x6.1 x6.2, rF x6.1 x6.2]).heap[g0]? = some (.cells #[wF x0.1 x0.2, rF x0.1 x0.2, wF x1.1 x1.2, rF x1.1 x1.2, wF x2.1 x2.2, rF x2.1 x2.2, wF x3.1 x3.2, rF x3.1 x3.2, wF x4.1 x4.2, rF x4.1 x4.2, wF x5.1 x5.2, rF x5.1 x5.2, wF x6.1 x6.2, rF x6.1 x6.2] 52 (0, 0)) ∧ AllAt (w17.setCells g0 0 [wF x0.1 x0.2, rF x0.1 x0.2, wF x1.1 x1.2, rF x1.1 x1.2, wF x2.1 x2.2, rF x2.1 x2.2, wF x3.1 x3.2, rF x3.1 x3.2, wF x4.1 x4.2, rF x4.1 x4.2, wF x5.1 x5.2, rF x5.1 x5.2, wF x6.1 x6.2, rF x6.1 x6.2]) [x0, x1, x2, x3, x4, x5, x6] ∧ Stp [] w [] (w17.setCells g0 0 [wF x0.1 x0.2, rF x0.1 x0.2, wF x1.1 x1.2, rF x1.1 x1.2, wF x2.1 x2.2, rF x2.1 x2.2, wF x3.1 x3.2, rF x3.1 x3.2, wF x4.1 x4.2, rF x4.1 x4.2, wF x5.1 x5.2, rF x5.1 x5.2, wF x6.1 x6.2, rF x6.1 x6.2])) := by
    obtain ⟨q, hbb, q0, q1, q2, q3, q4, q5, q6⟩ := H6.out
    exact all_end (hg0 ▸ Nat.le_refl _) q hbb q0 q1 q2 q3 q4 q5 q6
  generalize w17.setCells g0 0 [wF x0.1 x0.2, rF x0.1 x0.2, wF x1.1 x1.2, rF x1.1 x1.2, wF x2.1 x2.2, rF x2.1 x2.2, wF x3.1 x3.2, rF x3.1 x3.2, wF x4.1 x4.2, rF x4.1 x4.2, wF x5.1 x5.2, rF x5.1 x5.2, wF x6.1 x6.2, rF x6.1 x6.2] = wz at *
  clear H6 b0
  go_wp2
  refine bodyPost_ret (results_cell_row rfl _ _ g0 _ _ _ _ rfl HZ.out.1 Tryz.underlying52 rfl forms_info) rfl ?_
  exact ⟨[x0, x1, x2, x3, x4, x5, x6], rfl, HZ.out.2.1, HZ.out.2.2⟩
end Go.Proofs.YthfiilhbgogoaaaGreatDoor
