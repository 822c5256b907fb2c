/-
  Bytes laid into an arena: Insert.
-/
import Derived.Test.YtcailmgincafcaaDoorArena
namespace Go.Proofs.YtcailmgincafcaaDoor
open Go.RowKit Go.Lib
set_option linter.unusedVariables false

theorem insert_nil (i : Int) (v : Value) (W : World) : Calls Tryd.prog 34 #[.pointer none, .int .i64 i, v] W (Gives (.int .i64 1) W) := by
  go_enter Tryd.func34, Tryd.ntmps34
  go_wp2
  go_ret
  exact ⟨rfl, rfl⟩
section
variable {W : World} {b g N u : Nat} {C : List UInt8}
theorem insert_out (h : Cl W b g N u C) (i : Int) (v : Value) (hi : i < 0 ∨ (u : Int) < i) : Calls Tryd.prog 34 #[.pointer (some ⟨b, 0, none⟩), .int .i64 i, v] W (Gives (.int .i64 3) W) := by
  have c1 := h.c1
  clear h
  by_cases h0 : i < 0
  · clear hi
    go_enter Tryd.func34, Tryd.ntmps34
    go_wp2
    go_ret
    exact ⟨rfl, rfl⟩
  · have h2 : (u : Int) < i := by omega
    clear hi
    go_enter Tryd.func34, Tryd.ntmps34
    go_wp2
    go_ret
    exact ⟨rfl, rfl⟩
/-- An answer, and nothing turned but for what was drawn. -/
def Says (v : Value) (w : World) (e : Ending) (w' : World) : Prop := e = .returned v ∧ ∃ q, w' = w.drewN q
theorem insert_full (h : Cl W b g N u C) (i : Nat) (p : Option Addr) (n c : Nat) (hi : i ≤ u) (hn : N < u + n) : Calls Tryd.prog 34 #[.pointer (some ⟨b, 0, none⟩), .int .i64 (i : Int), .slice p n c] W (Says (.int .i64 4) W) := by
  have c0 := h.c0
  have c1 := h.c1
  have i1 : ¬ (i : Int) < 0 := by omega
  have i2 : ¬ (u : Int) < (i : Int) := by omega
  have hu := h.use
  have ht := h.top
  have i3 : IntKind.i64.wrap ((N : Int) - (u : Int)) = (N : Int) - (u : Int) := by rw [IntKind.wrap_i64]; omega
  have i4 : (N : Int) - (u : Int) < (n : Int) := by omega
  clear h
  go_enter Tryd.func34, Tryd.ntmps34
  go_wp2_with fail
  go_quiet (fail)
  go_wp2
  go_ret
  exact ⟨rfl, _, rfl⟩
set_option maxHeartbeats 1000000 in
set_option maxRecDepth 100000 in
theorem insert_cl (h : Cl W b g N u C) (i : Nat) (p : Option Addr) (x : List UInt8) (n c : Nat) (hx : Bts W p x) (hd : x ≠ [] → ∀ ad, p = some ad → ad.block ≠ g) (hl : n = x.length) (hi : i ≤ u) (hn : u + n ≤ N) :
    Calls Tryd.prog 34 #[.pointer (some ⟨b, 0, none⟩), .int .i64 (i : Int), .slice p n c] W
      fun e w' => e = .returned (.int .i64 0) ∧ Cl w' b g N (u + n) (lay (lay C (i + n) ((C.drop i).take (u - i))) i x) ∧ Stp [b, g] W [b, g] w' := by
  have c0 := h.c0
  have c1 := h.c1
  have hu := h.use
  have ht := h.top
  have H := Lib.hid (And.intro h (And.intro hx (And.intro hd hl)))
  clear h hx hd hl
  have i1 : ¬ (i : Int) < 0 := by omega
  have i2 : ¬ (u : Int) < (i : Int) := by omega
  have i3 : IntKind.i64.wrap ((N : Int) - (u : Int)) = (N : Int) - (u : Int) := by rw [IntKind.wrap_i64]; omega
  have i4 : ¬ (N : Int) - (u : Int) < (n : Int) := by omega
  have i5 : IntKind.i64.wrap ((i : Int) + (n : Int)) = (i : Int) + (n : Int) := by rw [IntKind.wrap_i64]; omega
  have s1 := cut_l (some ⟨g, 0, none⟩) N N (i + n) (by omega)
  rw [Int.natCast_add] at s1
  have s2 := cut_lh (some ⟨g, 0, none⟩) N N i u hi hu
  have s3 := cut_l (some ⟨g, 0, none⟩) N N i (by omega)
  go_enter Tryd.func34, Tryd.ntmps34
  go_wp2_with fail
  go_quiet (fail)
  go_wp2_with fail
  have H1 : Aside (Cl (W.drewN nq) b g N u C ∧ Bts (W.drewN nq) p x ∧ Stp [] W [] (W.drewN nq)) := ⟨H.out.1.other (Stp.drewN [] W nq) (fun h => by cases h) (fun h => by cases h), H.out.2.1.stays (Stp.drewN [] W nq), Stp.drewN [] W nq⟩
  have c0 := H1.out.1.c0
  have c1 := H1.out.1.c1
  generalize W.drewN nq = W1 at *
  go_still_tail 19, (by kernel_rfl)
  change wpList _ _ _ _ _ W1.drew
  have H2 : Aside (Cl W1.drew b g N u C ∧ Bts W1.drew p x ∧ Stp [] W [] W1.drew) := ⟨H1.out.1.other (Stp.drew [] W1) (fun h => by cases h) (fun h => by cases h), H1.out.2.1.stays (Stp.drew [] W1), H1.out.2.2.trans (Stp.drew [] W1)⟩
  generalize W1.drew = W2 at *
  clear c0 c1 H1
  obtain ⟨w3, hr3, hB3, hs3⟩ := copy_any (dL := N - (i + n)) (dC := N - (i + n)) (sL := u - i) (sC := N - i) (off := i + n) (dp := cutp (some ⟨g, 0, none⟩) (i + n) N) (sp := cutp (some ⟨g, 0, none⟩) i N) (l := (C.drop i).take (u - i)) 3 H2.out.1.row (H2.out.1.row.bts.cut hi (by rw [H2.out.1.len]; exact hu) (by rw [H2.out.1.len]; omega))
    (by have := H2.out.1.len; simp; omega) (fun hne => by rw [cutp_of]; simp; have := List.length_pos_iff.2 hne; have := H2.out.1.len; simp at *; omega) (by have := H2.out.1.len; simp; omega)
  have h3 : Cl w3 b g N u (lay C (i + n) ((C.drop i).take (u - i))) := H2.out.1.lay hs3 hB3 (by have := H2.out.1.len; rw [lay_length (by simp; omega), this])
  have H3 : Aside (Cl w3 b g N u (lay C (i + n) ((C.drop i).take (u - i))) ∧ Bts w3 p x ∧ Stp [b, g] W [b, g] w3) :=
    ⟨h3, H2.out.2.1.other hs3 (fun hl ad e => by simpa using H.out.2.2.1 hl ad e), (H2.out.2.2.more (fun k h => by cases h)).trans (hs3.more (fun k hk => by simp at hk; simp [hk]))⟩
  have c0 := h3.c0
  obtain ⟨D, hD⟩ : ∃ D, D = lay C (i + n) ((C.drop i).take (u - i)) := ⟨_, rfl⟩
  rw [← hD] at H3
  obtain ⟨w4, hr4, hB4, hs4⟩ := copy_any (dL := N - i) (dC := N - i) (sL := n) (sC := c) (off := i) (dp := cutp (some ⟨g, 0, none⟩) i N) (sp := p) (l := x) 3 H3.out.1.row H3.out.2.1
    (by have := H.out.2.2.2; omega) (fun hne => by rw [cutp_of]; simp; have := List.length_pos_iff.2 hne; have := H.out.2.2.2; omega) (by have := H3.out.1.len; have := H.out.2.2.2; omega)
  have h4 : Cl w4 b g N u (lay D i x) := H3.out.1.lay hs4 hB4 (by have := H3.out.1.len; have hq := H.out.2.2.2; rw [lay_length (by omega), this])
  have c1 := h4.c1
  have f1 := h4.f1
  have H4 : Aside (Cl w4 b g N u (lay D i x) ∧ Stp [b, g] W [b, g] w4 ∧ D = lay C (i + n) ((C.drop i).take (u - i))) :=
    ⟨h4, H3.out.2.2.trans (hs4.more (fun k hk => by simp at hk; simp [hk])), hD⟩
  have i6 : IntKind.i64.wrap ((u : Int) + (n : Int)) = (u : Int) + (n : Int) := by rw [IntKind.wrap_i64]; omega
  clear H3 H2 h3 h4 hB3 hs3 hB4 hs4 hD
  go_wp2
  go_ret
  obtain ⟨h4, s4, rfl⟩ := H4.out
  have e : ((u : Int) + (n : Int)) = ((u + n : Nat) : Int) := by omega
  rw [e]
  exact ⟨rfl, h4.turn hn, s4.trans (Stp.setCell _ _ (by simp))⟩
end

/-! ### The bytes -/
theorem lay_mid {A B D l : List UInt8} (h : l.length = B.length) : lay (A ++ (B ++ D)) A.length l = A ++ (l ++ D) := by
  unfold lay
  rw [List.take_left, h, List.drop_append, List.drop_eq_nil_of_le (by omega)]
  simp
theorem lay_at {C A B D l : List UInt8} {i : Nat} (hC : C = A ++ (B ++ D)) (hi : i = A.length) (h : l.length = B.length) : lay C i l = A ++ (l ++ D) := by
  subst hC hi
  exact lay_mid h
theorem pad_split {N i : Nat} {l : List UInt8} : pad N l = l.take i ++ (l.drop i ++ List.replicate (N - l.length) 0) := by
  unfold pad
  rw [← List.append_assoc, List.take_append_drop]
theorem pad_cut {N i : Nat} {l : List UInt8} (hi : i ≤ l.length) : ((pad N l).drop i).take (l.length - i) = l.drop i := by
  rw [pad_split (i := i), List.drop_left' (by simp; omega), List.take_left' (by simp)]
theorem insert_list {N i : Nat} {l x : List UInt8} (hi : i ≤ l.length) (hn : l.length + x.length ≤ N) :
    lay (lay (pad N l) (i + x.length) (((pad N l).drop i).take (l.length - i))) i x = pad N (l.take i ++ x ++ l.drop i) := by
  have hp : (pad N l).length = N := pad_length (by omega)
  rw [pad_cut hi]
  have e1 : lay (pad N l) (i + x.length) (l.drop i) = (pad N l).take (i + x.length) ++ (l.drop i ++ List.replicate (N - l.length - x.length) 0) := by
    refine lay_at (B := ((pad N l).drop (i + x.length)).take (l.length - i)) ?_ (by rw [List.length_take, hp]; omega) (by simp [hp]; omega)
    conv => lhs; rw [← List.take_append_drop (i + x.length) (pad N l)]
    congr 1
    conv => lhs; rw [← List.take_append_drop (l.length - i) (List.drop (i + x.length) (pad N l))]
    congr 1
    rw [List.drop_drop, show i + x.length + (l.length - i) = l.length + x.length by omega]
    unfold pad
    rw [List.drop_append, List.drop_eq_nil_of_le (by omega), List.nil_append, List.drop_replicate]
    congr 1
    omega
  rw [e1]
  have e2 : (pad N l).take (i + x.length) = l.take i ++ ((pad N l).drop i).take x.length := by
    rw [List.take_add, pad_split (i := i), List.take_left' (by simp; omega)]
  rw [e2, List.append_assoc, lay_at (A := l.take i) (B := ((pad N l).drop i).take x.length) (D := l.drop i ++ List.replicate (N - l.length - x.length) 0) rfl (by simp; omega) (by simp [hp]; omega)]
  unfold pad
  simp only [List.append_assoc]
  congr 4
  simp
  omega
/-- What Insert does. -/
theorem insert_run {W : World} {b g N : Nat} {l : List UInt8} (h : Ar W b g N l) (i : Nat) (p : Option Addr) (x : List UInt8) (n c : Nat) (hx : Bts W p x) (hd : x ≠ [] → ∀ ad, p = some ad → ad.block ≠ g) (hl : n = x.length) (hi : i ≤ l.length) (hn : l.length + n ≤ N) :
    Calls Tryd.prog 34 #[.pointer (some ⟨b, 0, none⟩), .int .i64 (i : Int), .slice p n c] W
      fun e w' => e = .returned (.int .i64 0) ∧ Ar w' b g N (l.take i ++ x ++ l.drop i) ∧ Stp [b, g] W [b, g] w' := by
  refine (insert_cl h i p x n c hx hd hl hi hn).mono ?_
  rintro e w' ⟨he, h1, hs⟩
  subst hl
  rw [insert_list hi hn] at h1
  have e2 : (l.take i ++ x ++ l.drop i).length = l.length + x.length := by simp; omega
  refine ⟨he, ?_, hs⟩
  unfold Ar
  rw [e2]
  exact h1
end Go.Proofs.YtcailmgincafcaaDoor
