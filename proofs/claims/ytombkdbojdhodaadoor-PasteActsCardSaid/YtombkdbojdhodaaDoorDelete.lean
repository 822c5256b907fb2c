/-
  Bytes taken away: lacks and Delete; and Clean, Zero, Copy.
-/
import Derived.Test.YtombkdbojdhodaaDoorInsert
namespace Go.Proofs.YtombkdbojdhodaaDoor
open Go.RowKit Go.Lib
set_option linter.unusedVariables false

theorem lacks_nil (i j : Int) (W : World) : Calls Tryd.prog 84 #[.pointer none, .int .i64 i, .int .i64 j] W (Gives (.int .i64 1) W) := by
  go_enter Tryd.func84, Tryd.ntmps84
  go_wp2
  go_ret
  exact ⟨rfl, rfl⟩
section
variable {W : World} {b g N u : Nat} {C : List UInt8}
theorem lacks_no (h : Cl W b g N u C) (i j : Int) (hi : i < 0 ∨ j < i ∨ (u : Int) < j) : Calls Tryd.prog 84 #[.pointer (some ⟨b, 0, none⟩), .int .i64 i, .int .i64 j] W (Gives (.int .i64 3) W) := by
  have c1 := h.c1
  clear h
  by_cases h0 : i < 0
  · clear hi
    go_enter Tryd.func84, Tryd.ntmps84
    go_wp2
    go_ret
    exact ⟨rfl, rfl⟩
  · by_cases h1 : j < i
    · clear hi
      go_enter Tryd.func84, Tryd.ntmps84
      go_wp2
      go_ret
      exact ⟨rfl, rfl⟩
    · have h2 : (u : Int) < j := by omega
      clear hi
      go_enter Tryd.func84, Tryd.ntmps84
      go_wp2
      go_ret
      exact ⟨rfl, rfl⟩
theorem lacks_run (h : Cl W b g N u C) (i j : Nat) (hi : i ≤ j) (hj : j ≤ u) : Calls Tryd.prog 84 #[.pointer (some ⟨b, 0, none⟩), .int .i64 (i : Int), .int .i64 (j : Int)] W (Gives (.int .i64 0) W) := by
  have c1 := h.c1
  clear h
  have h0 : ¬ (i : Int) < 0 := by omega
  have h1 : ¬ (j : Int) < (i : Int) := by omega
  have h2 : ¬ (u : Int) < (j : Int) := by omega
  go_enter Tryd.func84, Tryd.ntmps84
  go_wp2
  go_ret
  exact ⟨rfl, rfl⟩
theorem delete_nil (i j : Int) (W : World) : Calls Tryd.prog 81 #[.pointer none, .int .i64 i, .int .i64 j] W (Gives (.int .i64 1) W) := by
  have K := Lib.hid (lacks_nil i j W)
  go_enter Tryd.func81, Tryd.ntmps81
  go_wp2_with fail
  refine K.out.mono ?_
  rintro _ _ ⟨rfl, rfl⟩
  go_wp2
  go_ret
  exact ⟨rfl, rfl⟩
theorem delete_no (h : Cl W b g N u C) (i j : Int) (hi : i < 0 ∨ j < i ∨ (u : Int) < j) : Calls Tryd.prog 81 #[.pointer (some ⟨b, 0, none⟩), .int .i64 i, .int .i64 j] W (Gives (.int .i64 3) W) := by
  have K := Lib.hid (lacks_no h i j hi)
  clear h hi
  go_enter Tryd.func81, Tryd.ntmps81
  go_wp2_with fail
  refine K.out.mono ?_
  rintro _ _ ⟨rfl, rfl⟩
  go_wp2
  go_ret
  exact ⟨rfl, rfl⟩
set_option maxHeartbeats 1000000 in
set_option maxRecDepth 100000 in
theorem delete_cl (h : Cl W b g N u C) (i j r : Nat) (hi : i ≤ j) (hj : j ≤ u) (hr : r = i + (u - j)) :
    Calls Tryd.prog 81 #[.pointer (some ⟨b, 0, none⟩), .int .i64 (i : Int), .int .i64 (j : Int)] W
      fun e w' => e = .returned (.int .i64 0) ∧ Cl w' b g N r (lay (lay C i ((C.drop j).take (u - j))) r (List.replicate (u - r) 0)) ∧ Stp [b, g] W [b, g] w' := by
  have K := Lib.hid (lacks_run h i j hi hj)
  have c0 := h.c0
  have c1 := h.c1
  have hu := h.use
  have ht := h.top
  have H := Lib.hid (And.intro h hr)
  have hr1 : r ≤ u := by omega
  have i5 : IntKind.i64.wrap ((i : Int) + ((u - j : Nat) : Int)) = (r : Int) := by rw [IntKind.wrap_i64]; omega
  clear h hr
  obtain ⟨m, hm⟩ : ∃ m, m = u - j := ⟨_, rfl⟩
  have s1 := cut_l (some ⟨g, 0, none⟩) N N i (by omega)
  have s2 := cut_lh (some ⟨g, 0, none⟩) N N j u hj hu
  have s3 := cut_lh (some ⟨g, 0, none⟩) N N r u (by omega) hu
  rw [← hm] at s2 i5
  have HM := Lib.hid hm
  clear hm
  go_enter Tryd.func81, Tryd.ntmps81
  go_wp2_with fail
  refine K.out.mono ?_
  rintro _ W ⟨rfl, rfl⟩
  clear K
  go_wp2_with fail
  have H2 : Aside (Cl W.drew b g N u C ∧ Stp [] W [] W.drew) := ⟨H.out.1.other (Stp.drew [] W) (fun h => by cases h) (fun h => by cases h), Stp.drew [] W⟩
  obtain ⟨w3, hr3, hB3, hs3⟩ := copy_any (w := W.drew) (dL := N - i) (dC := N - i) (sL := m) (sC := N - j) (off := i) (dp := cutp (some ⟨g, 0, none⟩) i N) (sp := cutp (some ⟨g, 0, none⟩) j N) (l := (C.drop j).take (u - j)) 3 H2.out.1.row (H2.out.1.row.bts.cut hj (by rw [H2.out.1.len]; exact hu) (by rw [H2.out.1.len]; omega))
    (by have := H2.out.1.len; have := HM.out; simp; omega) (fun hne => by rw [cutp_of]; simp; have := List.length_pos_iff.2 hne; have := H2.out.1.len; simp at *; omega) (by have := H2.out.1.len; simp; omega)
  have e3 : ((C.drop j).take (u - j)).length = m := by have := H2.out.1.len; have := HM.out; simp; omega
  rw [e3] at hr3
  have h3 : Cl w3 b g N u (lay C i ((C.drop j).take (u - j))) := H2.out.1.lay hs3 hB3 (by have := H2.out.1.len; rw [lay_length (by simp; omega), this])
  obtain ⟨D, hD⟩ : ∃ D, D = lay C i ((C.drop j).take (u - j)) := ⟨_, rfl⟩
  have H3 : Aside (Cl w3 b g N u D ∧ Stp [b, g] W [b, g] w3 ∧ D = lay C i ((C.drop j).take (u - j))) :=
    ⟨by rw [hD]; exact h3, (H2.out.2.more (fun k h => by cases h)).trans (hs3.more (fun k hk => by simp at hk; simp [hk])), hD⟩
  clear H2 hB3 hs3 h3 hD e3
  go_region
  clear c0 c1
  have c0 := H3.out.1.c0
  have c1 := H3.out.1.c1
  go_wp2_with fail
  go_still_tail 10, (by kernel_rfl)
  change wpList _ _ _ _ _ w3.drew
  have H4 : Aside (Cl w3.drew b g N u D ∧ Stp [b, g] W [b, g] w3.drew) := ⟨H3.out.1.other (Stp.drew [] w3) (fun h => by cases h) (fun h => by cases h), H3.out.2.1.trans (Stp.drew _ w3)⟩
  generalize w3.drew = w4 at *
  clear c0 c1
  obtain ⟨w5, hr5, hB5, hs5⟩ := clear_any (off := r) (c := N - r) 0 H4.out.1.row (n := u - r) (p := cutp (some ⟨g, 0, none⟩) r N) (fun h0 => by rw [cutp_of (by omega), Nat.zero_add]) (by rw [H4.out.1.len]; omega)
  have h5 : Cl w5 b g N u (lay D r (List.replicate (u - r) 0)) := H4.out.1.lay hs5 hB5 (by have := H4.out.1.len; rw [lay_length (by simp; omega), this])
  have c1 := h5.c1
  have f1 := h5.f1
  have H5 : Aside (Cl w5 b g N u (lay D r (List.replicate (u - r) 0)) ∧ Stp [b, g] W [b, g] w5) := ⟨h5, H4.out.2.trans (hs5.more (fun k hk => by simp at hk; simp [hk]))⟩
  clear H4 hB5 hs5 h5
  go_wp2
  go_ret
  obtain ⟨h5, s5⟩ := H5.out
  rw [H3.out.2.2] at h5
  exact ⟨rfl, h5.turn (by omega), s5.trans (Stp.setCell _ _ (by simp))⟩
end
theorem delete_list {N i j : Nat} {l : List UInt8} (hi : i ≤ j) (hj : j ≤ l.length) (hn : l.length ≤ N) :
    lay (lay (pad N l) i (((pad N l).drop j).take (l.length - j))) (i + (l.length - j)) (List.replicate (l.length - (i + (l.length - j))) 0) = pad N (l.take i ++ l.drop j) := by
  have hp : (pad N l).length = N := pad_length hn
  rw [pad_cut hj]
  have e1 : lay (pad N l) i (l.drop j) = l.take i ++ (l.drop j ++ (pad N l).drop (i + (l.length - j))) := by
    unfold lay
    rw [List.length_drop]
    congr 1
    unfold pad
    rw [List.take_append_of_le_length (by omega)]
  rw [e1]
  have e2 : (pad N l).drop (i + (l.length - j)) = ((pad N l).drop (i + (l.length - j))).take (l.length - (i + (l.length - j))) ++ List.replicate (N - l.length) 0 := by
    conv => lhs; rw [← List.take_append_drop (l.length - (i + (l.length - j))) (List.drop (i + (l.length - j)) (pad N l))]
    congr 1
    rw [List.drop_drop, show i + (l.length - j) + (l.length - (i + (l.length - j))) = l.length by omega]
    simp [pad]
  rw [← List.append_assoc, lay_at (A := l.take i ++ l.drop j) (B := ((pad N l).drop (i + (l.length - j))).take (l.length - (i + (l.length - j)))) (D := List.replicate (N - l.length) 0) (by rw [← e2]) (by simp; omega) (by simp [hp]; omega)]
  unfold pad
  congr 1
  rw [List.replicate_append_replicate]
  congr 1
  simp
  omega
theorem delete_run {W : World} {b g N : Nat} {l : List UInt8} (h : Ar W b g N l) (i j : Nat) (hi : i ≤ j) (hj : j ≤ l.length) :
    Calls Tryd.prog 81 #[.pointer (some ⟨b, 0, none⟩), .int .i64 (i : Int), .int .i64 (j : Int)] W
      fun e w' => e = .returned (.int .i64 0) ∧ Ar w' b g N (l.take i ++ l.drop j) ∧ Stp [b, g] W [b, g] w' := by
  refine (delete_cl h i j _ hi hj rfl).mono ?_
  rintro e w' ⟨he, h1, hs⟩
  rw [delete_list hi hj h.le] at h1
  have e2 : (l.take i ++ l.drop j).length = i + (l.length - j) := by simp; omega
  refine ⟨he, ?_, hs⟩
  unfold Ar
  rw [e2]
  exact h1
end Go.Proofs.YtombkdbojdhodaaDoor
