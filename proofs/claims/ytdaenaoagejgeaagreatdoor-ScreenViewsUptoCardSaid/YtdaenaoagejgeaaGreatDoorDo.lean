/-
  What characters and sequences do to a screen.
-/
import Derived.Test.YtdaenaoagejgeaaGreatDoorBack
import Derived.Test.YtdaenaoagejgeaaGreatDoorNx
import Derived.Test.YtdaenaoagejgeaaGreatDoorUNx
import Derived.Test.YtdaenaoagejgeaaGreatDoorUPut2
import Derived.Deep.RegionHeld3
namespace Go.Proofs.YtdaenaoagejgeaaGreatDoor
open Go.RowKit Go.Lib
set_option linter.unusedVariables false

section
variable {W W' : World} {s : Nat} {X : Sc} {bv : Value} {S : Sn}
set_option maxHeartbeats 1000000 in
set_option maxRecDepth 100000 in
theorem last_run (h : Sx W s X bv S) (hU : X.U.length ≤ 1000000) : Calls Tryz.prog 54 #[.pointer (some ⟨s, 0, none⟩)] W (Tells (.pointer (some ⟨X.R, (two X.U).length, none⟩)) W) := by
  obtain ⟨D, cap, hv, hr, hn, hm, hd⟩ := h.rw.at
  have c0 := h.c0
  rw [hv] at c0
  have hlt := h.lt
  rw [two_length]
  obtain ⟨M, hM⟩ : ∃ M, M = X.U.length := ⟨_, rfl⟩
  obtain ⟨N, hN⟩ : ∃ N, N = M + 1 := ⟨_, rfl⟩
  rw [← hM] at c0 hU ⊢
  rw [← hN] at c0
  have e1 : (N : Int) - 1 = (M : Int) := by omega
  have e2 : (M : Int) < (N : Int) := by omega
  have e3 : M < N := by omega
  have hz : (M : Int) ≤ 1000000 := by omega
  have hw : wrap64 (M : Int) = (M : Int) := by unfold wrap64; omega
  generalize X.R = R at *
  clear hM hN hv hr hn hd h
  go_enter Tryz.func54, Tryz.ntmps54
  go_wp2_with fail
  go_region
  go_wp2_with fail
  go_ret
  exact ⟨rfl, Stp.drew [] _⟩
theorem Sx.bd {T : Nat} (h : Sx W s X bv S) (hO : Oks S T) : X.l.k + X.l.cs.length ≤ T ∧ S.col ≤ T ∧ X.U.length ≤ T := by
  have h1 := hO.cur
  rw [h.cur] at h1
  unfold Ro.t at h1
  rw [txt_len] at h1
  have h2 := hO.rows
  rw [h.up, List.length_map] at h2
  exact ⟨h1, hO.col, h2⟩
/-- put, at a screen's last row. -/
theorem sput_run {T : Nat} (h : Sx W s X bv S) (hO : Oks S T) (hT : T ≤ 500000) (c : Nat) : Calls Tryz.prog 55 #[.pointer (some ⟨X.R, (two X.U).length, none⟩), .int .i64 (S.col : Int), .int .i32 (c : Int)] W
    fun e w' => e = .returned (.tuple #[]) ∧ w'.cell? ⟨s, 1, none⟩ = some (.int .i64 (S.col : Int)) ∧ ∃ X', Sx w' s X' bv { S with cur := laid S.cur S.col c } ∧ Stp (X.foot s) W (X'.foot s) w' ∧ S.col + 1 ≤ X'.l.k + X'.l.cs.length := by
  obtain ⟨D, cap, hv, hr, hn, hm, hd⟩ := h.rw.at
  obtain ⟨b1, b2, b3⟩ := h.bd hO
  refine (put_run hr S.col c (by omega) (by omega) (by omega) h.inv).mono ?_
  rintro e w' ⟨rfl, k', v', cs', hr', ⟨hq1, hq2⟩, hs, hb⟩
  have hx := h.upd hv hn hm hd hr' hs hb (fun _ => by omega)
  rw [hq1] at hx
  have e3 : txt X.l.k X.l.cs = S.cur := h.cur.symm
  rw [e3] at hx
  exact ⟨rfl, hx.1.c1, _, hx.1, hx.2, hq2⟩
/-- cut, at a screen's last row. -/
theorem scut_run {T : Nat} (h : Sx W s X bv S) (hO : Oks S T) (hT : T ≤ 500000) : Calls Tryz.prog 71 #[.pointer (some ⟨X.R, (two X.U).length, none⟩), .int .i64 (S.col : Int)] W
    fun e w' => e = .returned (.tuple #[]) ∧ w'.cell? ⟨s, 1, none⟩ = some (.int .i64 (S.col : Int)) ∧ ∃ X', Sx w' s X' bv { S with cur := S.cur.take S.col } ∧ Stp (X.foot s) W (X'.foot s) w' := by
  obtain ⟨D, cap, hv, hr, hn, hm, hd⟩ := h.rw.at
  obtain ⟨b1, b2, b3⟩ := h.bd hO
  refine (cut_run hr S.col (by omega) (by omega) (by omega)).mono ?_
  rintro e w' ⟨rfl, k', v', cs', hr', ⟨hq1, hq2⟩, hs, hb⟩
  have hi : cs' ≠ [] → S.col ≤ k' + cs'.length := fun hne => by
    have h1 : X.l.cs ≠ [] := fun e => hne (hq2 e)
    have h2 := h.inv h1
    have h3 := congrArg List.length hq1
    rw [txt_len, List.length_take, txt_len] at h3
    omega
  have hx := h.upd hv hn hm hd hr' hs hb hi
  rw [hq1] at hx
  have e3 : txt X.l.k X.l.cs = S.cur := h.cur.symm
  rw [e3] at hx
  exact ⟨rfl, hx.1.c1, _, hx.1, hx.2⟩
set_option maxHeartbeats 2000000 in
set_option maxRecDepth 100000 in
/-- A character that may be shown. -/
theorem chr_pr {T : Nat} (h : Sx W s X bv S) (hO : Oks S T) (hT : T ≤ 500000) (c : Nat) (hp : U.prB (c : Int) = true) : Calls Tryz.prog 39 #[.pointer (some ⟨s, 0, none⟩), .int .i64 (c : Int)] W
    (Did W s X bv (.bool true) { S with cur := laid S.cur S.col c, col := S.col + 1 }) := by
  obtain ⟨b1, b2, b3⟩ := h.bd hO
  have hc := (pr_ch hp).2
  have K1 := U.pr_any (c : Int) W
  rw [hp] at K1
  have K1 := Lib.hid K1
  have HC : Aside (∀ W', Stp [] W [] W' → W'.cell? ⟨s, 1, none⟩ = some (.int .i64 (S.col : Int))) := fun W' hs => (h.stays hs).c1
  have KL : ∀ W', Stp [] W [] W' → Calls Tryz.prog 54 #[.pointer (some ⟨s, 0, none⟩)] W' (fun e w' => e = .returned (.pointer (some ⟨X.R, (two X.U).length, none⟩)) ∧ Stp [] W [] w') := fun W' hs =>
    (last_run (h.stays hs) (by omega)).mono fun _ _ ⟨q1, q2⟩ => ⟨q1, hs.trans q2⟩
  have KP : ∀ W', Stp [] W [] W' → Calls Tryz.prog 55 #[.pointer (some ⟨X.R, (two X.U).length, none⟩), .int .i64 (S.col : Int), .int .i32 (c : Int)] W'
      (fun e w' => e = .returned (.tuple #[]) ∧ w'.cell? ⟨s, 1, none⟩ = some (.int .i64 (S.col : Int)) ∧ ∃ X', Sx w' s X' bv { S with cur := laid S.cur S.col c } ∧ Stp (X.foot s) W (X'.foot s) w' ∧ S.col + 1 ≤ X'.l.k + X'.l.cs.length) := fun W' hs =>
    (sput_run (h.stays hs) hO hT c).mono fun _ _ ⟨q1, q2, X', q3, q4, q5⟩ => ⟨q1, q2, X', q3, (hs.more (by simp)).trans q4, q5⟩
  have KL := Lib.hid KL
  have KP := Lib.hid KP
  have c1 := h.c1
  have hlt := h.lt
  have hw : IntKind.i32.wrap (c : Int) = (c : Int) := by rw [IntKind.wrap_i32]; omega
  have hw2 : IntKind.i64.wrap ((S.col : Int) + 1) = ((S.col + 1 : Nat) : Int) := by rw [IntKind.wrap_i64]; omega
  obtain ⟨k, hk⟩ : ∃ k, k = S.col := ⟨_, rfl⟩
  have HK := Lib.hid hk
  rw [← hk] at HC KP c1 hw2
  clear b1 b2 b3 h hO hT hp hk
  generalize (two X.U).length = oo at *
  have hcur : Stp [] W [] W.drew := Stp.drew [] _
  go_enter Tryz.func39, Tryz.ntmps39
  go_wp2_with fail
  refine K1.out.mono ?_
  rintro _ w0 ⟨rfl, hw0⟩
  obtain rfl : W = w0 := hw0.symm
  clear K1
  go_wp2_with fail
  go_region_held3 (fun W' => W'.cell? ⟨s, 1, none⟩ = some (.int .i64 (k : Int)))
    (first | exact HC.out _ hcur | assumption)
    (first
      | (go_at_call 54; refine (KL.out _ hcur).mono ?_; rintro _ w2 ⟨rfl, s2⟩; replace hcur := s2)
      | (go_at_call 55; refine (KP.out _ hcur).mono ?_; rintro _ w3 ⟨rfl, d1, hq⟩; have HQ := Lib.hid hq; clear hq))
  all_goals
    obtain ⟨X', q3, q4, q5⟩ := HQ.out
    have f1 := q3.fz 1
    have hl3 := q3.lt
    have HX := Lib.hid (And.intro q3 (And.intro q4 q5))
    clear q3 q4 q5 HQ HC KL KP hcur c1 hlt
    go_wp2_with fail
    go_ret
    have HS := HX.out.1.setCol (k + 1) (fun _ => HX.out.2.2)
    refine ⟨rfl, X', ?_, HX.out.2.1.trans (stp_foot (stp_one _ s 1 _) X')⟩
    rw [← HK.out]
    exact HS
set_option maxHeartbeats 1000000 in
set_option maxRecDepth 100000 in
/-- The others that do something. -/
theorem chr_13 {T : Nat} (h : Sx W s X bv S) (hO : Oks S T) (hT : T ≤ 500000) : Calls Tryz.prog 39 #[.pointer (some ⟨s, 0, none⟩), .int .i64 13] W
    (Did W s X bv (.bool true) { S with col := 0 }) := by
  have K1 := U.pr_any 13 W
  rw [show U.prB 13 = false by decide] at K1
  have K1 := Lib.hid K1
  have f1 := h.fz 1
  have c1 := h.c1
  have hlt := h.lt
  have H := Lib.hid h
  clear h
  go_enter Tryz.func39, Tryz.ntmps39
  go_wp2_with fail
  refine K1.out.mono ?_
  rintro _ w0 ⟨rfl, hw0⟩
  obtain rfl : W = w0 := hw0.symm
  clear K1
  go_wp2_with fail
  go_ret
  exact ⟨rfl, X, H.out.setCol 0 (fun _ => Nat.zero_le _), stp_foot (stp_one _ s 1 _) X⟩
set_option maxHeartbeats 1000000 in
set_option maxRecDepth 100000 in
theorem chr_7 {T : Nat} (h : Sx W s X bv S) (hO : Oks S T) (hT : T ≤ 500000) : Calls Tryz.prog 39 #[.pointer (some ⟨s, 0, none⟩), .int .i64 7] W
    (Did W s X bv (.bool true) { S with bells := S.bells + 1 }) := by
  have K1 := U.pr_any 7 W
  rw [show U.prB 7 = false by decide] at K1
  have K1 := Lib.hid K1
  have c2 := h.c2
  have f2 := h.fz 2
  have hlt := h.lt
  have hb := hO.bells
  have hw2 : IntKind.i64.wrap ((S.bells : Int) + 1) = ((S.bells + 1 : Nat) : Int) := by rw [IntKind.wrap_i64]; omega
  have H := Lib.hid h
  clear h
  go_enter Tryz.func39, Tryz.ntmps39
  go_wp2_with fail
  refine K1.out.mono ?_
  rintro _ w0 ⟨rfl, hw0⟩
  obtain rfl : W = w0 := hw0.symm
  clear K1
  go_wp2_with fail
  go_ret
  exact ⟨rfl, X, H.out.setBells (S.bells + 1), stp_foot (stp_one _ s 2 _) X⟩
set_option maxHeartbeats 1000000 in
set_option maxRecDepth 100000 in
theorem chr_no (h : Sx W s X bv S) (c : Nat) (hp : U.prB (c : Int) = false) (h1 : c ≠ 13) (h2 : c ≠ 10) (h3 : c ≠ 7) : Calls Tryz.prog 39 #[.pointer (some ⟨s, 0, none⟩), .int .i64 (c : Int)] W
    (Did W s X bv (.bool false) S) := by
  have K1 := U.pr_any (c : Int) W
  rw [hp] at K1
  have K1 := Lib.hid K1
  have H := Lib.hid h
  have e1 : ((c : Int) == 13) = false := beq_eq_false_iff_ne.2 (by omega)
  have e2 : ((c : Int) == 10) = false := beq_eq_false_iff_ne.2 (by omega)
  have e3 : ((c : Int) == 7) = false := beq_eq_false_iff_ne.2 (by omega)
  clear h hp h1 h2 h3
  go_enter Tryz.func39, Tryz.ntmps39
  go_wp2_with fail
  refine K1.out.mono ?_
  rintro _ w0 ⟨rfl, hw0⟩
  obtain rfl : W = w0 := hw0.symm
  clear K1
  go_wp2_with fail
  go_ret
  exact ⟨rfl, X, H.out, Stp.refl _ _⟩
set_option maxHeartbeats 1000000 in
set_option maxRecDepth 100000 in
/-- A row's end. -/
theorem chr_10 {T : Nat} (h : Sx W s X bv S) (hO : Oks S T) (hT : T ≤ 500000) : Calls Tryz.prog 39 #[.pointer (some ⟨s, 0, none⟩), .int .i64 10] W
    (Did W s X bv (.bool true) { S with up := S.up ++ [S.cur], cur := [] }) := by
  have K1 := U.pr_any 10 W
  rw [show U.prB 10 = false by decide] at K1
  have K1 := Lib.hid K1
  have c0 := h.c0
  have hlt := h.lt
  have hb := (h.bd hO).2.2
  have H := Lib.hid h
  have HB := Lib.hid hb
  obtain ⟨D, cap, hv, _⟩ := h.rw.at
  rw [hv] at c0
  clear h hb hO
  go_enter Tryz.func39, Tryz.ntmps39
  go_wp2_with fail
  refine K1.out.mono ?_
  rintro _ w0 ⟨rfl, hw0⟩
  obtain rfl : W = w0 := hw0.symm
  clear K1
  have hR : ∀ O, Rws (W.alloc O) (.slice (some ⟨X.R, 0, none⟩) (X.U.length + 1) cap) X.R X.U X.l := fun O => by
    have := H.out.rw.other (Stp.alloc [] W O) (by simp) (fun _ _ h => by cases h)
    rw [hv] at this
    exact this
  have HR := Lib.hid hR
  clear hR
  go_wp2_with (at_builtin; go_loud (refine wpList_appW (b := W.heap.size) rfl (.tmp 37) (.tmp 39) rfl rfl (HR.out _) rfl (by rw [cell_of_row _ _ _ _ _ _ (heap_alloc_new W _)]; rfl) (by rw [cell_of_row _ _ _ _ _ _ (heap_alloc_new W _)]; rfl) (by have := HB.out; omega) ?_; intro v' w3 R' hr s3; obtain ⟨D', cap', hv', _⟩ := hr.at; subst hv'; have HX := Lib.hid (H.out.more hr s3); have HA := Lib.hid (((Stp.alloc [X.R] W _).trans s3).block s hlt (by rw [List.mem_singleton]; exact H.out.s_ne.1)); have c0' : w3.cell? ⟨s, 0, none⟩ = _ := (World.cell?_of_block (a := ⟨s, 0, none⟩) HA.out).trans c0; have f0' : w3.frozen? ⟨s, 0, none⟩ = false := (World.frozen?_of_block (a := ⟨s, 0, none⟩) HA.out).trans (H.out.fz 0); have hlt3 : s < w3.heap.size := Nat.lt_of_lt_of_le hlt ((Stp.alloc [X.R] W _).trans s3).size; clear c0 hr s3))
  go_ret
  have q := HX.out
  have eL : (X.U ++ [X.l]).length = X.U.length + 1 := by simp
  rw [eL] at q
  exact ⟨rfl, _, q.1, q.2⟩
theorem chr_run {T : Nat} (h : Sx W s X bv S) (hO : Oks S T) (hT : T ≤ 500000) (c : Nat) : Calls Tryz.prog 39 #[.pointer (some ⟨s, 0, none⟩), .int .i64 (c : Int)] W
    (Did W s X bv (.bool (doC S c).isSome) ((doC S c).getD S)) := by
  unfold doC
  by_cases hp : U.prB (c : Int) = true
  · rw [if_pos hp]
    exact chr_pr h hO hT c hp
  · rw [if_neg hp]
    by_cases h1 : c = 13
    · subst h1
      exact chr_13 h hO hT
    · rw [if_neg h1]
      by_cases h2 : c = 10
      · subst h2
        exact chr_10 h hO hT
      · rw [if_neg h2]
        by_cases h3 : c = 7
        · subst h3
          exact chr_7 h hO hT
        · rw [if_neg h3]
          exact chr_no h c (by simpa using hp) h1 h2 h3
end
end Go.Proofs.YtdaenaoagejgeaaGreatDoor
