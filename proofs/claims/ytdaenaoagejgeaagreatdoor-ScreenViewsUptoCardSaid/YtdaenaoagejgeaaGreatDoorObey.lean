/-
  What a sequence does to a screen.
-/
import Derived.Test.YtdaenaoagejgeaaGreatDoorDo
namespace Go.Proofs.YtdaenaoagejgeaaGreatDoor
open Go.RowKit Go.Lib
set_option linter.unusedVariables false

section
variable {W W' : World} {s : Nat} {X : Sc} {bv : Value} {S : Sn}
set_option maxHeartbeats 2000000 in
set_option maxRecDepth 100000 in
/-- What is behind the place is cleared. -/
theorem obey_1 {T : Nat} (h : Sx W s X bv S) (hO : Oks S T) (hT : T ≤ 500000) : Calls Tryz.prog 51 #[.pointer (some ⟨s, 0, none⟩), .string (st S1)] W
    (Did W s X bv (.bool true) { S with cur := S.cur.take S.col }) := by
  obtain ⟨b1, b2, b3⟩ := h.bd hO
  have HC : Aside (∀ W', Stp [] W [] W' → W'.cell? ⟨s, 1, none⟩ = some (.int .i64 (S.col : Int))) := fun W' hs => (h.stays hs).c1
  have KL : ∀ W', Stp [] W [] W' → Calls Tryz.prog 54 #[.pointer (some ⟨s, 0, none⟩)] W' (fun e w' => e = .returned (.pointer (some ⟨X.R, (two X.U).length, none⟩)) ∧ Stp [] W [] w') := fun W' hs =>
    (last_run (h.stays hs) (by omega)).mono fun _ _ ⟨q1, q2⟩ => ⟨q1, hs.trans q2⟩
  have KP : ∀ W', Stp [] W [] W' → Calls Tryz.prog 71 #[.pointer (some ⟨X.R, (two X.U).length, none⟩), .int .i64 (S.col : Int)] W'
      (fun e w' => e = .returned (.tuple #[]) ∧ w'.cell? ⟨s, 1, none⟩ = some (.int .i64 (S.col : Int)) ∧ ∃ X', Sx w' s X' bv { S with cur := S.cur.take S.col } ∧ Stp (X.foot s) W (X'.foot s) w') := fun W' hs =>
    (scut_run (h.stays hs) hO hT).mono fun _ _ ⟨q1, q2, X', q3, q4⟩ => ⟨q1, q2, X', q3, (hs.more (by simp)).trans q4⟩
  have KL := Lib.hid KL
  have KP := Lib.hid KP
  have c1 := h.c1
  have hlt := h.lt
  have g1 := st_yes (a := st S1) rfl
  have g1' : st S1 = ⟨#[27, 91, 75]⟩ := rfl
  rw [g1'] at g1 ⊢
  clear b1 b2 b3 h hO hT g1'
  generalize (two X.U).length = oo at *
  have hcur : Stp [] W [] W.drew := Stp.drew [] _
  go_enter Tryz.func51, Tryz.ntmps51
  go_wp2_with fail
  go_region_held3 (fun W' => W'.cell? ⟨s, 1, none⟩ = some (.int .i64 (S.col : Int)))
    (first | exact HC.out _ hcur | assumption)
    (first
      | (go_at_call 54; refine (KL.out _ hcur).mono ?_; rintro _ w2 ⟨rfl, s2⟩; replace hcur := s2)
      | (go_at_call 71; refine (KP.out _ hcur).mono ?_; rintro _ w3 ⟨rfl, d1, hq⟩; have HQ := Lib.hid hq; clear hq))
  all_goals
    go_wp2_with fail
    go_ret
    obtain ⟨X', q3, q4⟩ := HQ.out
    exact ⟨rfl, X', q3, q4⟩
set_option maxHeartbeats 2000000 in
set_option maxRecDepth 100000 in
/-- Pastes are told, or no more. -/
theorem obey_2 (h : Sx W s X bv S) : Calls Tryz.prog 51 #[.pointer (some ⟨s, 0, none⟩), .string (st S2)] W
    (Did W s X bv (.bool true) { S with pa := true }) := by
  have c3 := h.c3
  have f3 := h.fz 3
  have hlt := h.lt
  have g1 := st_no (a := st S2) (b := st S1) (fun e => absurd (st_inj e) (by decide))
  have g2 := st_yes (a := st S2) rfl
  have e1 : st S1 = ⟨#[27, 91, 75]⟩ := rfl
  have e2 : st S2 = ⟨#[27, 91, 63, 50, 48, 48, 52, 104]⟩ := rfl
  rw [e1] at g1
  rw [e2] at g1 g2 ⊢
  have H := Lib.hid h
  clear h e1 e2
  go_enter Tryz.func51, Tryz.ntmps51
  go_wp2_with fail
  go_ret
  exact ⟨rfl, X, H.out.setPa true, stp_foot (stp_one _ s 3 _) X⟩
set_option maxHeartbeats 2000000 in
set_option maxRecDepth 100000 in
theorem obey_3 (h : Sx W s X bv S) : Calls Tryz.prog 51 #[.pointer (some ⟨s, 0, none⟩), .string (st S3)] W
    (Did W s X bv (.bool true) { S with pa := false }) := by
  have c3 := h.c3
  have f3 := h.fz 3
  have hlt := h.lt
  have g1 := st_no (a := st S3) (b := st S1) (fun e => absurd (st_inj e) (by decide))
  have g3 := st_no (a := st S3) (b := st S2) (fun e => absurd (st_inj e) (by decide))
  have g2 := st_yes (a := st S3) rfl
  have e1 : st S1 = ⟨#[27, 91, 75]⟩ := rfl
  have e2 : st S2 = ⟨#[27, 91, 63, 50, 48, 48, 52, 104]⟩ := rfl
  have e3 : st S3 = ⟨#[27, 91, 63, 50, 48, 48, 52, 108]⟩ := rfl
  rw [e1] at g1
  rw [e2] at g3
  rw [e3] at g1 g2 g3 ⊢
  have H := Lib.hid h
  clear h e1 e2 e3
  go_enter Tryz.func51, Tryz.ntmps51
  go_wp2_with fail
  go_ret
  exact ⟨rfl, X, H.out.setPa false, stp_foot (stp_one _ s 3 _) X⟩
set_option maxHeartbeats 2000000 in
set_option maxRecDepth 100000 in
/-- The others. -/
theorem obey_b {T : Nat} (h : Sx W s X bv S) (hO : Oks S T) (hT : T ≤ 500000) (q : List UInt8) (hq : q.length ≤ 100000) (n1 : q ≠ S1) (n2 : q ≠ S2) (n3 : q ≠ S3) (hTb : Tabs W) : Calls Tryz.prog 51 #[.pointer (some ⟨s, 0, none⟩), .string (st q)] W
    (Did W s X bv (.bool (decide (bk q ≠ 0))) { S with col := S.col - bk q }) := by
  obtain ⟨b1, b2, b3⟩ := h.bd hO
  have hbk : bk q ≤ 9999 := by
    by_cases e : bk q = 0
    · omega
    · exact (bk_form e).2.1
  have g1 : ((st q).toList == [27, 91, 75]) = false := by rw [st_toList]; exact beq_eq_false_iff_ne.2 n1
  have g2 : ((st q).toList == [27, 91, 63, 50, 48, 48, 52, 104]) = false := by rw [st_toList]; exact beq_eq_false_iff_ne.2 n2
  have g3 : ((st q).toList == [27, 91, 63, 50, 48, 48, 52, 108]) = false := by rw [st_toList]; exact beq_eq_false_iff_ne.2 n3
  have KB := Lib.hid (back_run q hq W hTb)
  have HI := Lib.hid h.inv
  have H := Lib.hid h
  have hmx : max ((S.col : Int) - (bk q : Int)) 0 = ((S.col - bk q : Nat) : Int) := by omega
  have hw : IntKind.i64.wrap ((S.col : Int) - (bk q : Int)) = (S.col : Int) - (bk q : Int) := by rw [IntKind.wrap_i64]; omega
  clear h n1 n2 n3 hO hTb
  generalize decide (bk q ≠ 0) = dq at *
  generalize bk q = b at *
  generalize st q = Q at *
  go_enter Tryz.func51, Tryz.ntmps51
  go_wp2_with fail
  refine KB.out.mono ?_
  rintro _ w1 ⟨rfl, s1⟩
  have H1 := Lib.hid (H.out.stays s1)
  have c1 := H1.out.c1
  have f1 := H1.out.fz 1
  have hlt := H1.out.lt
  have HS := Lib.hid s1
  clear s1 KB
  go_wp2_with fail
  go_ret
  refine ⟨rfl, X, H1.out.setCol (S.col - b) (fun hne => ?_), (HS.out.more (by simp)).trans (stp_foot (stp_one _ s 1 _) X)⟩
  have := HI.out hne
  omega
theorem obey_run {T : Nat} (h : Sx W s X bv S) (hO : Oks S T) (hT : T ≤ 500000) (q : List UInt8) (hq : q.length ≤ 100000) (hTb : Tabs W) : Calls Tryz.prog 51 #[.pointer (some ⟨s, 0, none⟩), .string (st q)] W
    (Did W s X bv (.bool (doQ S q).isSome) ((doQ S q).getD S)) := by
  unfold doQ
  by_cases h1 : q = S1
  · subst h1
    rw [if_pos rfl]
    exact obey_1 h hO hT
  · rw [if_neg h1]
    by_cases h2 : q = S2
    · subst h2
      rw [if_pos rfl]
      exact obey_2 h
    · rw [if_neg h2]
      by_cases h3 : q = S3
      · subst h3
        rw [if_pos rfl]
        exact obey_3 h
      · rw [if_neg h3]
        have k := obey_b h hO hT q hq h1 h2 h3 hTb
        by_cases hb : bk q = 0
        · rw [if_pos hb]
          rw [hb] at k
          exact k
        · rw [if_neg hb]
          rw [decide_eq_true hb] at k
          exact k
end
end Go.Proofs.YtdaenaoagejgeaaGreatDoor
