/-
  What the first character or sequence does: do.
-/
import Derived.Test.YtdaenaoagejgeaaGreatDoorObey
import Derived.Test.YtdaenaoagejgeaaGreatDoorSeen
namespace Go.Proofs.YtdaenaoagejgeaaGreatDoor
open Go.RowKit Go.Lib
set_option linter.unusedVariables false

/-- How many bytes it has; 0: it is none. -/
def oneN (S : Sn) (l : List UInt8) : Nat := match one S l with
  | none => 0
  | some f => f.n
def oneX (S : Sn) (l : List UInt8) : Sn := match one S l with
  | none => S
  | some f => f.x
section
variable {W W' : World} {s : Nat} {X : Sc} {bv : Value} {S : Sn}
set_option maxHeartbeats 2000000 in
set_option maxRecDepth 100000 in
/-- A sequence. -/
theorem seq_run {T : Nat} (h : Sx W s X bv S) (hO : Oks S T) (hT : T ≤ 500000) (a : Option Addr) (n cap : Nat) (r : List UInt8) (hb : Bts W a (27 :: r)) (hn : n = (27 :: r).length) (hc : n ≤ cap) (hl : n ≤ 100000) (hTb : Tabs W) :
    Calls Tryz.prog 37 #[.pointer (some ⟨s, 0, none⟩), .slice a n cap] W (Did W s X bv (.int .i64 (oneN S (27 :: r) : Int)) (oneX S (27 :: r))) := by
  have KN := next_run a n cap (27 :: r) W hb hn hc (by omega)
  have hbo := hO.odd
  by_cases he : (nx (27 :: r)).e = 0
  · have hp := nx_pos he
    have hv : nxv (nx (27 :: r)) = .tuple #[kv (nx (27 :: r)).k 0, .int .i64 ((nx (27 :: r)).n : Int), .int .i64 0] := by
      unfold nxv
      rw [he]
    rw [hv] at KN
    have e1 : oneN S (27 :: r) = (nx (27 :: r)).n := by unfold oneN; rw [one_esc, if_pos he]
    have e2 : oneX S (27 :: r) = (doQ S ((27 :: r).take (nx (27 :: r)).n)).getD (oddS S (nx (27 :: r)).n) := by unfold oneX; rw [one_esc, if_pos he]
    rw [e1, e2]
    have ht := take_bts hb _ hp.2.1
    have hlen : ((27 :: r).take (nx (27 :: r)).n).length = (nx (27 :: r)).n := by rw [List.length_take]; omega
    have hn1 := hp.1
    have hn2 : (nx (27 :: r)).n ≤ n := by omega
    generalize (27 :: r).take (nx (27 :: r)).n = q at *
    generalize (nx (27 :: r)).n = m at *
    generalize (nx (27 :: r)).k = ky at *
    obtain ⟨oq, hoq⟩ : ∃ oq, oq = doQ S q := ⟨_, rfl⟩
    rw [← hoq]
    have HQ := Lib.hid hoq
    clear hoq
    have KN := Lib.hid KN
    have HM := Lib.hid (And.intro h (And.intro hO (And.intro ht (And.intro hlen hTb))))
    have hmc : m ≤ cap := by omega
    have hmz : (m : Int) ≤ 1000000 := by omega
    have hz : wrap64 (m : Int) = (m : Int) := by unfold wrap64; omega
    unfold kv at KN
    clear h hO ht hb hn hv e1 e2 he hp hTb hlen
    go_enter Tryz.func37, Tryz.ntmps37
    go_wp2_with fail
    refine KN.out.mono ?_
    rintro _ w1 ⟨rfl, s1⟩
    have s2 : Stp [] W [] (w1.alloc (.cells #[.int .i64 ky, .int .i64 0] 97)) := s1.trans (Stp.alloc [] _ _)
    obtain ⟨h, hO, ht, hlen, hTb⟩ := HM.out
    have cv := conv_bts cap m (ht.stays s2) hlen.symm
    have KO := obey_run (h.stays s2) hO hT q (by omega) (hTb.stays s2)
    have HS := Lib.hid s2
    have hw2 : IntKind.i64.wrap ((S.odd : Int) + (m : Int)) = ((S.odd + m : Nat) : Int) := by rw [IntKind.wrap_i64]; omega
    clear KN s1 s2 h hO ht hlen hTb HM
    rw [← HQ.out] at KO
    rcases oq with _ | S'
    · skip
      have KO := Lib.hid KO
      clear HQ
      go_wp2_with fail
      refine KO.out.mono ?_
      rintro _ w3 ⟨rfl, X', h3, s3⟩
      have c4 := h3.c4
      have f4 := h3.fz 4
      have hlt := h3.lt
      have HX := Lib.hid (And.intro h3 s3)
      clear KO h3 s3 cv
      simp only [Option.getD_none] at c4 HX
      go_wp2_with fail
      go_ret
      exact ⟨rfl, X', HX.out.1.setOdd (S.odd + m), ((HS.out.more (by simp)).trans HX.out.2).trans (stp_foot (stp_one _ s 4 _) X')⟩
    · skip
      have KO := Lib.hid KO
      clear HQ
      go_wp2_with fail
      refine KO.out.mono ?_
      rintro _ w3 ⟨rfl, X', h3, s3⟩
      have HX := Lib.hid (And.intro h3 s3)
      clear KO h3 s3 cv
      go_wp2_with fail
      go_ret
      exact ⟨rfl, X', HX.out.1, (HS.out.more (by simp)).trans HX.out.2⟩
  · have h7 : (nx (27 :: r)).e = 7 := by
      rcases nx_e (27 :: r) with e | e | e | e
      · exact absurd e he
      · exfalso
        cases g : (ln (27 :: r)).2 with
        | false => rw [nx_short g] at e; cases e
        | true => rw [nx_over g] at e; cases e
      · exact e
      · exfalso
        cases g : (ln (27 :: r)).2 with
        | false => rw [nx_short g] at e; cases e
        | true => rw [nx_over g] at e; cases e
    have hv : nxv (nx (27 :: r)) = .tuple #[kv (nx (27 :: r)).k 0, .int .i64 ((nx (27 :: r)).n : Int), .int .i64 7] := by
      unfold nxv
      rw [h7]
    rw [hv] at KN
    have e1 : oneN S (27 :: r) = 0 := by unfold oneN; rw [one_esc, if_neg he]
    have e2 : oneX S (27 :: r) = S := by unfold oneX; rw [one_esc, if_neg he]
    rw [e1, e2]
    generalize (nx (27 :: r)).n = m at *
    generalize (nx (27 :: r)).k = ky at *
    have KN := Lib.hid KN
    have H := Lib.hid h
    unfold kv at KN
    clear h hO hb hn hv e1 e2 he h7 hTb
    go_enter Tryz.func37, Tryz.ntmps37
    go_wp2_with fail
    refine KN.out.mono ?_
    rintro _ w1 ⟨rfl, s1⟩
    have HS := Lib.hid s1
    clear KN s1
    go_wp2_with fail
    go_ret
    exact ⟨rfl, X, (H.out.stays HS.out).stays (Stp.alloc [] _ _), (HS.out.more (by simp)).trans (Stp.alloc _ _ _)⟩
end
end Go.Proofs.YtdaenaoagejgeaaGreatDoor
