/-
  do.
-/
import Derived.Test.YtdaenaoagejgeaaGreatDoorDo2
namespace Go.Proofs.YtdaenaoagejgeaaGreatDoor
open Go.RowKit Go.Lib
set_option linter.unusedVariables false

theorem unext_run (l : List UInt8) (a : Option Addr) (n cap : Nat) (w : World) (hb : Bts w a l) (hn : n = l.length) (hc : n ≤ cap) (hm : cap ≤ maxLen) (hT : U.Tabs w) :
    Calls Tryz.prog 38 #[.slice a n cap] w (Tells (.tuple #[.int .i64 (nx8 l).1, .int .i64 (nx8 l).2.1, .int .i64 (nx8 l).2.2]) w) := by
  subst hn
  have h := U.next_any a cap (l.map UInt8.toNat) w (bts_to_U hb) (by rw [List.length_map]; exact hc) hm hT
  rw [List.length_map] at h
  exact h.mono fun e w' ⟨he, hb⟩ => ⟨he, Stp.of_below hb⟩
theorem head_cell {W : World} {a : Option Addr} {c : UInt8} {r : List UInt8} (hb : Bts W a (c :: r)) : ∃ bb off, a = some ⟨bb, off, none⟩ ∧ W.cell? ⟨bb, off, none⟩ = some (.int .u8 (c.toNat : Int)) := by
  obtain ⟨bb, off, rfl, hc⟩ := hb (by simp)
  have h0 := hc 0 (by simp)
  exact ⟨bb, off, rfl, by simpa [bval] using h0⟩
section
variable {W W' : World} {s : Nat} {X : Sc} {bv : Value} {S : Sn}
set_option maxHeartbeats 2000000 in
set_option maxRecDepth 100000 in
theorem do_esc {T : Nat} (h : Sx W s X bv S) (hO : Oks S T) (hT : T ≤ 500000) (a : Option Addr) (n cap : Nat) (r : List UInt8) (hb : Bts W a (27 :: r)) (hn : n = (27 :: r).length) (hc : n ≤ cap) (hl : n ≤ 100000) (hTb : Tabs W) :
    Calls Tryz.prog 23 #[.pointer (some ⟨s, 0, none⟩), .slice a n cap] W (Did W s X bv (.int .i64 (oneN S (27 :: r) : Int)) (oneX S (27 :: r))) := by
  obtain ⟨bb, off, rfl, hcell⟩ := head_cell hb
  have KS := Lib.hid (seq_run h hO hT (some ⟨bb, off, none⟩) n cap r hb hn hc hl hTb)
  have hn0 : 0 < n := by rw [hn]; simp
  rw [show ((27 : UInt8).toNat : Int) = 27 from rfl] at hcell
  clear h hO hb hn hTb
  generalize oneN S (27 :: r) = N at *
  generalize oneX S (27 :: r) = S' at *
  go_enter Tryz.func23, Tryz.ntmps23
  go_wp2_with fail
  refine KS.out.mono ?_
  rintro _ w1 ⟨rfl, hq⟩
  have HQ := Lib.hid hq
  clear KS hq hcell
  go_wp2_with fail
  go_ret
  exact ⟨rfl, HQ.out⟩
set_option maxHeartbeats 2000000 in
set_option maxRecDepth 100000 in
theorem do_chr {T : Nat} (h : Sx W s X bv S) (hO : Oks S T) (hT : T ≤ 500000) (a : Option Addr) (n cap : Nat) (c : UInt8) (r : List UInt8) (hcr : c ≠ 27) (hb : Bts W a (c :: r)) (hn : n = (c :: r).length) (hc : n ≤ cap) (hm : cap ≤ maxLen) (hTb : Tabs W) :
    Calls Tryz.prog 23 #[.pointer (some ⟨s, 0, none⟩), .slice a n cap] W (Did W s X bv (.int .i64 (oneN S (c :: r) : Int)) (oneX S (c :: r))) := by
  obtain ⟨bb, off, rfl, hcell⟩ := head_cell hb
  have KN := unext_run (c :: r) (some ⟨bb, off, none⟩) n cap W hb hn hc hm hTb.utf
  have hbo := hO.odd
  have hn0 : 0 < n := by rw [hn]; simp
  have hx : ((c.toNat : Int) == 27) = false := beq_eq_false_iff_ne.2 (fun e => hcr (by
    apply UInt8.toNat.inj
    show c.toNat = 27
    omega))
  have hn4 := (nx8_pos (l := c :: r) (by simp)).2.2
  have e1 : oneN S (c :: r) = if (nx8 (c :: r)).2.2 = 7 then 0 else (nx8 (c :: r)).2.1 := by
    unfold oneN
    rw [one_chr S r hcr]
    by_cases g : (nx8 (c :: r)).2.2 = 7
    · rw [if_pos g, if_pos g]
    · rw [if_neg g, if_neg g]
  have e2 : oneX S (c :: r) = if (nx8 (c :: r)).2.2 = 7 then S else (if (nx8 (c :: r)).2.2 = 0 then doC S (nx8 (c :: r)).1 else none).getD (oddS S (nx8 (c :: r)).2.1) := by
    unfold oneX
    rw [one_chr S r hcr]
    by_cases g : (nx8 (c :: r)).2.2 = 7
    · rw [if_pos g, if_pos g]
    · rw [if_neg g, if_neg g]
  rw [e1, e2]
  have he := nx8_e (l := c :: r) (by simp)
  generalize ((c.toNat : Nat) : Int) = z at *
  clear e1 e2 hb hn hcr
  generalize (nx8 (c :: r)).2.2 = e at *
  generalize (nx8 (c :: r)).2.1 = m at *
  generalize (nx8 (c :: r)).1 = x at *
  have hw2 : IntKind.i64.wrap ((S.odd : Int) + (m : Int)) = ((S.odd + m : Nat) : Int) := by rw [IntKind.wrap_i64]; omega
  rcases he with rfl | rfl | rfl
  · rw [if_neg (by decide), if_neg (by decide), if_pos rfl]
    have KN := Lib.hid KN
    have KC := Lib.hid (fun W' (hs : Stp [] W [] W') => chr_run (h.stays hs) hO hT x)
    obtain ⟨oq, hoq⟩ : ∃ oq, oq = doC S x := ⟨_, rfl⟩
    rw [← hoq] at KC ⊢
    clear hoq h hO hTb
    go_enter Tryz.func23, Tryz.ntmps23
    go_wp2_with fail
    refine KN.out.mono ?_
    rintro _ w1 ⟨rfl, s1⟩
    have HS := Lib.hid s1
    have KC1 := Lib.hid (KC.out w1 s1)
    clear KN KC s1 hcell
    rcases oq with _ | S'
    · go_wp2_with fail
      refine KC1.out.mono ?_
      rintro _ w3 ⟨rfl, X', h3, s3⟩
      have c4 := h3.c4
      have f4 := h3.fz 4
      have hlt := h3.lt
      have HX := Lib.hid (And.intro h3 s3)
      clear KC1 h3 s3
      simp only [Option.getD_none] at c4 HX
      go_wp2_with fail
      go_ret
      exact ⟨rfl, X', HX.out.1.setOdd (S.odd + m), ((HS.out.more (by simp)).trans HX.out.2).trans (stp_foot (stp_one _ s 4 _) X')⟩
    · go_wp2_with fail
      refine KC1.out.mono ?_
      rintro _ w3 ⟨rfl, X', h3, s3⟩
      have HX := Lib.hid (And.intro h3 s3)
      clear KC1 h3 s3
      go_wp2_with fail
      go_ret
      exact ⟨rfl, X', HX.out.1, (HS.out.more (by simp)).trans HX.out.2⟩
  · rw [if_pos rfl, if_pos rfl]
    have KN := Lib.hid KN
    have H := Lib.hid h
    clear h hO hTb
    go_enter Tryz.func23, Tryz.ntmps23
    go_wp2_with fail
    refine KN.out.mono ?_
    rintro _ w1 ⟨rfl, s1⟩
    have HS := Lib.hid s1
    clear KN s1 hcell
    go_wp2_with fail
    go_ret
    exact ⟨rfl, X, H.out.stays HS.out, HS.out.more (by simp)⟩
  · rw [if_neg (by decide), if_neg (by decide), if_neg (by decide)]
    have KN := Lib.hid KN
    have H := Lib.hid h
    clear h hO hTb
    go_enter Tryz.func23, Tryz.ntmps23
    go_wp2_with fail
    refine KN.out.mono ?_
    rintro _ w1 ⟨rfl, s1⟩
    have HX := Lib.hid (And.intro (H.out.stays s1) s1)
    have c4 := HX.out.1.c4
    have f4 := HX.out.1.fz 4
    have hlt := HX.out.1.lt
    clear KN s1 hcell
    go_wp2_with fail
    go_ret
    exact ⟨rfl, X, HX.out.1.setOdd (S.odd + m), (HX.out.2.more (by simp)).trans (stp_foot (stp_one _ s 4 _) X)⟩
theorem do_run {T : Nat} (h : Sx W s X bv S) (hO : Oks S T) (hT : T ≤ 500000) (a : Option Addr) (n cap : Nat) (l : List UInt8) (hne : l ≠ []) (hb : Bts W a l) (hn : n = l.length) (hc : n ≤ cap) (hm : cap ≤ maxLen) (hl : n ≤ 100000) (hTb : Tabs W) :
    Calls Tryz.prog 23 #[.pointer (some ⟨s, 0, none⟩), .slice a n cap] W (Did W s X bv (.int .i64 (oneN S l : Int)) (oneX S l)) := by
  rcases l with _ | ⟨c, r⟩
  · exact absurd rfl hne
  · by_cases hx : c = 27
    · subst hx
      exact do_esc h hO hT a n cap r hb hn hc hl hTb
    · exact do_chr h hO hT a n cap c r hx hb hn hc hm hTb
end
end Go.Proofs.YtdaenaoagejgeaaGreatDoor
