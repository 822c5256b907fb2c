/-
  keys.Read: the key of a text, or that it is none's.
-/
import Derived.Test.YtngbpkbojjipgaaDoorTextK
import Derived.Test.YtngbpkbojjipgaaDoorKind
namespace Go.Proofs.YtngbpkbojjipgaaDoor
open Go.RowKit Go.Lib
set_option linter.unusedVariables false

/-- What Read answers. -/
def rkv (l : List UInt8) : Value := match rdk l with
  | some p => .tuple #[kv p.1 p.2, .int .i64 0]
  | none => .tuple #[kv 0 0, .int .i64 8]
theorem rkv_text {k c : Nat} (h : chk (k : Int) (c : Int) = 0) : rkv (ktx k c) = .tuple #[kv k c, .int .i64 0] := by
  unfold rkv
  rw [rdk_text h]
theorem rkv_no {l : List UInt8} (h : ∀ k c : Nat, chk (k : Int) (c : Int) = 0 → ktx k c ≠ l) : rkv l = .tuple #[kv 0 0, .int .i64 8] := by
  unfold rkv
  rw [rdk_none h]
theorem rkv_cases (l : List UInt8) : (∃ k c : Nat, chk (k : Int) (c : Int) = 0 ∧ ktx k c = l ∧ rkv l = .tuple #[kv k c, .int .i64 0]) ∨ ((∀ k c : Nat, chk (k : Int) (c : Int) = 0 → ktx k c ≠ l) ∧ rkv l = .tuple #[kv 0 0, .int .i64 8]) := by
  cases h : rdk l with
  | some p =>
    obtain ⟨h1, h2⟩ := rdk_only (k := p.1) (c := p.2) h
    exact .inl ⟨p.1, p.2, h1, h2, by unfold rkv; rw [h]⟩
  | none =>
    have hn : ∀ k c : Nat, chk (k : Int) (c : Int) = 0 → ktx k c ≠ l := fun k c hc e => by
      subst e
      rw [rdk_text hc] at h
      cases h
    exact .inr ⟨hn, rkv_no hn⟩
theorem rkv_if (l : List UInt8) : rkv l = if chk (kz (cutc 32 l).1) (gth (cutc 32 l).2.1) = 0 ∧ ktxt (kz (cutc 32 l).1) (gth (cutc 32 l).2.1) = l then .tuple #[kv (kz (cutc 32 l).1) (gth (cutc 32 l).2.1), .int .i64 0] else .tuple #[kv 0 0, .int .i64 8] := by
  unfold rkv rdk
  generalize kz (cutc 32 l).1 = K
  generalize gth (cutc 32 l).2.1 = C
  by_cases h : chk K C = 0
  · obtain ⟨n, m, rfl, rfl, _⟩ := chk_zero h
    unfold ktxt
    rw [if_pos h]
    simp only [Int.toNat_natCast]
    by_cases g : ktx n m = l
    · rw [if_pos ⟨h, g⟩, if_pos ⟨h, g⟩]
    · rw [if_neg (fun e => g e.2), if_neg (fun e => g e.2)]
  · rw [if_neg (fun e => h e.1), if_neg (fun e => h e.1)]

set_option maxHeartbeats 2000000 in
set_option maxRecDepth 100000 in
theorem read_run (l : List UInt8) (hl : l.length ≤ 100000) (w : World) (hT : Tabs w) : Calls Tryd.prog 17 #[.string (st l)] w (Tells (rkv l) w) := by
  have l1 := cutc_len 32 l
  have HT : Aside (Tabs w) := hT
  have K1 : Hid (∀ W, Calls Tryd.prog 28 #[.string (st l), .string ⟨#[32]⟩] W (Tells (.tuple #[.string (st (cutc 32 l).1), .string (st (cutc 32 l).2.1), .bool (cutc 32 l).2.2]) W)) := Lib.hid fun W => cut_run l 32 W (by omega)
  have K3 : Hid (∀ W, Stp [] w [] W → Calls Tryd.prog 29 #[.string (st (cutc 32 l).1)] W (Tells (.int .i64 (kz (cutc 32 l).1)) W)) := Lib.hid fun W hs => kind_run _ W (HT.out.stays hs)
  have K4 : Hid (∀ W, Stp [] w [] W → Calls Tryd.prog 30 #[.string (st (cutc 32 l).2.1)] W (Tells (.int .i64 (gth (cutc 32 l).2.1)) W)) := Lib.hid fun W hs => gather_run _ (by omega) W (HT.out.stays hs)
  have K6 : Hid (∀ W, Stp [] w [] W → Calls Tryd.prog 16 #[.agg #[.int .i64 (kz (cutc 32 l).1), .int .i64 (gth (cutc 32 l).2.1)]] W (Tells (.tuple #[.string (st (ktxt (kz (cutc 32 l).1) (gth (cutc 32 l).2.1))), .int .i64 (chk (kz (cutc 32 l).1) (gth (cutc 32 l).2.1) : Int)]) W)) := Lib.hid fun W hs => text_run _ _ W (HT.out.stays hs)
  have HV : Aside (rkv l = if chk (kz (cutc 32 l).1) (gth (cutc 32 l).2.1) = 0 ∧ ktxt (kz (cutc 32 l).1) (gth (cutc 32 l).2.1) = l then .tuple #[kv (kz (cutc 32 l).1) (gth (cutc 32 l).2.1), .int .i64 0] else .tuple #[kv 0 0, .int .i64 8]) := rkv_if l
  clear hT l1
  generalize kz (cutc 32 l).1 = K at *
  generalize gth (cutc 32 l).2.1 = C at *
  generalize (cutc 32 l).2.2 = b1 at *
  generalize (cutc 32 l).2.1 = s2 at *
  generalize (cutc 32 l).1 = s1 at *
  go_enter Tryd.func17, Tryd.ntmps17
  go_wp2_with fail
  refine (K1.out _).mono ?_
  rintro _ w1 ⟨rfl, h1⟩
  go_wp2_with fail
  have HS1 : Aside (At2 w1 w.heap.size 0 0 ∧ Stp [] w [] w1) := ⟨(At2.new w 0 0).stays h1, (Stp.alloc [] w _).trans h1⟩
  clear h1
  refine (K3.out _ HS1.out.2).mono ?_
  rintro _ w3 ⟨rfl, h3⟩
  go_wp2_with fail
  refine (K4.out _ (HS1.out.2.trans h3)).mono ?_
  rintro _ w4 ⟨rfl, h4⟩
  have HS4 : Aside (At2 w4 w.heap.size 0 0 ∧ Stp [] w [] w4) := ⟨(HS1.out.1.stays h3).stays h4, (HS1.out.2.trans h3).trans h4⟩
  clear h3 h4 HS1
  go_wp2_with fail
  refine (K6.out _ (HS4.out.2.trans (Stp.alloc [] _ _))).mono ?_
  rintro _ w6 ⟨rfl, h6⟩
  have HS6 : Aside (At2 w6 w.heap.size 0 0 ∧ At2 w6 w4.heap.size K C ∧ Stp [] w [] w6) := ⟨(HS4.out.1.stays (Stp.alloc [] _ _)).stays h6, (At2.new w4 K C).stays h6, (HS4.out.2.trans (Stp.alloc [] _ _)).trans h6⟩
  clear HS4 h6
  obtain ⟨c0, c1, f0, f1⟩ := HS6.out.1.cells
  obtain ⟨d0, d1, _, _⟩ := HS6.out.2.1.cells
  by_cases hk : chk K C = 0
  · by_cases he : ktxt K C = l
    · have hq : ((st (ktxt K C)).toList == (st l).toList) = true := st_yes (by rw [he])
      have HV2 : Aside (rkv l = .tuple #[kv K C, .int .i64 0]) := HV.out.trans (if_pos ⟨hk, he⟩)
      have hz : ((chk K C : Nat) : Int) = 0 := by omega
      clear HV he hk
      generalize ktxt K C = x at *
      generalize ((chk K C : Nat) : Int) = q at *
      subst hz
      go_wp2
      refine bodyPost_ret (res_key2 rfl _ _ w.heap.size K C rfl (HS6.out.1.set K C)) rfl ?_
      exact ⟨by rw [HV2.out]; rfl, (HS6.out.2.2.fresh (At2.stp _ _ _ _) (by simp)).none⟩
    · have hq : ((st (ktxt K C)).toList == (st l).toList) = false := st_no (fun e => he (st_inj e))
      have HV2 : Aside (rkv l = .tuple #[kv 0 0, .int .i64 8]) := HV.out.trans (if_neg (fun e => he e.2))
      have hz : ((chk K C : Nat) : Int) = 0 := by omega
      clear HV he hk
      generalize ktxt K C = x at *
      generalize ((chk K C : Nat) : Int) = q at *
      subst hz
      go_wp2
      refine bodyPost_ret (res_key2 rfl _ _ w.heap.size 0 0 rfl (HS6.out.1.set 0 0)) rfl ?_
      exact ⟨by rw [HV2.out]; rfl, (HS6.out.2.2.fresh (At2.stp _ _ _ _) (by simp)).none⟩
  · have HV2 : Aside (rkv l = .tuple #[kv 0 0, .int .i64 8]) := HV.out.trans (if_neg (fun e => hk e.1))
    have hz : (((chk K C : Nat) : Int) == 0) = false := beq_eq_false_iff_ne.2 (by omega)
    have hz2 : (((chk K C : Nat) : Int) != 0) = true := by simp [bne, hz]
    clear HV hk
    generalize ktxt K C = x at *
    generalize ((chk K C : Nat) : Int) = q at *
    go_wp2
    refine bodyPost_ret (res_key2 rfl _ _ w.heap.size 0 0 rfl (HS6.out.1.set 0 0)) rfl ?_
    exact ⟨by rw [HV2.out]; rfl, (HS6.out.2.2.fresh (At2.stp _ _ _ _) (by simp)).none⟩
end Go.Proofs.YtngbpkbojjipgaaDoor
