/-
  ArenaNone returns true for every number, place and bytes.
-/
import Derived.Test.YtkkfpbnlhgnchaaCells
namespace Go.Proofs.Ytkkfpbnlhgnchaa
open Go.RowKit Go.Lib
set_option linter.unusedVariables false

theorem make_three : ∃ o : Obj, ∀ (w : World), (Instr.makeSlice 31 (.int .i64 3) (.int .i64 3)).run Try.prog w = .ok (.slice (some ⟨w.heap.size, 0, none⟩) 3 3) (w.alloc o) := by
  obtain ⟨o, _, h⟩ := make_obj 3 (by omega)
  exact ⟨o, fun w => h w .i64 .i64⟩

set_option maxHeartbeats 2000000 in
set_option maxRecDepth 100000 in
theorem none_no (n i : Int) (v : Value) (w : World) (hn : n < 1 ∨ 4096 < n) : Calls Try.prog 4 #[.int .i64 n, .int .i64 i, v] w (Truth w) := by
  have N1 := Lib.hid (fun W => Gives.tells (wipe_nil W))
  have N2 := Lib.hid (fun W => Gives.tells (at_nil i W))
  have N3 := Lib.hid (fun W => Gives.tells (cell_nil i W))
  have N4 := Lib.hid (fun W p => Gives.tells (insert_nil 0 (.slice p 1 1) W))
  have N5 := Lib.hid (fun W => Gives.tells (delete_nil 0 0 W))
  have N6 := Lib.hid (fun W => Gives.tells (move_nil 0 0 0 W))
  have N7 := Lib.hid (fun W => Gives.tells (len_nil W))
  have N8 := Lib.hid (fun W => Gives.tells (cap_nil W))
  have N9 := Lib.hid (fun W v => Gives.tells (copy_nil v W))
  have N10 := Lib.hid (fun W => Says.tells (clean_nil W))
  have N11 := Lib.hid (fun W => Says.tells (zero_nil W))
  have NA := Lib.hid alive_tells
  obtain ⟨o3, hmk⟩ := make_three
  have KN := Lib.hid (fun W => Gives.tells (new_no n W hn))
  by_cases hn1 : n < 1
  · clear hn
    have H0 : Aside (Stp [] w [] w) := Stp.refl _ _
    go_enter Try.func4, Try.ntmps4
    go_wp2_with fail
    refine (N1.out _).mono ?_
    rintro _ w1 ⟨rfl, s⟩
    have H1 : Aside (Stp [] w [] w1) := by first | exact H0.out.trans s | exact H0.out.trans ((Stp.alloc [] _ _).trans s)
    clear s H0
    go_wp2_with fail
    refine (N2.out _).mono ?_
    rintro _ w2 ⟨rfl, s⟩
    have H2 : Aside (Stp [] w [] w2) := by first | exact H1.out.trans s | exact H1.out.trans ((Stp.alloc [] _ _).trans s)
    clear s H1
    go_wp2_with fail
    refine (N3.out _).mono ?_
    rintro _ w3 ⟨rfl, s⟩
    have H3 : Aside (Stp [] w [] w3) := by first | exact H2.out.trans s | exact H2.out.trans ((Stp.alloc [] _ _).trans s)
    clear s H2
    go_wp2_with fail
    refine (N4.out _ _).mono ?_
    rintro _ w4 ⟨rfl, s⟩
    have H4 : Aside (Stp [] w [] w4) := by first | exact H3.out.trans s | exact H3.out.trans ((Stp.alloc [] _ _).trans s)
    clear s H3
    go_wp2_with fail
    refine (N5.out _).mono ?_
    rintro _ w5 ⟨rfl, s⟩
    have H5 : Aside (Stp [] w [] w5) := by first | exact H4.out.trans s | exact H4.out.trans ((Stp.alloc [] _ _).trans s)
    clear s H4
    go_wp2_with fail
    refine (N6.out _).mono ?_
    rintro _ w6 ⟨rfl, s⟩
    have H6 : Aside (Stp [] w [] w6) := by first | exact H5.out.trans s | exact H5.out.trans ((Stp.alloc [] _ _).trans s)
    clear s H5
    go_wp2_with fail
    refine (N7.out _).mono ?_
    rintro _ w7 ⟨rfl, s⟩
    have H7 : Aside (Stp [] w [] w7) := by first | exact H6.out.trans s | exact H6.out.trans ((Stp.alloc [] _ _).trans s)
    clear s H6
    go_wp2_with fail
    refine (N8.out _).mono ?_
    rintro _ w8 ⟨rfl, s⟩
    have H8 : Aside (Stp [] w [] w8) := by first | exact H7.out.trans s | exact H7.out.trans ((Stp.alloc [] _ _).trans s)
    clear s H7
    go_wp2_with fail
    refine (N9.out _ _).mono ?_
    rintro _ w9 ⟨rfl, s⟩
    have H9 : Aside (Stp [] w [] w9) := by first | exact H8.out.trans s | exact H8.out.trans ((Stp.alloc [] _ _).trans s)
    clear s H8
    go_wp2_with fail
    refine (N10.out _).mono ?_
    rintro _ w10 ⟨rfl, s⟩
    have H10 : Aside (Stp [] w [] w10) := by first | exact H9.out.trans s | exact H9.out.trans ((Stp.alloc [] _ _).trans s)
    clear s H9
    go_wp2_with fail
    refine (N11.out _).mono ?_
    rintro _ w11 ⟨rfl, s⟩
    have H11 : Aside (Stp [] w [] w11) := by first | exact H10.out.trans s | exact H10.out.trans ((Stp.alloc [] _ _).trans s)
    clear s H10
    go_wp2_with fail
    refine (KN.out _).mono ?_
    rintro _ w12 ⟨rfl, s⟩
    have H12 : Aside (Stp [] w [] w12) := by first | exact H11.out.trans s | exact H11.out.trans ((Stp.alloc [] _ _).trans s)
    clear s H11
    go_wp2_with fail
    refine (NA.out _).mono ?_
    rintro _ w13 ⟨rfl, s⟩
    have H13 : Aside (Stp [] w [] w13) := by first | exact H12.out.trans s | exact H12.out.trans ((Stp.alloc [] _ _).trans s)
    clear s H12
    go_wp2
    go_ret
    exact ⟨rfl, H13.out.under⟩
  · have hn2 : 4096 < n := by omega
    clear hn
    have H0 : Aside (Stp [] w [] w) := Stp.refl _ _
    go_enter Try.func4, Try.ntmps4
    go_wp2_with fail
    refine (N1.out _).mono ?_
    rintro _ w1 ⟨rfl, s⟩
    have H1 : Aside (Stp [] w [] w1) := by first | exact H0.out.trans s | exact H0.out.trans ((Stp.alloc [] _ _).trans s)
    clear s H0
    go_wp2_with fail
    refine (N2.out _).mono ?_
    rintro _ w2 ⟨rfl, s⟩
    have H2 : Aside (Stp [] w [] w2) := by first | exact H1.out.trans s | exact H1.out.trans ((Stp.alloc [] _ _).trans s)
    clear s H1
    go_wp2_with fail
    refine (N3.out _).mono ?_
    rintro _ w3 ⟨rfl, s⟩
    have H3 : Aside (Stp [] w [] w3) := by first | exact H2.out.trans s | exact H2.out.trans ((Stp.alloc [] _ _).trans s)
    clear s H2
    go_wp2_with fail
    refine (N4.out _ _).mono ?_
    rintro _ w4 ⟨rfl, s⟩
    have H4 : Aside (Stp [] w [] w4) := by first | exact H3.out.trans s | exact H3.out.trans ((Stp.alloc [] _ _).trans s)
    clear s H3
    go_wp2_with fail
    refine (N5.out _).mono ?_
    rintro _ w5 ⟨rfl, s⟩
    have H5 : Aside (Stp [] w [] w5) := by first | exact H4.out.trans s | exact H4.out.trans ((Stp.alloc [] _ _).trans s)
    clear s H4
    go_wp2_with fail
    refine (N6.out _).mono ?_
    rintro _ w6 ⟨rfl, s⟩
    have H6 : Aside (Stp [] w [] w6) := by first | exact H5.out.trans s | exact H5.out.trans ((Stp.alloc [] _ _).trans s)
    clear s H5
    go_wp2_with fail
    refine (N7.out _).mono ?_
    rintro _ w7 ⟨rfl, s⟩
    have H7 : Aside (Stp [] w [] w7) := by first | exact H6.out.trans s | exact H6.out.trans ((Stp.alloc [] _ _).trans s)
    clear s H6
    go_wp2_with fail
    refine (N8.out _).mono ?_
    rintro _ w8 ⟨rfl, s⟩
    have H8 : Aside (Stp [] w [] w8) := by first | exact H7.out.trans s | exact H7.out.trans ((Stp.alloc [] _ _).trans s)
    clear s H7
    go_wp2_with fail
    refine (N9.out _ _).mono ?_
    rintro _ w9 ⟨rfl, s⟩
    have H9 : Aside (Stp [] w [] w9) := by first | exact H8.out.trans s | exact H8.out.trans ((Stp.alloc [] _ _).trans s)
    clear s H8
    go_wp2_with fail
    refine (N10.out _).mono ?_
    rintro _ w10 ⟨rfl, s⟩
    have H10 : Aside (Stp [] w [] w10) := by first | exact H9.out.trans s | exact H9.out.trans ((Stp.alloc [] _ _).trans s)
    clear s H9
    go_wp2_with fail
    refine (N11.out _).mono ?_
    rintro _ w11 ⟨rfl, s⟩
    have H11 : Aside (Stp [] w [] w11) := by first | exact H10.out.trans s | exact H10.out.trans ((Stp.alloc [] _ _).trans s)
    clear s H10
    go_wp2_with fail
    refine (KN.out _).mono ?_
    rintro _ w12 ⟨rfl, s⟩
    have H12 : Aside (Stp [] w [] w12) := by first | exact H11.out.trans s | exact H11.out.trans ((Stp.alloc [] _ _).trans s)
    clear s H11
    go_wp2_with fail
    refine (NA.out _).mono ?_
    rintro _ w13 ⟨rfl, s⟩
    have H13 : Aside (Stp [] w [] w13) := by first | exact H12.out.trans s | exact H12.out.trans ((Stp.alloc [] _ _).trans s)
    clear s H12
    go_wp2
    go_ret
    exact ⟨rfl, H13.out.under⟩
set_option maxHeartbeats 2000000 in
set_option maxRecDepth 100000 in
theorem none_far (a0 : Option Addr) (cap0 n0 n m : Nat) (x : List UInt8) (w : World) (hx : Bts w a0 x) (hm : x.length = m) (hm1 : m ≤ n) (hm2 : m ≤ cap0) (h1 : 1 ≤ n) (h2 : n ≤ 4096) (hmin : ∀ (w : World) (ts : Array TypeId) (t : TypeId), (Builtin.min_ ts t #[.int .i64 (n0 : Int), .int .i64 (n : Int)]).run Try.prog w = .ok (.int .i64 (m : Int)) w) (i : Int) (hi : i < 0 ∨ (n : Int) ≤ i) : Calls Try.prog 4 #[.int .i64 (n : Int), .int .i64 i, .slice a0 n0 cap0] w (Truth w) := by
  have N1 := Lib.hid (fun W => Gives.tells (wipe_nil W))
  have N2 := Lib.hid (fun W => Gives.tells (at_nil i W))
  have N3 := Lib.hid (fun W => Gives.tells (cell_nil i W))
  have N4 := Lib.hid (fun W p => Gives.tells (insert_nil 0 (.slice p 1 1) W))
  have N5 := Lib.hid (fun W => Gives.tells (delete_nil 0 0 W))
  have N6 := Lib.hid (fun W => Gives.tells (move_nil 0 0 0 W))
  have N7 := Lib.hid (fun W => Gives.tells (len_nil W))
  have N8 := Lib.hid (fun W => Gives.tells (cap_nil W))
  have N9 := Lib.hid (fun W v => Gives.tells (copy_nil v W))
  have N10 := Lib.hid (fun W => Says.tells (clean_nil W))
  have N11 := Lib.hid (fun W => Says.tells (zero_nil W))
  have NA := Lib.hid alive_tells
  obtain ⟨o3, hmk⟩ := make_three
  have n1 : ¬ (n : Int) < 1 := by omega
  have n2 : ¬ (4096 : Int) < (n : Int) := by omega
  have s1 := cut_h a0 n0 cap0 m hm2
  have KN := Lib.hid (fun W => new_run n W h1 h2)
  have HX := Lib.hid hx
  have HM := Lib.hid hm
  clear hx hm
  by_cases i1 : i < 0
  · have HI0 := Lib.hid hi
    clear hi
    have H0 : Aside (Stp [] w [] w) := Stp.refl _ _
    go_enter Try.func4, Try.ntmps4
    go_wp2_with fail
    refine (N1.out _).mono ?_
    rintro _ w1 ⟨rfl, s⟩
    have H1 : Aside (Stp [] w [] w1) := by first | exact H0.out.trans s | exact H0.out.trans ((Stp.alloc [] _ _).trans s)
    clear s H0
    go_wp2_with fail
    refine (N2.out _).mono ?_
    rintro _ w2 ⟨rfl, s⟩
    have H2 : Aside (Stp [] w [] w2) := by first | exact H1.out.trans s | exact H1.out.trans ((Stp.alloc [] _ _).trans s)
    clear s H1
    go_wp2_with fail
    refine (N3.out _).mono ?_
    rintro _ w3 ⟨rfl, s⟩
    have H3 : Aside (Stp [] w [] w3) := by first | exact H2.out.trans s | exact H2.out.trans ((Stp.alloc [] _ _).trans s)
    clear s H2
    go_wp2_with fail
    refine (N4.out _ _).mono ?_
    rintro _ w4 ⟨rfl, s⟩
    have H4 : Aside (Stp [] w [] w4) := by first | exact H3.out.trans s | exact H3.out.trans ((Stp.alloc [] _ _).trans s)
    clear s H3
    go_wp2_with fail
    refine (N5.out _).mono ?_
    rintro _ w5 ⟨rfl, s⟩
    have H5 : Aside (Stp [] w [] w5) := by first | exact H4.out.trans s | exact H4.out.trans ((Stp.alloc [] _ _).trans s)
    clear s H4
    go_wp2_with fail
    refine (N6.out _).mono ?_
    rintro _ w6 ⟨rfl, s⟩
    have H6 : Aside (Stp [] w [] w6) := by first | exact H5.out.trans s | exact H5.out.trans ((Stp.alloc [] _ _).trans s)
    clear s H5
    go_wp2_with fail
    refine (N7.out _).mono ?_
    rintro _ w7 ⟨rfl, s⟩
    have H7 : Aside (Stp [] w [] w7) := by first | exact H6.out.trans s | exact H6.out.trans ((Stp.alloc [] _ _).trans s)
    clear s H6
    go_wp2_with fail
    refine (N8.out _).mono ?_
    rintro _ w8 ⟨rfl, s⟩
    have H8 : Aside (Stp [] w [] w8) := by first | exact H7.out.trans s | exact H7.out.trans ((Stp.alloc [] _ _).trans s)
    clear s H7
    go_wp2_with fail
    refine (N9.out _ _).mono ?_
    rintro _ w9 ⟨rfl, s⟩
    have H9 : Aside (Stp [] w [] w9) := by first | exact H8.out.trans s | exact H8.out.trans ((Stp.alloc [] _ _).trans s)
    clear s H8
    go_wp2_with fail
    refine (N10.out _).mono ?_
    rintro _ w10 ⟨rfl, s⟩
    have H10 : Aside (Stp [] w [] w10) := by first | exact H9.out.trans s | exact H9.out.trans ((Stp.alloc [] _ _).trans s)
    clear s H9
    go_wp2_with fail
    refine (N11.out _).mono ?_
    rintro _ w11 ⟨rfl, s⟩
    have H11 : Aside (Stp [] w [] w11) := by first | exact H10.out.trans s | exact H10.out.trans ((Stp.alloc [] _ _).trans s)
    clear s H10
    go_wp2_with fail
    refine (KN.out _).mono ?_
    rintro _ wn ⟨b, g, rfl, hb, hg, h, s⟩
    have HN : Aside (Ar wn b g n [] ∧ Stp [] w [b, g] wn ∧ w.heap.size ≤ b ∧ w.heap.size ≤ g) := ⟨h, H11.out.trans s, Nat.le_trans H11.out.size hb, Nat.le_trans H11.out.size hg⟩
    have KI := Lib.hid (insert_run h 0 a0 x m cap0 (HX.out.stays HN.out.2.1) (HX.out.apart HN.out.2.2.2) HM.out.symm (Nat.le_refl _) (by simpa using hm1))
    clear KN h s hb hg H11
    go_wp2_with fail
    refine KI.out.mono ?_
    rintro _ wi ⟨rfl, h, s⟩
    replace h := ar_first h
    have HI : Aside (Ar wi b g n x ∧ Stp [] w [] wi) := ⟨h, (HN.out.2.1.trans s).none⟩
    have KA : Hid (Calls Try.prog 28 #[.pointer (some ⟨b, 0, none⟩), .int .i64 i] wi (Tells (.tuple #[.int .u8 0, .int .i64 3]) wi)) := by
      have h : Cl wi b g n x.length (pad n x) := h
      have := Gives.tells (at_no h i (.inl i1))
      show Calls _ _ _ _ _
      simpa only [] using this
    have KC : Hid (∀ w2, Stp [] wi [] w2 → Calls Try.prog 25 #[.pointer (some ⟨b, 0, none⟩), .int .i64 i] w2 (Tells (.tuple #[.int .u8 0, .int .i64 3]) w2)) := by
      intro w2 s2
      have h : Cl w2 b g n x.length (pad n x) := Ar.stays h s2
      have := Gives.tells (cell_no h i (.inl i1))
      simpa only [] using this
    clear KI h s HN
    go_wp2_with fail
    refine KA.out.mono ?_
    rintro _ wa ⟨rfl, s⟩
    have HA : Aside (Stp [] wi [] wa) := s
    clear KA s
    go_wp2_with fail
    refine (KC.out _ HA.out).mono ?_
    rintro _ wc ⟨rfl, s⟩
    have HC2 : Aside (Stp [] w [] wc) := HI.out.2.trans (HA.out.trans s)
    clear KC s HA
    go_wp2_with fail
    refine (NA.out _).mono ?_
    rintro _ wz ⟨rfl, s⟩
    have HZ : Aside (Stp [] w [] wz) := HC2.out.trans s
    clear s
    go_wp2
    go_ret
    exact ⟨rfl, HZ.out.under⟩
  · have i2 : (n : Int) ≤ i := by omega
    clear hi
    have H0 : Aside (Stp [] w [] w) := Stp.refl _ _
    go_enter Try.func4, Try.ntmps4
    go_wp2_with fail
    refine (N1.out _).mono ?_
    rintro _ w1 ⟨rfl, s⟩
    have H1 : Aside (Stp [] w [] w1) := by first | exact H0.out.trans s | exact H0.out.trans ((Stp.alloc [] _ _).trans s)
    clear s H0
    go_wp2_with fail
    refine (N2.out _).mono ?_
    rintro _ w2 ⟨rfl, s⟩
    have H2 : Aside (Stp [] w [] w2) := by first | exact H1.out.trans s | exact H1.out.trans ((Stp.alloc [] _ _).trans s)
    clear s H1
    go_wp2_with fail
    refine (N3.out _).mono ?_
    rintro _ w3 ⟨rfl, s⟩
    have H3 : Aside (Stp [] w [] w3) := by first | exact H2.out.trans s | exact H2.out.trans ((Stp.alloc [] _ _).trans s)
    clear s H2
    go_wp2_with fail
    refine (N4.out _ _).mono ?_
    rintro _ w4 ⟨rfl, s⟩
    have H4 : Aside (Stp [] w [] w4) := by first | exact H3.out.trans s | exact H3.out.trans ((Stp.alloc [] _ _).trans s)
    clear s H3
    go_wp2_with fail
    refine (N5.out _).mono ?_
    rintro _ w5 ⟨rfl, s⟩
    have H5 : Aside (Stp [] w [] w5) := by first | exact H4.out.trans s | exact H4.out.trans ((Stp.alloc [] _ _).trans s)
    clear s H4
    go_wp2_with fail
    refine (N6.out _).mono ?_
    rintro _ w6 ⟨rfl, s⟩
    have H6 : Aside (Stp [] w [] w6) := by first | exact H5.out.trans s | exact H5.out.trans ((Stp.alloc [] _ _).trans s)
    clear s H5
    go_wp2_with fail
    refine (N7.out _).mono ?_
    rintro _ w7 ⟨rfl, s⟩
    have H7 : Aside (Stp [] w [] w7) := by first | exact H6.out.trans s | exact H6.out.trans ((Stp.alloc [] _ _).trans s)
    clear s H6
    go_wp2_with fail
    refine (N8.out _).mono ?_
    rintro _ w8 ⟨rfl, s⟩
    have H8 : Aside (Stp [] w [] w8) := by first | exact H7.out.trans s | exact H7.out.trans ((Stp.alloc [] _ _).trans s)
    clear s H7
    go_wp2_with fail
    refine (N9.out _ _).mono ?_
    rintro _ w9 ⟨rfl, s⟩
    have H9 : Aside (Stp [] w [] w9) := by first | exact H8.out.trans s | exact H8.out.trans ((Stp.alloc [] _ _).trans s)
    clear s H8
    go_wp2_with fail
    refine (N10.out _).mono ?_
    rintro _ w10 ⟨rfl, s⟩
    have H10 : Aside (Stp [] w [] w10) := by first | exact H9.out.trans s | exact H9.out.trans ((Stp.alloc [] _ _).trans s)
    clear s H9
    go_wp2_with fail
    refine (N11.out _).mono ?_
    rintro _ w11 ⟨rfl, s⟩
    have H11 : Aside (Stp [] w [] w11) := by first | exact H10.out.trans s | exact H10.out.trans ((Stp.alloc [] _ _).trans s)
    clear s H10
    go_wp2_with fail
    refine (KN.out _).mono ?_
    rintro _ wn ⟨b, g, rfl, hb, hg, h, s⟩
    have HN : Aside (Ar wn b g n [] ∧ Stp [] w [b, g] wn ∧ w.heap.size ≤ b ∧ w.heap.size ≤ g) := ⟨h, H11.out.trans s, Nat.le_trans H11.out.size hb, Nat.le_trans H11.out.size hg⟩
    have KI := Lib.hid (insert_run h 0 a0 x m cap0 (HX.out.stays HN.out.2.1) (HX.out.apart HN.out.2.2.2) HM.out.symm (Nat.le_refl _) (by simpa using hm1))
    clear KN h s hb hg H11
    go_wp2_with fail
    refine KI.out.mono ?_
    rintro _ wi ⟨rfl, h, s⟩
    replace h := ar_first h
    have HI : Aside (Ar wi b g n x ∧ Stp [] w [] wi) := ⟨h, (HN.out.2.1.trans s).none⟩
    have KA : Hid (Calls Try.prog 28 #[.pointer (some ⟨b, 0, none⟩), .int .i64 i] wi (Tells (.tuple #[.int .u8 0, .int .i64 3]) wi)) := by
      have h : Cl wi b g n x.length (pad n x) := h
      have := Gives.tells (at_no h i (by rw [HM.out]; omega))
      show Calls _ _ _ _ _
      simpa only [] using this
    have KC : Hid (∀ w2, Stp [] wi [] w2 → Calls Try.prog 25 #[.pointer (some ⟨b, 0, none⟩), .int .i64 i] w2 (Tells (.tuple #[.int .u8 0, .int .i64 3]) w2)) := by
      intro w2 s2
      have h : Cl w2 b g n x.length (pad n x) := Ar.stays h s2
      have := Gives.tells (cell_no h i (.inr i2))
      simpa only [] using this
    clear KI h s HN
    go_wp2_with fail
    refine KA.out.mono ?_
    rintro _ wa ⟨rfl, s⟩
    have HA : Aside (Stp [] wi [] wa) := s
    clear KA s
    go_wp2_with fail
    refine (KC.out _ HA.out).mono ?_
    rintro _ wc ⟨rfl, s⟩
    have HC2 : Aside (Stp [] w [] wc) := HI.out.2.trans (HA.out.trans s)
    clear KC s HA
    go_wp2_with fail
    refine (NA.out _).mono ?_
    rintro _ wz ⟨rfl, s⟩
    have HZ : Aside (Stp [] w [] wz) := HC2.out.trans s
    clear s
    go_wp2
    go_ret
    exact ⟨rfl, HZ.out.under⟩
set_option maxHeartbeats 2000000 in
set_option maxRecDepth 100000 in
theorem none_room (a0 : Option Addr) (cap0 n0 n m : Nat) (x : List UInt8) (w : World) (hx : Bts w a0 x) (hm : x.length = m) (hm1 : m ≤ n) (hm2 : m ≤ cap0) (h1 : 1 ≤ n) (h2 : n ≤ 4096) (hmin : ∀ (w : World) (ts : Array TypeId) (t : TypeId), (Builtin.min_ ts t #[.int .i64 (n0 : Int), .int .i64 (n : Int)]).run Try.prog w = .ok (.int .i64 (m : Int)) w) (j : Nat) (i : Int) (hj : i = (j : Int)) (hi : m ≤ j) (hi2 : j < n) : Calls Try.prog 4 #[.int .i64 (n : Int), .int .i64 i, .slice a0 n0 cap0] w (Truth w) := by
  have N1 := Lib.hid (fun W => Gives.tells (wipe_nil W))
  have N2 := Lib.hid (fun W => Gives.tells (at_nil i W))
  have N3 := Lib.hid (fun W => Gives.tells (cell_nil i W))
  have N4 := Lib.hid (fun W p => Gives.tells (insert_nil 0 (.slice p 1 1) W))
  have N5 := Lib.hid (fun W => Gives.tells (delete_nil 0 0 W))
  have N6 := Lib.hid (fun W => Gives.tells (move_nil 0 0 0 W))
  have N7 := Lib.hid (fun W => Gives.tells (len_nil W))
  have N8 := Lib.hid (fun W => Gives.tells (cap_nil W))
  have N9 := Lib.hid (fun W v => Gives.tells (copy_nil v W))
  have N10 := Lib.hid (fun W => Says.tells (clean_nil W))
  have N11 := Lib.hid (fun W => Says.tells (zero_nil W))
  have NA := Lib.hid alive_tells
  obtain ⟨o3, hmk⟩ := make_three
  subst hj
  have i1 : ¬ (j : Int) < 0 := by omega
  have i2 : ¬ (n : Int) ≤ (j : Int) := by omega
  have i3 : (m : Int) ≤ (j : Int) := by omega
  have n1 : ¬ (n : Int) < 1 := by omega
  have n2 : ¬ (4096 : Int) < (n : Int) := by omega
  have s1 := cut_h a0 n0 cap0 m hm2
  have KN := Lib.hid (fun W => new_run n W h1 h2)
  have HX := Lib.hid hx
  have HM := Lib.hid hm
  have pz : Hid (bval ((pad n x)[j]!) = .int .u8 0) := by
    have e : (pad n x)[j]! = 0 := by
      rw [getElem!_pos _ _ (by rw [pad_length (by omega)]; exact hi2)]
      unfold pad
      rw [List.getElem_append_right (by omega)]
      simp
    show _ = _
    rw [e]
    rfl
  clear hx hm
  have H0 : Aside (Stp [] w [] w) := Stp.refl _ _
  go_enter Try.func4, Try.ntmps4
  go_wp2_with fail
  refine (N1.out _).mono ?_
  rintro _ w1 ⟨rfl, s⟩
  have H1 : Aside (Stp [] w [] w1) := by first | exact H0.out.trans s | exact H0.out.trans ((Stp.alloc [] _ _).trans s)
  clear s H0
  go_wp2_with fail
  refine (N2.out _).mono ?_
  rintro _ w2 ⟨rfl, s⟩
  have H2 : Aside (Stp [] w [] w2) := by first | exact H1.out.trans s | exact H1.out.trans ((Stp.alloc [] _ _).trans s)
  clear s H1
  go_wp2_with fail
  refine (N3.out _).mono ?_
  rintro _ w3 ⟨rfl, s⟩
  have H3 : Aside (Stp [] w [] w3) := by first | exact H2.out.trans s | exact H2.out.trans ((Stp.alloc [] _ _).trans s)
  clear s H2
  go_wp2_with fail
  refine (N4.out _ _).mono ?_
  rintro _ w4 ⟨rfl, s⟩
  have H4 : Aside (Stp [] w [] w4) := by first | exact H3.out.trans s | exact H3.out.trans ((Stp.alloc [] _ _).trans s)
  clear s H3
  go_wp2_with fail
  refine (N5.out _).mono ?_
  rintro _ w5 ⟨rfl, s⟩
  have H5 : Aside (Stp [] w [] w5) := by first | exact H4.out.trans s | exact H4.out.trans ((Stp.alloc [] _ _).trans s)
  clear s H4
  go_wp2_with fail
  refine (N6.out _).mono ?_
  rintro _ w6 ⟨rfl, s⟩
  have H6 : Aside (Stp [] w [] w6) := by first | exact H5.out.trans s | exact H5.out.trans ((Stp.alloc [] _ _).trans s)
  clear s H5
  go_wp2_with fail
  refine (N7.out _).mono ?_
  rintro _ w7 ⟨rfl, s⟩
  have H7 : Aside (Stp [] w [] w7) := by first | exact H6.out.trans s | exact H6.out.trans ((Stp.alloc [] _ _).trans s)
  clear s H6
  go_wp2_with fail
  refine (N8.out _).mono ?_
  rintro _ w8 ⟨rfl, s⟩
  have H8 : Aside (Stp [] w [] w8) := by first | exact H7.out.trans s | exact H7.out.trans ((Stp.alloc [] _ _).trans s)
  clear s H7
  go_wp2_with fail
  refine (N9.out _ _).mono ?_
  rintro _ w9 ⟨rfl, s⟩
  have H9 : Aside (Stp [] w [] w9) := by first | exact H8.out.trans s | exact H8.out.trans ((Stp.alloc [] _ _).trans s)
  clear s H8
  go_wp2_with fail
  refine (N10.out _).mono ?_
  rintro _ w10 ⟨rfl, s⟩
  have H10 : Aside (Stp [] w [] w10) := by first | exact H9.out.trans s | exact H9.out.trans ((Stp.alloc [] _ _).trans s)
  clear s H9
  go_wp2_with fail
  refine (N11.out _).mono ?_
  rintro _ w11 ⟨rfl, s⟩
  have H11 : Aside (Stp [] w [] w11) := by first | exact H10.out.trans s | exact H10.out.trans ((Stp.alloc [] _ _).trans s)
  clear s H10
  go_wp2_with fail
  refine (KN.out _).mono ?_
  rintro _ wn ⟨b, g, rfl, hb, hg, h, s⟩
  have HN : Aside (Ar wn b g n [] ∧ Stp [] w [b, g] wn ∧ w.heap.size ≤ b ∧ w.heap.size ≤ g) := ⟨h, H11.out.trans s, Nat.le_trans H11.out.size hb, Nat.le_trans H11.out.size hg⟩
  have KI := Lib.hid (insert_run h 0 a0 x m cap0 (HX.out.stays HN.out.2.1) (HX.out.apart HN.out.2.2.2) HM.out.symm (Nat.le_refl _) (by simpa using hm1))
  clear KN h s hb hg H11
  go_wp2_with fail
  refine KI.out.mono ?_
  rintro _ wi ⟨rfl, h, s⟩
  replace h := ar_first h
  have HI : Aside (Ar wi b g n x ∧ Stp [] w [] wi) := ⟨h, (HN.out.2.1.trans s).none⟩
  have KA : Hid (Calls Try.prog 28 #[.pointer (some ⟨b, 0, none⟩), .int .i64 (j : Int)] wi (Tells (.tuple #[.int .u8 0, .int .i64 3]) wi)) := by
    have h : Cl wi b g n x.length (pad n x) := h
    have := Gives.tells (at_no h (j : Int) (by rw [HM.out]; omega))
    show Calls _ _ _ _ _
    simpa only [pz.out] using this
  have KC : Hid (∀ w2, Stp [] wi [] w2 → Calls Try.prog 25 #[.pointer (some ⟨b, 0, none⟩), .int .i64 (j : Int)] w2 (Tells (.tuple #[.int .u8 0, .int .i64 0]) w2)) := by
    intro w2 s2
    have h : Cl w2 b g n x.length (pad n x) := Ar.stays h s2
    have := Gives.tells (cell_run h j hi2)
    simpa only [pz.out] using this
  clear KI h s HN
  go_wp2_with fail
  refine KA.out.mono ?_
  rintro _ wa ⟨rfl, s⟩
  have HA : Aside (Stp [] wi [] wa) := s
  clear KA s
  go_wp2_with fail
  refine (KC.out _ HA.out).mono ?_
  rintro _ wc ⟨rfl, s⟩
  have HC2 : Aside (Stp [] w [] wc) := HI.out.2.trans (HA.out.trans s)
  clear KC s HA
  go_wp2_with fail
  refine (NA.out _).mono ?_
  rintro _ wz ⟨rfl, s⟩
  have HZ : Aside (Stp [] w [] wz) := HC2.out.trans s
  clear s
  go_wp2
  go_ret
  exact ⟨rfl, HZ.out.under⟩
set_option maxHeartbeats 2000000 in
set_option maxRecDepth 100000 in
theorem none_in (a0 : Option Addr) (cap0 n0 n m : Nat) (x : List UInt8) (w : World) (hx : Bts w a0 x) (hm : x.length = m) (hm1 : m ≤ n) (hm2 : m ≤ cap0) (h1 : 1 ≤ n) (h2 : n ≤ 4096) (hmin : ∀ (w : World) (ts : Array TypeId) (t : TypeId), (Builtin.min_ ts t #[.int .i64 (n0 : Int), .int .i64 (n : Int)]).run Try.prog w = .ok (.int .i64 (m : Int)) w) (j : Nat) (i : Int) (hj : i = (j : Int)) (hi : j < m) (y : Int) (hy : y = ((x[j]!).toNat : Int)) : Calls Try.prog 4 #[.int .i64 (n : Int), .int .i64 i, .slice a0 n0 cap0] w (Truth w) := by
  have N1 := Lib.hid (fun W => Gives.tells (wipe_nil W))
  have N2 := Lib.hid (fun W => Gives.tells (at_nil i W))
  have N3 := Lib.hid (fun W => Gives.tells (cell_nil i W))
  have N4 := Lib.hid (fun W p => Gives.tells (insert_nil 0 (.slice p 1 1) W))
  have N5 := Lib.hid (fun W => Gives.tells (delete_nil 0 0 W))
  have N6 := Lib.hid (fun W => Gives.tells (move_nil 0 0 0 W))
  have N7 := Lib.hid (fun W => Gives.tells (len_nil W))
  have N8 := Lib.hid (fun W => Gives.tells (cap_nil W))
  have N9 := Lib.hid (fun W v => Gives.tells (copy_nil v W))
  have N10 := Lib.hid (fun W => Says.tells (clean_nil W))
  have N11 := Lib.hid (fun W => Says.tells (zero_nil W))
  have NA := Lib.hid alive_tells
  obtain ⟨o3, hmk⟩ := make_three
  subst hj
  have i1 : ¬ (j : Int) < 0 := by omega
  have i2 : ¬ (n : Int) ≤ (j : Int) := by omega
  have i3 : ¬ (m : Int) ≤ (j : Int) := by omega
  have i4 : (j : Int) < (m : Int) := by omega
  have n1 : ¬ (n : Int) < 1 := by omega
  have n2 : ¬ (4096 : Int) < (n : Int) := by omega
  have s1 := cut_h a0 n0 cap0 m hm2
  have KN := Lib.hid (fun W => new_run n W h1 h2)
  have HX := Lib.hid hx
  have HM := Lib.hid hm
  have pz : Hid (bval ((pad n x)[j]!) = .int .u8 y) := by
    have e : (pad n x)[j]! = x[j]! := by
      rw [getElem!_pos _ _ (by rw [pad_length (by omega)]; omega), getElem!_pos x j (by omega)]
      unfold pad
      rw [List.getElem_append_left (by omega)]
    show _ = _
    rw [e, hy]
    rfl
  have HC : Hid (∃ b off, a0 = some ⟨b, off, none⟩ ∧ w.cell? ⟨b, off + j, none⟩ = some (.int .u8 y) ∧ b < w.heap.size) := by
    obtain ⟨b, off, e, hc⟩ := hx.at (i := j) (by omega)
    exact ⟨b, off, e, by rw [hy]; exact hc, block_lt_of_cell hc⟩
  clear hy
  clear hx hm
  have H0 : Aside (Stp [] w [] w) := Stp.refl _ _
  go_enter Try.func4, Try.ntmps4
  go_wp2_with fail
  refine (N1.out _).mono ?_
  rintro _ w1 ⟨rfl, s⟩
  have H1 : Aside (Stp [] w [] w1) := by first | exact H0.out.trans s | exact H0.out.trans ((Stp.alloc [] _ _).trans s)
  clear s H0
  go_wp2_with fail
  refine (N2.out _).mono ?_
  rintro _ w2 ⟨rfl, s⟩
  have H2 : Aside (Stp [] w [] w2) := by first | exact H1.out.trans s | exact H1.out.trans ((Stp.alloc [] _ _).trans s)
  clear s H1
  go_wp2_with fail
  refine (N3.out _).mono ?_
  rintro _ w3 ⟨rfl, s⟩
  have H3 : Aside (Stp [] w [] w3) := by first | exact H2.out.trans s | exact H2.out.trans ((Stp.alloc [] _ _).trans s)
  clear s H2
  go_wp2_with fail
  refine (N4.out _ _).mono ?_
  rintro _ w4 ⟨rfl, s⟩
  have H4 : Aside (Stp [] w [] w4) := by first | exact H3.out.trans s | exact H3.out.trans ((Stp.alloc [] _ _).trans s)
  clear s H3
  go_wp2_with fail
  refine (N5.out _).mono ?_
  rintro _ w5 ⟨rfl, s⟩
  have H5 : Aside (Stp [] w [] w5) := by first | exact H4.out.trans s | exact H4.out.trans ((Stp.alloc [] _ _).trans s)
  clear s H4
  go_wp2_with fail
  refine (N6.out _).mono ?_
  rintro _ w6 ⟨rfl, s⟩
  have H6 : Aside (Stp [] w [] w6) := by first | exact H5.out.trans s | exact H5.out.trans ((Stp.alloc [] _ _).trans s)
  clear s H5
  go_wp2_with fail
  refine (N7.out _).mono ?_
  rintro _ w7 ⟨rfl, s⟩
  have H7 : Aside (Stp [] w [] w7) := by first | exact H6.out.trans s | exact H6.out.trans ((Stp.alloc [] _ _).trans s)
  clear s H6
  go_wp2_with fail
  refine (N8.out _).mono ?_
  rintro _ w8 ⟨rfl, s⟩
  have H8 : Aside (Stp [] w [] w8) := by first | exact H7.out.trans s | exact H7.out.trans ((Stp.alloc [] _ _).trans s)
  clear s H7
  go_wp2_with fail
  refine (N9.out _ _).mono ?_
  rintro _ w9 ⟨rfl, s⟩
  have H9 : Aside (Stp [] w [] w9) := by first | exact H8.out.trans s | exact H8.out.trans ((Stp.alloc [] _ _).trans s)
  clear s H8
  go_wp2_with fail
  refine (N10.out _).mono ?_
  rintro _ w10 ⟨rfl, s⟩
  have H10 : Aside (Stp [] w [] w10) := by first | exact H9.out.trans s | exact H9.out.trans ((Stp.alloc [] _ _).trans s)
  clear s H9
  go_wp2_with fail
  refine (N11.out _).mono ?_
  rintro _ w11 ⟨rfl, s⟩
  have H11 : Aside (Stp [] w [] w11) := by first | exact H10.out.trans s | exact H10.out.trans ((Stp.alloc [] _ _).trans s)
  clear s H10
  go_wp2_with fail
  refine (KN.out _).mono ?_
  rintro _ wn ⟨b, g, rfl, hb, hg, h, s⟩
  have HN : Aside (Ar wn b g n [] ∧ Stp [] w [b, g] wn ∧ w.heap.size ≤ b ∧ w.heap.size ≤ g) := ⟨h, H11.out.trans s, Nat.le_trans H11.out.size hb, Nat.le_trans H11.out.size hg⟩
  have KI := Lib.hid (insert_run h 0 a0 x m cap0 (HX.out.stays HN.out.2.1) (HX.out.apart HN.out.2.2.2) HM.out.symm (Nat.le_refl _) (by simpa using hm1))
  clear KN h s hb hg H11
  go_wp2_with fail
  refine KI.out.mono ?_
  rintro _ wi ⟨rfl, h, s⟩
  replace h := ar_first h
  have HI : Aside (Ar wi b g n x ∧ Stp [] w [] wi) := ⟨h, (HN.out.2.1.trans s).none⟩
  have KA : Hid (Calls Try.prog 28 #[.pointer (some ⟨b, 0, none⟩), .int .i64 (j : Int)] wi (Tells (.tuple #[.int .u8 y, .int .i64 0]) wi)) := by
    have h : Cl wi b g n x.length (pad n x) := h
    have := Gives.tells (at_run h j (by rw [HM.out]; omega))
    show Calls _ _ _ _ _
    simpa only [pz.out] using this
  have KC : Hid (∀ w2, Stp [] wi [] w2 → Calls Try.prog 25 #[.pointer (some ⟨b, 0, none⟩), .int .i64 (j : Int)] w2 (Tells (.tuple #[.int .u8 y, .int .i64 0]) w2)) := by
    intro w2 s2
    have h : Cl w2 b g n x.length (pad n x) := Ar.stays h s2
    have := Gives.tells (cell_run h j (by omega))
    simpa only [pz.out] using this
  clear KI h s HN
  go_wp2_with fail
  refine KA.out.mono ?_
  rintro _ wa ⟨rfl, s⟩
  have HA : Aside (Stp [] wi [] wa) := s
  clear KA s
  go_wp2_with fail
  refine (KC.out _ HA.out).mono ?_
  rintro _ wc ⟨rfl, s⟩
  have HC2 : Aside (Stp [] w [] wc) := HI.out.2.trans (HA.out.trans s)
  clear KC s HA
  go_wp2_with fail
  refine (NA.out _).mono ?_
  rintro _ wz ⟨rfl, s⟩
  have HZ : Aside (Stp [] w [] wz) := HC2.out.trans s
  clear s
  obtain ⟨ab, off, rfl, hc, hb⟩ := HC.out
  have hcz : wz.cell? ⟨ab, off + j, none⟩ = some (.int .u8 y) := (HZ.out.cell (a := ⟨ab, off + j, none⟩) hb (fun h => by cases h)).trans hc
  clear hc
  go_wp2
  go_ret
  exact ⟨rfl, HZ.out.under⟩

theorem none_walk (n i : Int) (a0 : Option Addr) (cap0 : Nat) (l0 : List UInt8) (w : World) (hx : Bts w a0 l0) (hc : l0.length ≤ cap0) :
    Calls Try.prog 4 #[.int .i64 n, .int .i64 i, .slice a0 l0.length cap0] w (Truth w) := by
  by_cases hn : n < 1 ∨ 4096 < n
  · exact none_no n i _ w hn
  · obtain ⟨N, rfl⟩ : ∃ N : Nat, n = (N : Int) := ⟨n.toNat, by omega⟩
    obtain ⟨m, hm⟩ : ∃ m, m = min l0.length N := ⟨_, rfl⟩
    have hmin : ∀ (w : World) (ts : Array TypeId) (t : TypeId), (Builtin.min_ ts t #[.int .i64 (l0.length : Int), .int .i64 (N : Int)]).run Try.prog w = .ok (.int .i64 (m : Int)) w := fun w ts t => by
      rw [run_min_int2]
      by_cases h : (N : Int) < (l0.length : Int)
      · rw [if_pos h, show m = N by omega]
      · rw [if_neg h, show m = l0.length by omega]
    have hx' : Bts w a0 (l0.take m) := Bts.head (M' := l0.drop m) (by rw [List.take_append_drop]; exact hx)
    have hl : (l0.take m).length = m := by rw [List.length_take]; omega
    by_cases hi : i < 0 ∨ (N : Int) ≤ i
    · exact none_far a0 cap0 _ N m (l0.take m) w hx' hl (by omega) (by omega) (by omega) (by omega) hmin i hi
    · obtain ⟨j, hj⟩ : ∃ j : Nat, i = (j : Int) := ⟨i.toNat, by omega⟩
      by_cases hjm : j < m
      · exact none_in a0 cap0 _ N m (l0.take m) w hx' hl (by omega) (by omega) (by omega) (by omega) hmin j i hj hjm _ rfl
      · exact none_room a0 cap0 _ N m (l0.take m) w hx' hl (by omega) (by omega) (by omega) (by omega) hmin j i hj (by omega) (by omega)
end Go.Proofs.Ytkkfpbnlhgnchaa
