/-
  The document's Render.
-/
import Derived.Test.YtjenbhaaahpliaaDoorRChk
import Derived.Test.YtjenbhaaahpliaaDoorRSt
import Derived.Test.YtjenbhaaahpliaaDoorRDec
import Derived.Test.YtjenbhaaahpliaaDoorRen
namespace Go.Proofs.YtjenbhaaahpliaaDoor
open Go.RowKit Go.Lib
set_option linter.unusedVariables false

theorem stars_snoc (l : List UInt8) (i : Nat) : st (13 :: l ++ List.replicate i 42) ++ (⟨#[42]⟩ : ByteArray) = st (13 :: l ++ List.replicate (i + 1) 42) := by
  rw [List.replicate_succ', ← List.append_assoc]
  exact st_append _ [42]
set_option maxHeartbeats 2000000 in
set_option maxRecDepth 100000 in
theorem rrender_run (l : List UInt8) (m r c a : Int) (w : World) (hl : l.length ≤ 10000) : Calls Tryd.prog 10 #[askv l m r, .int .i64 c, .int .i64 a] w (Tells (.tuple #[.string (st (renL l m r c a)), .int .i64 (renN l m r c a : Int)]) w) := by
  have hb := heap_alloc_new w (.cells #[.string (st l), .int .i64 m, .int .i64 r] 23)
  have s0 : Stp [] w [] (w.alloc (.cells #[.string (st l), .int .i64 m, .int .i64 r] 23)) := Stp.alloc _ _ _
  have KC : Hid (∀ W, Calls Tryd.prog 12 #[.agg #[.string (st l), .int .i64 m, .int .i64 r]] W (Tells (.int .i64 (chkN l m r : Int)) W)) := Lib.hid fun W => rcheck_run l m r W (by omega)
  have KI := Lib.hid (fun W => rok_run m c a W)
  have KS := Lib.hid (fun W => rstars_run m c W)
  have KP := Lib.hid (fun W => rplace_run m c a W)
  have hsz := st_size l
  have c0 := cell_of_row _ w.heap.size 0 _ _ _ hb
  have c1 := cell_of_row _ w.heap.size 1 _ _ _ hb
  have c2 := cell_of_row _ w.heap.size 2 _ _ _ hb
  simp only [List.getElem?_toArray, List.getElem?_cons_zero, List.getElem?_cons_succ] at c0 c1 c2
  have H0 := Lib.hid (And.intro s0 hb)
  clear hb s0
  obtain ⟨k, hk⟩ : ∃ k, k = chkN l m r := ⟨_, rfl⟩
  obtain ⟨L, hL⟩ : ∃ L, L = renL l m r c a := ⟨_, rfl⟩
  obtain ⟨n, hn⟩ : ∃ n, n = renN l m r c a := ⟨_, rfl⟩
  rw [← hL, ← hn]
  rw [← hk] at KC
  have HK := Lib.hid (And.intro hk (And.intro hL hn))
  have hmk : k = 0 → mok m = true := fun h => by
    rw [h] at hk
    unfold chkN at hk
    cases hm : mok m with
    | true => rfl
    | false =>
      rw [hm] at hk
      split at hk
      · omega
      · split at hk
        · omega
        · simp at hk
  have HM := Lib.hid hmk
  clear hk hL hn hmk
  unfold askv
  go_enter Tryd.func10, Tryd.ntmps10
  go_wp2_with fail
  generalize w.alloc (.cells #[.string (st l), .int .i64 m, .int .i64 r] 23) = w0 at *
  refine (KC.out _).mono ?_
  rintro _ w1 ⟨rfl, s1⟩
  have hb1 := (s1.block w.heap.size (Array.getElem?_eq_some_iff.1 H0.out.2).1 (by simp)).trans H0.out.2
  have S1 := Lib.hid (H0.out.1.trans s1)
  clear c0 c1 c2 s1 H0 KC
  have c0 := cell_of_row _ w.heap.size 0 _ _ _ hb1
  have c1 := cell_of_row _ w.heap.size 1 _ _ _ hb1
  simp only [List.getElem?_toArray, List.getElem?_cons_zero, List.getElem?_cons_succ] at c0 c1
  clear hb1
  by_cases hk : ¬ k = 0
  · have hd : ((k : Int) != 0) = true := by rw [bne_iff_ne]; omega
    have e1 : n = k := by rw [HK.out.2.2, HK.out.1]; unfold renN; rw [if_neg (by rw [← HK.out.1]; exact hk)]
    have e2 : L = [] := by rw [HK.out.2.1]; unfold renL; rw [← HK.out.2.2, e1, if_neg hk]
    have HE := Lib.hid (And.intro e1 e2)
    clear e1 e2 hk
    go_wp2
    go_ret2
    rw [HE.out.1, HE.out.2]
    exact ⟨rfl, S1.out⟩
  obtain rfl : k = 0 := by omega
  clear hk
  have hm := HM.out rfl
  rw [hm, Bool.true_and] at KI
  have HMM := Lib.hid hm
  clear hm
  cases hr : rng c a with
  | false =>
    rw [hr] at KI
    have e1 : n = 3 := by rw [HK.out.2.2]; unfold renN; rw [← HK.out.1, hr]; rfl
    have e2 : L = [] := by rw [HK.out.2.1]; unfold renL; rw [← HK.out.2.2, e1, if_neg (by omega)]
    have HE := Lib.hid (And.intro e1 e2)
    clear e1 e2 hr
    go_wp2_with fail
    refine (KI.out _).mono ?_
    rintro _ _ ⟨rfl, rfl⟩
    go_wp2
    go_ret2
    rw [HE.out.1, HE.out.2]
    exact ⟨rfl, S1.out⟩
  | true =>
    rw [hr] at KI
    have hsb := stN_bd m c
    have hpb := plN_bd m c a hr
    obtain ⟨s, hs⟩ : ∃ s : Nat, stN m c = (s : Int) := ⟨(stN m c).toNat, by omega⟩
    obtain ⟨p, hp⟩ : ∃ p : Nat, plN m c a = (p : Int) := ⟨(plN m c a).toNat, by omega⟩
    rw [hs] at KS hsb
    rw [hp] at KP
    rw [hs, hp] at hpb
    have hs1 : s ≤ 1024 := by omega
    have hps : p ≤ s := by omega
    obtain ⟨b, hb⟩ : ∃ b, b = s - p := ⟨_, rfl⟩
    have hsub : IntKind.i64.wrap ((s : Int) - (p : Int)) = (b : Int) := by rw [IntKind.wrap_i64]; omega
    have e1 : n = 0 := by rw [HK.out.2.2]; unfold renN; rw [← HK.out.1, hr]; rfl
    have e2 : L = lineL l s b := by
      rw [HK.out.2.1]
      unfold renL
      rw [← HK.out.2.2, e1, if_pos rfl, hs, hp]
      congr 1
      omega
    have HE := Lib.hid (And.intro e1 (And.intro e2 hb))
    have hb1 : b ≤ 1024 := by omega
    clear e1 e2 hr hsb hpb hs hp hb
    have e13 : (⟨#[13]⟩ : ByteArray) ++ st l = st (13 :: l ++ List.replicate 0 42) := by rw [List.replicate_zero, List.append_nil]; exact st_append [13] l
    obtain ⟨P, hP⟩ : ∃ P : Nat → List UInt8, P = fun i => 13 :: l ++ List.replicate i 42 := ⟨_, rfl⟩
    have hP0 : ∀ i, P i = 13 :: l ++ List.replicate i 42 := fun i => by rw [hP]
    have hcat : ∀ i, st (P i) ++ (⟨#[42]⟩ : ByteArray) = st (P (i + 1)) := fun i => by rw [hP0, hP0]; exact stars_snoc l i
    have hPs : ∀ i, i ≤ 1024 → (st (P i)).size ≤ 12000 := fun i hi => by rw [st_size, hP0]; simp; omega
    rw [← hP0] at e13
    have HP := Lib.hid (And.intro hP0 (And.intro hcat hPs))
    clear hP hP0 hcat hPs
    go_wp2_with fail
    refine (KI.out _).mono ?_
    rintro _ wq ⟨rfl, hw⟩
    obtain rfl : w1 = wq := hw.symm
    go_wp2_with fail
    refine (KS.out _).mono ?_
    rintro _ wq ⟨rfl, hw⟩
    obtain rfl : w1 = wq := hw.symm
    go_wp2_with fail
    go_loopg [9, 11] (s + 1) (fun gk v9 v11 wr => ∃ i : Nat, v9 = .string (st (P i)) ∧ v11 = .int .i64 (i : Int) ∧ i ≤ s ∧ s - i < gk ∧ wr = w1)
    case atStart => exact ⟨0, rfl, rfl, by omega, by omega, rfl⟩
    case round =>
      obtain ⟨i, rfl, rfl, hi, hg, rfl⟩ := hrel
      by_cases hlt : i < s
      · have hltz : (i : Int) < (s : Int) := by omega
        have hc := HP.out.2.1 i
        have hz := HP.out.2.2 i (by omega)
        go_wp2_with fail
        go_roundg (s - (i + 1) + 1)
        case measure => omega
        case rel => exact ⟨i + 1, rfl, by go_num, by omega, by omega, rfl⟩
      · have hltz : ¬ (i : Int) < (s : Int) := by omega
        obtain rfl : i = s := by omega
        have hz := HP.out.2.2 i (by omega)
        obtain ⟨Q0, hQ0⟩ : ∃ Q, Q = P i ++ [27, 91, 75] := ⟨_, rfl⟩
        have eB : st (P i) ++ (⟨#[27, 91, 75]⟩ : ByteArray) = st Q0 := by rw [hQ0]; exact st_append _ [27, 91, 75]
        have y4 : (st Q0).size ≤ 13000 := by rw [st_size] at hz ⊢; rw [hQ0]; simp; omega
        have HQ0 := Lib.hid (show lineL l i b = Q0 ++ (if b = 0 then [] else [27, 91] ++ dig 10 b ++ [68]) by rw [hQ0, HP.out.1]; rfl)
        clear hQ0
        go_wp2_with fail
        refine (KP.out _).mono ?_
        rintro _ _ ⟨rfl, rfl⟩
        by_cases h0 : 0 < b
        · have hbz : (0 : Int) < (b : Int) := by omega
          obtain ⟨Q1, hQ1⟩ : ∃ Q, Q = dig 10 b := ⟨_, rfl⟩
          obtain ⟨Q2, hQ2⟩ : ∃ Q, Q = Q0 ++ [27, 91] := ⟨_, rfl⟩
          obtain ⟨Q3, hQ3⟩ : ∃ Q, Q = Q2 ++ Q1 := ⟨_, rfl⟩
          obtain ⟨Q4, hQ4⟩ : ∃ Q, Q = Q3 ++ [68] := ⟨_, rfl⟩
          have hq := dig10_len hb1
          rw [← hQ1] at hq
          have f1 : st Q0 ++ (⟨#[27, 91]⟩ : ByteArray) = st Q2 := by rw [hQ2]; exact st_append _ [27, 91]
          have f2 : st Q2 ++ st Q1 = st Q3 := by rw [hQ3]; exact st_append Q2 Q1
          have f3 : st Q3 ++ (⟨#[68]⟩ : ByteArray) = st Q4 := by rw [hQ4]; exact st_append Q3 [68]
          have x1 : (st Q1).size ≤ 4 := by rw [st_size]; omega
          have x2 : (st Q2).size ≤ 13010 := by rw [st_size] at y4 ⊢; rw [hQ2]; simp; omega
          have x3 : (st Q3).size ≤ 13020 := by rw [st_size] at x1 x2 ⊢; rw [hQ3]; simp; omega
          have KT := Lib.hid (fun W => dec_run b 10 (.inl rfl) (by omega) W)
          rw [← hQ1] at KT
          have HQ := Lib.hid (show L = Q4 by rw [HE.out.2.1, HQ0.out, if_neg (by omega), hQ4, hQ3, hQ2, hQ1]; simp)
          clear hQ1 hQ2 hQ3 hQ4
          go_wp2_with fail
          refine (KT.out _).mono ?_
          rintro _ w5 ⟨rfl, s5⟩
          have S5 := Lib.hid (S1.out.trans s5)
          clear s5
          go_wp2_with fail
          go_ret2
          rw [HQ.out, HE.out.1]
          exact ⟨rfl, S5.out⟩
        · have hbz : ¬ (0 : Int) < (b : Int) := by omega
          have HQ := Lib.hid (show L = Q0 by rw [HE.out.2.1, HQ0.out, if_pos (by omega)]; simp)
          go_wp2_with fail
          go_ret2
          rw [HQ.out, HE.out.1]
          exact ⟨rfl, S1.out⟩
end Go.Proofs.YtjenbhaaahpliaaDoor
