/-
  Render of the program.
-/
import Derived.Test.YtdaenaoagejgeaaGreatDoorVChk
import Derived.Test.YtdaenaoagejgeaaGreatDoorVTab
import Derived.Deep.RegionHeld
namespace Go.Proofs.YtdaenaoagejgeaaGreatDoor
open Go.RowKit Go.Lib
set_option linter.unusedVariables false

/-- A line's bytes: behind the prompt so many stars, and so many of them behind the place. -/
def lineL (l : List UInt8) (s b : Nat) : List UInt8 := 13 :: l ++ List.replicate s 42 ++ [27, 91, 75] ++ (if b = 0 then [] else [27, 91] ++ dig 10 b ++ [68])
/-- Render's error. -/
def renN (l : List UInt8) (m r c a : Int) : Nat := if chkN l m r = 0 then (if rng c a = true then 0 else 3) else chkN l m r
/-- Render's bytes. -/
def renL (l : List UInt8) (m r c a : Int) : List UInt8 := if renN l m r c a = 0 then lineL l (stN m c).toNat (stN m c - plN m c a).toNat else []
/-- What Render answers. -/
def Rend (w0 : World) (L : List UInt8) (n : Nat) (e : Ending) (w' : World) : Prop :=
  ∃ p cp, e = .returned (.tuple #[.slice p L.length cp, .int .i64 (n : Int)]) ∧ Bts w' p L ∧ L.length ≤ cp ∧ cp ≤ maxLen ∧ Stp [] w0 [] w'
theorem chkN_le (l : List UInt8) (m r : Int) : chkN l m r ≤ 10 := by unfold chkN; (repeat' split) <;> omega
theorem dig10_len {b : Nat} (hb : b ≤ 1024) : (dig 10 b).length ≤ 4 := dig_len (b := 10) (by omega) 3 b (by omega)
theorem lineL_len (l : List UInt8) (s b : Nat) (hb : b ≤ 1024) : (lineL l s b).length ≤ l.length + s + 11 := by
  have := dig10_len hb
  unfold lineL
  split <;> simp <;> omega
set_option maxHeartbeats 4000000 in
set_option maxRecDepth 100000 in
theorem render_run (l : List UInt8) (m r c a : Int) (w : World) (hl : l.length ≤ 1048576) (hT : Tabs w) : Calls Tryz.prog 4 #[askv l m r, .int .i64 c, .int .i64 a] w (Rend w (renL l m r c a) (renN l m r c a)) := by
  have hb := heap_alloc_new w (.cells #[.string (st l), .int .i64 m, .int .i64 r] 23)
  have s0 : Stp [] w [] (w.alloc (.cells #[.string (st l), .int .i64 m, .int .i64 r] 23)) := Stp.alloc _ _ _
  have KC : Hid (∀ W, Stp [] w [] W → Calls Tryz.prog 17 #[.agg #[.string (st l), .int .i64 m, .int .i64 r]] W (Tells (.int .i64 (chkN l m r : Int)) W)) := Lib.hid fun W hs => check_run l m r W (by omega) (hT.stays hs).utf
  have KI := Lib.hid (fun W => inr_run c a W)
  have KS := Lib.hid (fun W => stars_run m c W)
  have KP := Lib.hid (fun W => vplace_run m c a W)
  have hsz := st_size l
  have c0 : (w.alloc (.cells #[.string (st l), .int .i64 m, .int .i64 r] 23)).cell? ⟨w.heap.size, 0, none⟩ = some (.string (st l)) := by rw [cell_of_row _ _ 0 _ _ _ hb]; rfl
  have c1 : (w.alloc (.cells #[.string (st l), .int .i64 m, .int .i64 r] 23)).cell? ⟨w.heap.size, 1, none⟩ = some (.int .i64 m) := by rw [cell_of_row _ _ 1 _ _ _ hb]; rfl
  have c2 : (w.alloc (.cells #[.string (st l), .int .i64 m, .int .i64 r] 23)).cell? ⟨w.heap.size, 2, none⟩ = some (.int .i64 r) := by rw [cell_of_row _ _ 2 _ _ _ hb]; rfl
  have H0 := Lib.hid (And.intro s0 hb)
  have HT := Lib.hid hT
  clear hb s0 hT
  obtain ⟨k, hk⟩ : ∃ k, k = chkN l m r := ⟨_, rfl⟩
  obtain ⟨L, hL⟩ : ∃ L, L = renL l m r c a := ⟨_, rfl⟩
  obtain ⟨n, hn⟩ : ∃ n, n = renN l m r c a := ⟨_, rfl⟩
  rw [← hL, ← hn]
  rw [← hk] at KC
  have HK := Lib.hid (And.intro hk (And.intro hL hn))
  clear hk hL hn
  unfold askv
  go_enter Tryz.func4, Tryz.ntmps4
  go_wp2_with fail
  generalize w.alloc (.cells #[.string (st l), .int .i64 m, .int .i64 r] 23) = w0 at *
  refine (KC.out _ H0.out.1).mono ?_
  rintro _ w1 ⟨rfl, s1⟩
  have hb1 := (s1.block w.heap.size (Array.getElem?_eq_some_iff.1 H0.out.2).1 (by simp)).trans H0.out.2
  have c1 : w1.cell? ⟨w.heap.size, 1, none⟩ = some (.int .i64 m) := by rw [cell_of_row _ _ 1 _ _ _ hb1]; rfl
  have H1 := Lib.hid (And.intro (H0.out.1.trans s1) hb1)
  clear s1 hb1 H0 KC c0 c2
  by_cases hk : ¬ k = 0
  · have hd : ((k : Int) != 0) = true := by rw [bne_iff_ne]; omega
    have e1 : n = k := by rw [HK.out.2.2, HK.out.1]; unfold renN; rw [if_neg (by rw [← HK.out.1]; exact hk)]
    have e2 : L = [] := by rw [HK.out.2.1]; unfold renL; rw [← HK.out.2.2, e1, if_neg hk]
    have HE := Lib.hid (And.intro e1 e2)
    clear e1 e2 hk
    go_wp2
    go_ret2
    rw [HE.out.1, HE.out.2]
    exact ⟨none, 0, rfl, Bts.nil _ _, Nat.le_refl _, Nat.zero_le _, H1.out.1⟩
  obtain rfl : k = 0 := by omega
  clear hk
  have hl : l.length ≤ 10000 := by
    have h0 := HK.out.1
    unfold chkN at h0
    split at h0
    · omega
    · split at h0
      · omega
      · omega
  cases hr : rng c a with
  | false =>
    rw [hr] at KI
    have e1 : n = 3 := by rw [HK.out.2.2]; unfold renN; rw [← HK.out.1, hr]; rfl
    have e2 : L = [] := by rw [HK.out.2.1]; unfold renL; rw [← HK.out.2.2, e1, if_neg (by omega)]
    have HE := Lib.hid (And.intro e1 e2)
    clear e1 e2 hr
    go_wp2_with fail
    refine (KI.out _).mono ?_
    rintro _ _ ⟨rfl, rfl⟩
    go_wp2
    go_ret2
    rw [HE.out.1, HE.out.2]
    exact ⟨none, 0, rfl, Bts.nil _ _, Nat.le_refl _, Nat.zero_le _, H1.out.1⟩
  | true =>
    rw [hr] at KI
    have hsb := stN_bd m c
    have hpb := plN_bd m c a hr
    obtain ⟨s, hs⟩ : ∃ s : Nat, stN m c = (s : Int) := ⟨(stN m c).toNat, by omega⟩
    obtain ⟨p, hp⟩ : ∃ p : Nat, plN m c a = (p : Int) := ⟨(plN m c a).toNat, by omega⟩
    rw [hs] at KS hsb
    rw [hp] at KP
    rw [hs, hp] at hpb
    have hs1 : s ≤ 1024 := by omega
    have hps : p ≤ s := by omega
    obtain ⟨b, hb⟩ : ∃ b, b = s - p := ⟨_, rfl⟩
    have hsub : IntKind.i64.wrap ((s : Int) - (p : Int)) = (b : Int) := by rw [IntKind.wrap_i64]; omega
    have e1 : n = 0 := by rw [HK.out.2.2]; unfold renN; rw [← HK.out.1, hr]; rfl
    have e2 : L = lineL l s b := by
      rw [HK.out.2.1]
      unfold renL
      rw [← HK.out.2.2, e1, if_pos rfl, hs, hp]
      congr 1
      omega
    have HE := Lib.hid (And.intro e1 (And.intro e2 hb))
    have hb1 : b ≤ 1024 := by omega
    clear e1 e2 hr hsb hpb hs hp hb
    go_wp2_with fail
    refine (KI.out _).mono ?_
    rintro _ _ ⟨rfl, rfl⟩
    go_wp2_with fail
    refine (KS.out _).mono ?_
    rintro _ w2 ⟨rfl, s2⟩
    have hb2 := (s2.block w.heap.size (Array.getElem?_eq_some_iff.1 H1.out.2).1 (by simp)).trans H1.out.2
    have HS2 := Lib.hid (H1.out.1.trans s2)
    have KR := Lib.hid (fun W => rep_run 42 s (by omega) W)
    have hKeep : Aside (∀ W, Stp [] w2 [] W → W.cell? ⟨w.heap.size, 0, none⟩ = some (.string (st l))) := fun W hs => hs.keeps rfl (by rw [cell_of_row _ _ 0 _ _ _ hb2]; rfl)
    have HB2 := Lib.hid hb2
    clear hb2 c1 s2
    obtain ⟨P1, hP1⟩ : ∃ P, P = 13 :: l := ⟨_, rfl⟩
    obtain ⟨P2, hP2⟩ : ∃ P, P = List.replicate s (42 : UInt8) := ⟨_, rfl⟩
    obtain ⟨P3, hP3⟩ : ∃ P, P = P1 ++ P2 := ⟨_, rfl⟩
    obtain ⟨P4, hP4⟩ : ∃ P, P = P3 ++ [27, 91, 75] := ⟨_, rfl⟩
    have e13 : (⟨#[13]⟩ : ByteArray) ++ st l = st P1 := by rw [hP1]; exact st_append [13] l
    have eA : st P1 ++ st P2 = st P3 := by rw [hP3]; exact st_append P1 P2
    have eB : st P3 ++ (⟨#[27, 91, 75]⟩ : ByteArray) = st P4 := by rw [hP4]; exact st_append _ [27, 91, 75]
    have y1 : (st P1).size ≤ 11000 := by rw [st_size, hP1]; simp; omega
    have y2 : (st P2).size ≤ 2000 := by rw [st_size, hP2]; simp; omega
    have y3 : (st P3).size ≤ 13000 := by rw [st_size, hP3, hP1, hP2]; simp; omega
    have y4 : (st P4).size ≤ 14000 := by rw [st_size, hP4, hP3, hP1, hP2]; simp; omega
    have HP := Lib.hid (show lineL l s b = P4 ++ (if b = 0 then [] else [27, 91] ++ dig 10 b ++ [68]) by rw [hP4, hP3, hP1, hP2]; rfl)
    rw [← hP2] at KR
    clear hP1 hP2 hP3 hP4
    go_wp2_with fail
    have hcur : Stp [] w2 [] w2.drew := Stp.drew _ _
    generalize w.heap.size = g at *
    go_region_held (fun W => Stp [] w2 [] W ∧ W.cell? ⟨g, 0, none⟩ = some (.string (st l)))
      (first | exact ⟨hcur, hKeep.out _ hcur⟩ | assumption)
      (first
        | (go_at_call 19; refine (KR.out _).mono ?_; rintro _ w3 ⟨rfl, s3⟩; replace hcur := hcur.trans s3; clear s3))
    all_goals
      have c1 : w3.cell? ⟨g, 1, none⟩ = some (.int .i64 m) := hcur.keeps rfl (by rw [cell_of_row _ _ 1 _ _ _ HB2.out]; rfl)
      have S3 := Lib.hid (HS2.out.trans hcur)
      clear hcur
      go_wp2_with fail
      refine (KP.out _).mono ?_
      rintro _ w4 ⟨rfl, s4⟩
      have S4 := Lib.hid (S3.out.trans s4)
      clear s4 S3 c1
      by_cases h0 : 0 < b
      · have hbz : (0 : Int) < (b : Int) := by omega
        obtain ⟨Q1, hQ1⟩ : ∃ Q, Q = dig 10 b := ⟨_, rfl⟩
        obtain ⟨Q2, hQ2⟩ : ∃ Q, Q = 27 :: 91 :: Q1 := ⟨_, rfl⟩
        obtain ⟨Q3, hQ3⟩ : ∃ Q, Q = Q2 ++ [68] := ⟨_, rfl⟩
        obtain ⟨Q4, hQ4⟩ : ∃ Q, Q = P4 ++ Q3 := ⟨_, rfl⟩
        have hq := dig10_len hb1
        rw [← hQ1] at hq
        have f1 : (⟨#[27, 91]⟩ : ByteArray) ++ st Q1 = st Q2 := by rw [hQ2]; exact st_append [27, 91] Q1
        have f2 : st Q2 ++ (⟨#[68]⟩ : ByteArray) = st Q3 := by rw [hQ3]; exact st_append Q2 [68]
        have f3 : st P4 ++ st Q3 = st Q4 := by rw [hQ4]; exact st_append P4 Q3
        have x1 : (st Q1).size ≤ 4 := by rw [st_size]; omega
        have x2 : (st Q2).size ≤ 6 := by rw [st_size, hQ2]; simp; omega
        have x3 : (st Q3).size ≤ 7 := by rw [st_size, hQ3, hQ2]; simp; omega
        have x4 : Q4.length ≤ 15000 := by rw [st_size] at x3 y4; rw [hQ4]; simp; omega
        have KT := Lib.hid (itoa_run b (by omega) w4 (HT.out.stays S4.out))
        rw [← hQ1] at KT
        have HQ := Lib.hid (show L = Q4 by rw [HE.out.2.1, HP.out, if_neg (by omega), hQ4, hQ3, hQ2, hQ1]; rfl)
        clear hQ1 hQ2 hQ3 hQ4
        go_wp2_with fail
        refine KT.out.mono ?_
        rintro _ w5 ⟨rfl, s5⟩
        obtain ⟨A, cp, w6, hcv, hbt, hc1, hc2, s6⟩ := conv_st w5 Q4 (by omega)
        have H6 := Lib.hid (And.intro hbt (And.intro hc1 (And.intro hc2 ((S4.out.trans s5).trans s6))))
        clear hbt hc1 hc2 s6 s5
        go_wp2
        go_ret2
        rw [HQ.out, HE.out.1]
        exact ⟨A, cp, rfl, H6.out⟩
      · have hbz : ¬ (0 : Int) < (b : Int) := by omega
        have HQ := Lib.hid (show L = P4 by rw [HE.out.2.1, HP.out, if_pos (by omega)]; simp)
        have x4 : P4.length ≤ 15000 := by rw [st_size] at y4; omega
        obtain ⟨A, cp, w6, hcv, hbt, hc1, hc2, s6⟩ := conv_st w4 P4 (by omega)
        have H6 := Lib.hid (And.intro hbt (And.intro hc1 (And.intro hc2 (S4.out.trans s6))))
        clear hbt hc1 hc2 s6
        go_wp2
        go_ret2
        rw [HQ.out, HE.out.1]
        exact ⟨A, cp, rfl, H6.out⟩
end Go.Proofs.YtdaenaoagejgeaaGreatDoor
