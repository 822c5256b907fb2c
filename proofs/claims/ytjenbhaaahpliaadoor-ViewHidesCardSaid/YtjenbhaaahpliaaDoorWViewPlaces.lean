/-
  The walk of ViewPlaces.
-/
import Derived.Test.YtjenbhaaahpliaaDoorAlV
namespace Go.Proofs.YtjenbhaaahpliaaDoor
open Go.RowKit Go.Lib
set_option linter.unusedVariables false

theorem stN_no {m c : Int} (h : mok m = false ∨ rng c 0 = false) : stN m c = 0 := by
  unfold stN
  rcases h with h | h <;> rw [h] <;> simp
theorem plN_no {m c a : Int} (h : mok m = false ∨ rng c a = false) : plN m c a = 0 := by
  unfold plN
  rcases h with h | h <;> rw [h] <;> simp
theorem stN_yes {m c : Int} (h : mok m = true) (g : rng c 0 = true) : stN m c = (if m = 0 then 0 else if m = 1 then c else if 0 < c then 8 else 0) := by
  unfold stN
  rw [h, g]
  rfl
theorem plN_yes {m c a : Int} (h : mok m = true) (g : rng c a = true) : plN m c a = (if m = 0 then 0 else if m = 1 then a else if 0 < c then 8 else 0) := by
  unfold plN
  rw [h, g]
  rfl
/-- What the walk knows of the two numbers. -/
def Plc (k n p s x : Nat) : Prop := (k = 0 ∧ s = 0 ∧ x = 0) ∨ (k = 1 ∧ s = n ∧ x = p) ∨ (k = 2 ∧ n = 0 ∧ s = 0 ∧ x = 0) ∨ (k = 2 ∧ 0 < n ∧ s = 8 ∧ x = 8)
theorem plc_any (k n p : Nat) (hk : k ≤ 2) (hn : n ≤ 1024) (hp : p ≤ n) : ∃ s x : Nat, stN (k : Int) (n : Int) = (s : Int) ∧ plN (k : Int) (n : Int) (p : Int) = (x : Int) ∧ Plc k n p s x := by
  have h1 : mok (k : Int) = true := decide_eq_true (by omega)
  have h2 : rng (n : Int) 0 = true := decide_eq_true (by omega)
  have h3 : rng (n : Int) (p : Int) = true := decide_eq_true (by omega)
  rw [stN_yes h1 h2, plN_yes h1 h3]
  unfold Plc
  rcases (by omega : k = 0 ∨ k = 1 ∨ k = 2) with rfl | rfl | rfl
  · exact ⟨0, 0, rfl, rfl, by omega⟩
  · exact ⟨n, p, rfl, rfl, by omega⟩
  · by_cases h0 : 0 < n
    · exact ⟨8, 8, by rw [if_neg (by omega), if_neg (by omega), if_pos (by omega)]; rfl, by rw [if_neg (by omega), if_neg (by omega), if_pos (by omega)]; rfl, by omega⟩
    · exact ⟨0, 0, by rw [if_neg (by omega), if_neg (by omega), if_neg (by omega)]; rfl, by rw [if_neg (by omega), if_neg (by omega), if_neg (by omega)]; rfl, by omega⟩
set_option maxHeartbeats 1000000 in
set_option maxRecDepth 100000 in
theorem places_walk (c0 c a : Nat) (w : World) (b0 : c0 < 256) (b1 : c < 65536) (b2 : a < 65536) (hT : Tabs w) : Calls Tryd.prog 6 #[.int .u8 (c0 : Int), .int .u16 (c : Int), .int .u16 (a : Int)] w (Truth w) := by
  obtain ⟨n, hn⟩ : ∃ n, n = c % 1025 := ⟨_, rfl⟩
  obtain ⟨p, hp⟩ : ∃ p, p = a % (n + 1) := ⟨_, rfl⟩
  obtain ⟨k, hk⟩ : ∃ k, k = c0 % 3 := ⟨_, rfl⟩
  have hn1 : n ≤ 1024 := by omega
  have hp1 : p ≤ n := by have := Nat.mod_lt a (show 0 < n + 1 by omega); omega
  have hk1 : k ≤ 2 := by omega
  have en : (c : Int) % 1025 = (n : Int) := by omega
  have ep : (a : Int) % ((n : Int) + 1) = (p : Int) := by rw [hp]; rfl
  have ek : (c0 : Int) % 3 = (k : Int) := by omega
  obtain ⟨s, x, hs, hx, hP⟩ := plc_any k n p hk1 hn1 hp1
  have HT := Lib.hid hT
  have K1 := Lib.hid (fun W => stars_run (k : Int) (n : Int) W)
  have K2 := Lib.hid (fun W => place_run (k : Int) (n : Int) (p : Int) W)
  have K3 := Lib.hid (fun W => stars_run 3 (n : Int) W)
  have K4 := Lib.hid (fun W => stars_run (-1) (n : Int) W)
  have K5 := Lib.hid (fun W => stars_run (k : Int) 1025 W)
  have K6 := Lib.hid (fun W => place_run (k : Int) (n : Int) ((n : Int) + 1) W)
  have KA : Hid (∀ W, Stp [] w [] W → Calls Tryd.prog 8 #[] W (Tells (.bool true) W)) := Lib.hid fun W hs => alive_run W (hT.stays hs)
  rw [hs] at K1
  rw [hx] at K2
  rw [stN_no (.inl rfl)] at K3 K4
  rw [stN_no (.inr rfl)] at K5
  rw [plN_no (.inr (decide_eq_false (by omega)))] at K6
  have HP := Lib.hid hP
  clear hs hx hP hT hn hp hk
  go_enter Tryd.func6, Tryd.ntmps6
  go_wp2_with fail
  simp only [en, ep]
  refine (K1.out _).mono ?_
  rintro _ w1 ⟨rfl, s1⟩
  clear en ep ek b0 b1 b2
  go_wp2_with fail
  refine (K2.out _).mono ?_
  rintro _ w2 ⟨rfl, s2⟩
  have S2 := Lib.hid (s1.trans s2)
  clear s1 s2
  have h0 : n = 0 ∨ 0 < n := by omega
  rcases h0 with h0 | h0
  · have hp0 : p = 0 := by omega
    have hsx : s = 0 ∧ x = 0 := by have := HP.out; unfold Plc at this; omega
    obtain ⟨rfl, rfl⟩ := hsx
    subst h0 hp0
    clear HP
    have hk : k = 0 ∨ k = 1 ∨ k = 2 := by omega
    rcases hk with rfl | rfl | rfl
    · skip
      go_wp2_with fail
      refine (KA.out _ S2.out).mono ?_
      rintro _ w3 ⟨rfl, s3⟩
      have S3 := Lib.hid (S2.out.trans s3)
      clear s3
      go_wp2_with fail
      refine (K3.out _).mono ?_
      rintro _ w4 ⟨rfl, s4⟩
      have S4 := Lib.hid (S3.out.trans s4)
      clear s4
      go_wp2_with fail
      refine (K4.out _).mono ?_
      rintro _ w5 ⟨rfl, s5⟩
      have S5 := Lib.hid (S4.out.trans s5)
      clear s5
      go_wp2_with fail
      refine (K5.out _).mono ?_
      rintro _ w6 ⟨rfl, s6⟩
      have S6 := Lib.hid (S5.out.trans s6)
      clear s6
      go_wp2_with fail
      refine (K6.out _).mono ?_
      rintro _ w7 ⟨rfl, s7⟩
      have S7 := Lib.hid (S6.out.trans s7)
      clear s7
      go_wp2_with fail
      go_ret
      exact ⟨rfl, S7.out.under⟩
    · skip
      go_wp2_with fail
      refine (KA.out _ S2.out).mono ?_
      rintro _ w3 ⟨rfl, s3⟩
      have S3 := Lib.hid (S2.out.trans s3)
      clear s3
      go_wp2_with fail
      refine (K3.out _).mono ?_
      rintro _ w4 ⟨rfl, s4⟩
      have S4 := Lib.hid (S3.out.trans s4)
      clear s4
      go_wp2_with fail
      refine (K4.out _).mono ?_
      rintro _ w5 ⟨rfl, s5⟩
      have S5 := Lib.hid (S4.out.trans s5)
      clear s5
      go_wp2_with fail
      refine (K5.out _).mono ?_
      rintro _ w6 ⟨rfl, s6⟩
      have S6 := Lib.hid (S5.out.trans s6)
      clear s6
      go_wp2_with fail
      refine (K6.out _).mono ?_
      rintro _ w7 ⟨rfl, s7⟩
      have S7 := Lib.hid (S6.out.trans s7)
      clear s7
      go_wp2_with fail
      go_ret
      exact ⟨rfl, S7.out.under⟩
    · skip
      go_wp2_with fail
      refine (KA.out _ S2.out).mono ?_
      rintro _ w3 ⟨rfl, s3⟩
      have S3 := Lib.hid (S2.out.trans s3)
      clear s3
      go_wp2_with fail
      refine (K3.out _).mono ?_
      rintro _ w4 ⟨rfl, s4⟩
      have S4 := Lib.hid (S3.out.trans s4)
      clear s4
      go_wp2_with fail
      refine (K4.out _).mono ?_
      rintro _ w5 ⟨rfl, s5⟩
      have S5 := Lib.hid (S4.out.trans s5)
      clear s5
      go_wp2_with fail
      refine (K5.out _).mono ?_
      rintro _ w6 ⟨rfl, s6⟩
      have S6 := Lib.hid (S5.out.trans s6)
      clear s6
      go_wp2_with fail
      refine (K6.out _).mono ?_
      rintro _ w7 ⟨rfl, s7⟩
      have S7 := Lib.hid (S6.out.trans s7)
      clear s7
      go_wp2_with fail
      go_ret
      exact ⟨rfl, S7.out.under⟩
  have z1 : ((n : Int) == 0) = false := beq_eq_false_iff_ne.2 (by omega)
  have z2 : ¬ ((n : Int) < 0) := by omega
  have z3 : ¬ ((p : Int) < 0) := by omega
  have z4 : ¬ ((n : Int) < (p : Int)) := by omega
  have z5 : ¬ ((n : Int) < (n : Int)) := by omega
  rcases HP.out with ⟨h1, h2, h3⟩ | ⟨h1, h2, h3⟩ | ⟨h1, h4, h2, h3⟩ | ⟨h1, h4, h2, h3⟩
  · subst h1 h2 h3
    clear HP
    go_wp2_with fail
    refine (KA.out _ S2.out).mono ?_
    rintro _ w3 ⟨rfl, s3⟩
    have S3 := Lib.hid (S2.out.trans s3)
    clear s3
    go_wp2_with fail
    refine (K3.out _).mono ?_
    rintro _ w4 ⟨rfl, s4⟩
    have S4 := Lib.hid (S3.out.trans s4)
    clear s4
    go_wp2_with fail
    refine (K4.out _).mono ?_
    rintro _ w5 ⟨rfl, s5⟩
    have S5 := Lib.hid (S4.out.trans s5)
    clear s5
    go_wp2_with fail
    refine (K5.out _).mono ?_
    rintro _ w6 ⟨rfl, s6⟩
    have S6 := Lib.hid (S5.out.trans s6)
    clear s6
    go_wp2_with fail
    refine (K6.out _).mono ?_
    rintro _ w7 ⟨rfl, s7⟩
    have S7 := Lib.hid (S6.out.trans s7)
    clear s7
    go_wp2_with fail
    go_ret
    exact ⟨rfl, S7.out.under⟩
  · subst h1 h2 h3
    clear HP
    go_wp2_with fail
    refine (KA.out _ S2.out).mono ?_
    rintro _ w3 ⟨rfl, s3⟩
    have S3 := Lib.hid (S2.out.trans s3)
    clear s3
    go_wp2_with fail
    refine (K3.out _).mono ?_
    rintro _ w4 ⟨rfl, s4⟩
    have S4 := Lib.hid (S3.out.trans s4)
    clear s4
    go_wp2_with fail
    refine (K4.out _).mono ?_
    rintro _ w5 ⟨rfl, s5⟩
    have S5 := Lib.hid (S4.out.trans s5)
    clear s5
    go_wp2_with fail
    refine (K5.out _).mono ?_
    rintro _ w6 ⟨rfl, s6⟩
    have S6 := Lib.hid (S5.out.trans s6)
    clear s6
    go_wp2_with fail
    refine (K6.out _).mono ?_
    rintro _ w7 ⟨rfl, s7⟩
    have S7 := Lib.hid (S6.out.trans s7)
    clear s7
    go_wp2_with fail
    go_ret
    exact ⟨rfl, S7.out.under⟩
  · omega
  · subst h1 h2 h3
    clear HP
    go_wp2_with fail
    all_goals
      refine (KA.out _ S2.out).mono ?_
      rintro _ w3 ⟨rfl, s3⟩
      have S3 := Lib.hid (S2.out.trans s3)
      clear s3
      go_wp2_with fail
      refine (K3.out _).mono ?_
      rintro _ w4 ⟨rfl, s4⟩
      have S4 := Lib.hid (S3.out.trans s4)
      clear s4
      go_wp2_with fail
      refine (K4.out _).mono ?_
      rintro _ w5 ⟨rfl, s5⟩
      have S5 := Lib.hid (S4.out.trans s5)
      clear s5
      go_wp2_with fail
      refine (K5.out _).mono ?_
      rintro _ w6 ⟨rfl, s6⟩
      have S6 := Lib.hid (S5.out.trans s6)
      clear s6
      go_wp2_with fail
      refine (K6.out _).mono ?_
      rintro _ w7 ⟨rfl, s7⟩
      have S7 := Lib.hid (S6.out.trans s7)
      clear s7
      go_wp2_with fail
      go_ret
      exact ⟨rfl, S7.out.under⟩
end Go.Proofs.YtjenbhaaahpliaaDoor
