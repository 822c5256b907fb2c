/-
  The walk of EscseqOthers.
-/
import Derived.Test.YtndofkjmbipagaaAliveE
namespace Go.Proofs.Ytndofkjmbipagaa
open Go.RowKit Go.Lib
set_option linter.unusedVariables false

theorem oth_tab : ∀ n : Nat, n < 256 → nx [27, UInt8.ofNat n] = (if n = 91 ∨ n = 79 then ⟨0, 2, 7⟩ else ⟨15, 1, 0⟩) ∧
    ((nx [27, 79, UInt8.ofNat n]).e = 0 ∧ (nx [27, 79, UInt8.ofNat n]).n = (if 64 ≤ n ∧ n ≤ 126 then 3 else 2)) ∧
    ((nx [27, 91, UInt8.ofNat n]).e = (if 32 ≤ n ∧ n ≤ 63 then 7 else 0) ∧ (nx [27, 91, UInt8.ofNat n]).n = (if 32 ≤ n ∧ n ≤ 126 then 3 else 2)) := by decide +kernel
/-- The six sorts of bytes. -/
def Sorts (z : Int) : Prop := z = 91 ∨ z = 79 ∨ (¬ z = 91 ∧ ¬ z = 79 ∧ 64 ≤ z ∧ z ≤ 126 ∧ 32 ≤ z ∧ ¬ z ≤ 63) ∨ (¬ z = 91 ∧ ¬ z = 79 ∧ ¬ 64 ≤ z ∧ z ≤ 126 ∧ 32 ≤ z ∧ z ≤ 63) ∨ (¬ z = 91 ∧ ¬ z = 79 ∧ ¬ 64 ≤ z ∧ ¬ 32 ≤ z) ∨ (¬ z = 91 ∧ ¬ z = 79 ∧ 64 ≤ z ∧ ¬ z ≤ 126 ∧ 32 ≤ z ∧ ¬ z ≤ 63)
set_option maxHeartbeats 4000000 in
set_option maxRecDepth 100000 in
theorem others_walk (n : Nat) (hn : n < 256) (w : World) : Calls Try.prog 7 #[.int .u8 (n : Int)] w (Truth w) := by
  obtain ⟨t1, ⟨t2, t3⟩, t4, t5⟩ := oth_tab n hn
  have hcn : ((UInt8.ofNat n).toNat : Int) = (n : Int) := by rw [UInt8.toNat_ofNat_of_lt' hn]
  have K1 : Hid (∀ (W : World) (g : Nat), g = W.heap.size → Calls Try.prog 9 #[.slice (some ⟨g, 0, none⟩) 2 2] (W.alloc (.cells #[.int .u8 27, .int .u8 (n : Int)] 5)) (Tells (nxv (nx [27, UInt8.ofNat n])) (W.alloc (.cells #[.int .u8 27, .int .u8 (n : Int)] 5)))) :=
    Lib.hid (fun W g hg => by subst hg; have h := lit_run [27, UInt8.ofNat n] W (by simp); simp only [List.map_cons, List.map_nil, bval, hcn] at h; exact h)
  have K2 : Hid (∀ (W : World) (g : Nat), g = W.heap.size → Calls Try.prog 9 #[.slice (some ⟨g, 0, none⟩) 3 3] (W.alloc (.cells #[.int .u8 27, .int .u8 79, .int .u8 (n : Int)] 5)) (Tells (nxv (nx [27, 79, UInt8.ofNat n])) (W.alloc (.cells #[.int .u8 27, .int .u8 79, .int .u8 (n : Int)] 5)))) :=
    Lib.hid (fun W g hg => by subst hg; have h := lit_run [27, 79, UInt8.ofNat n] W (by simp); simp only [List.map_cons, List.map_nil, bval, hcn] at h; exact h)
  have K3 : Hid (∀ (W : World) (g : Nat), g = W.heap.size → Calls Try.prog 9 #[.slice (some ⟨g, 0, none⟩) 3 3] (W.alloc (.cells #[.int .u8 27, .int .u8 91, .int .u8 (n : Int)] 5)) (Tells (nxv (nx [27, 91, UInt8.ofNat n])) (W.alloc (.cells #[.int .u8 27, .int .u8 91, .int .u8 (n : Int)] 5)))) :=
    Lib.hid (fun W g hg => by subst hg; have h := lit_run [27, 91, UInt8.ofNat n] W (by simp); simp only [List.map_cons, List.map_nil, bval, hcn] at h; exact h)
  obtain ⟨k2, n2, e2, hx2⟩ : ∃ k m e, nx [27, 79, UInt8.ofNat n] = ⟨k, m, e⟩ := ⟨_, _, _, rfl⟩
  obtain ⟨k3, n3, e3, hx3⟩ : ∃ k m e, nx [27, 91, UInt8.ofNat n] = ⟨k, m, e⟩ := ⟨_, _, _, rfl⟩
  rw [t1] at K1
  rw [hx2] at K2 t2 t3
  rw [hx3] at K3 t4 t5
  clear hx2 hx3 t1 hcn
  have KA := Lib.hid alive_run
  have hsort : Sorts (n : Int) := by unfold Sorts; omega
  unfold nxv kv at K1 K2 K3
  simp only at K1 K2 K3 t2 t3 t4 t5
  rcases hsort with h | h | ⟨h1, h2, h3, h4, h5, h6⟩ | ⟨h1, h2, h3, h4, h5, h6⟩ | ⟨h1, h2, h3, h4⟩ | ⟨h1, h2, h3, h4, h5, h6⟩
  · obtain rfl : n = 91 := by omega
    rw [if_pos (by omega)] at K1 t3 t5
    rw [if_neg (by omega)] at t4
    clear h
    subst t2 t3 t4 t5
    go_enter Try.func7, Try.ntmps7
    go_wp2_with fail
    refine (K1.out _ _ (by simp)).mono ?_
    rintro _ w1 ⟨rfl, s1⟩
    have HS1 : Aside (Stp [] w [] w1) := (Stp.alloc [] w _).trans s1
    clear s1
    go_wp2_with fail
    refine (K2.out _ _ (by simp)).mono ?_
    rintro _ w2 ⟨rfl, s2⟩
    have HS2 : Aside (Stp [] w [] w2) := HS1.out.trans (((Stp.alloc [] w1 _).trans (Stp.alloc [] _ _)).trans s2)
    clear s2
    go_wp2_with fail
    refine (K3.out _ _ (by simp)).mono ?_
    rintro _ w3 ⟨rfl, s3⟩
    have HS3 : Aside (Stp [] w [] w3) := HS2.out.trans (((Stp.alloc [] w2 _).trans (Stp.alloc [] _ _)).trans s3)
    clear s3
    go_wp2_with fail
    refine (KA.out _).mono ?_
    rintro _ w4 ⟨rfl, s4⟩
    go_wp2
    go_ret
    exact ⟨rfl, ((HS3.out.trans (Stp.alloc [] _ _)).trans s4).under⟩
  · obtain rfl : n = 79 := by omega
    rw [if_pos (by omega)] at K1 t3 t5
    rw [if_neg (by omega)] at t4
    clear h
    subst t2 t3 t4 t5
    go_enter Try.func7, Try.ntmps7
    go_wp2_with fail
    refine (K1.out _ _ (by simp)).mono ?_
    rintro _ w1 ⟨rfl, s1⟩
    have HS1 : Aside (Stp [] w [] w1) := (Stp.alloc [] w _).trans s1
    clear s1
    go_wp2_with fail
    refine (K2.out _ _ (by simp)).mono ?_
    rintro _ w2 ⟨rfl, s2⟩
    have HS2 : Aside (Stp [] w [] w2) := HS1.out.trans (((Stp.alloc [] w1 _).trans (Stp.alloc [] _ _)).trans s2)
    clear s2
    go_wp2_with fail
    refine (K3.out _ _ (by simp)).mono ?_
    rintro _ w3 ⟨rfl, s3⟩
    have HS3 : Aside (Stp [] w [] w3) := HS2.out.trans (((Stp.alloc [] w2 _).trans (Stp.alloc [] _ _)).trans s3)
    clear s3
    go_wp2_with fail
    refine (KA.out _).mono ?_
    rintro _ w4 ⟨rfl, s4⟩
    go_wp2
    go_ret
    exact ⟨rfl, ((HS3.out.trans (Stp.alloc [] _ _)).trans s4).under⟩
  · have g1 : ¬(n = 91 ∨ n = 79) := by omega
    rw [if_neg g1] at K1
    rw [if_pos (by omega)] at t3
    rw [if_neg (by omega)] at t4
    rw [if_pos (by omega)] at t5
    clear g1
    generalize ((n : Nat) : Int) = z at *
    subst t2 t3 t4 t5
    go_enter Try.func7, Try.ntmps7
    go_wp2_with fail
    refine (K1.out _ _ (by simp)).mono ?_
    rintro _ w1 ⟨rfl, s1⟩
    have HS1 : Aside (Stp [] w [] w1) := (Stp.alloc [] w _).trans s1
    clear s1
    go_wp2_with fail
    refine (K2.out _ _ (by simp)).mono ?_
    rintro _ w2 ⟨rfl, s2⟩
    have HS2 : Aside (Stp [] w [] w2) := HS1.out.trans (((Stp.alloc [] w1 _).trans (Stp.alloc [] _ _)).trans s2)
    clear s2
    go_wp2_with fail
    refine (K3.out _ _ (by simp)).mono ?_
    rintro _ w3 ⟨rfl, s3⟩
    have HS3 : Aside (Stp [] w [] w3) := HS2.out.trans (((Stp.alloc [] w2 _).trans (Stp.alloc [] _ _)).trans s3)
    clear s3
    go_wp2_with fail
    refine (KA.out _).mono ?_
    rintro _ w4 ⟨rfl, s4⟩
    go_wp2
    go_ret
    exact ⟨rfl, ((HS3.out.trans (Stp.alloc [] _ _)).trans s4).under⟩
  · have g1 : ¬(n = 91 ∨ n = 79) := by omega
    rw [if_neg g1] at K1
    rw [if_neg (by omega)] at t3
    rw [if_pos (by omega)] at t4
    rw [if_pos (by omega)] at t5
    clear g1
    generalize ((n : Nat) : Int) = z at *
    subst t2 t3 t4 t5
    go_enter Try.func7, Try.ntmps7
    go_wp2_with fail
    refine (K1.out _ _ (by simp)).mono ?_
    rintro _ w1 ⟨rfl, s1⟩
    have HS1 : Aside (Stp [] w [] w1) := (Stp.alloc [] w _).trans s1
    clear s1
    go_wp2_with fail
    refine (K2.out _ _ (by simp)).mono ?_
    rintro _ w2 ⟨rfl, s2⟩
    have HS2 : Aside (Stp [] w [] w2) := HS1.out.trans (((Stp.alloc [] w1 _).trans (Stp.alloc [] _ _)).trans s2)
    clear s2
    go_wp2_with fail
    refine (K3.out _ _ (by simp)).mono ?_
    rintro _ w3 ⟨rfl, s3⟩
    have HS3 : Aside (Stp [] w [] w3) := HS2.out.trans (((Stp.alloc [] w2 _).trans (Stp.alloc [] _ _)).trans s3)
    clear s3
    go_wp2_with fail
    refine (KA.out _).mono ?_
    rintro _ w4 ⟨rfl, s4⟩
    go_wp2
    go_ret
    exact ⟨rfl, ((HS3.out.trans (Stp.alloc [] _ _)).trans s4).under⟩
  · have g1 : ¬(n = 91 ∨ n = 79) := by omega
    rw [if_neg g1] at K1
    rw [if_neg (by omega)] at t3
    rw [if_neg (by omega)] at t4
    rw [if_neg (by omega)] at t5
    clear g1
    generalize ((n : Nat) : Int) = z at *
    subst t2 t3 t4 t5
    go_enter Try.func7, Try.ntmps7
    go_wp2_with fail
    refine (K1.out _ _ (by simp)).mono ?_
    rintro _ w1 ⟨rfl, s1⟩
    have HS1 : Aside (Stp [] w [] w1) := (Stp.alloc [] w _).trans s1
    clear s1
    go_wp2_with fail
    refine (K2.out _ _ (by simp)).mono ?_
    rintro _ w2 ⟨rfl, s2⟩
    have HS2 : Aside (Stp [] w [] w2) := HS1.out.trans (((Stp.alloc [] w1 _).trans (Stp.alloc [] _ _)).trans s2)
    clear s2
    go_wp2_with fail
    refine (K3.out _ _ (by simp)).mono ?_
    rintro _ w3 ⟨rfl, s3⟩
    have HS3 : Aside (Stp [] w [] w3) := HS2.out.trans (((Stp.alloc [] w2 _).trans (Stp.alloc [] _ _)).trans s3)
    clear s3
    go_wp2_with fail
    refine (KA.out _).mono ?_
    rintro _ w4 ⟨rfl, s4⟩
    go_wp2
    go_ret
    exact ⟨rfl, ((HS3.out.trans (Stp.alloc [] _ _)).trans s4).under⟩
  · have g1 : ¬(n = 91 ∨ n = 79) := by omega
    rw [if_neg g1] at K1
    rw [if_neg (by omega)] at t3
    rw [if_neg (by omega)] at t4
    rw [if_neg (by omega)] at t5
    clear g1
    generalize ((n : Nat) : Int) = z at *
    have g7 : decide (z ≤ 126) = false := decide_eq_false h4
    clear h4
    subst t2 t3 t4 t5
    go_enter Try.func7, Try.ntmps7
    go_wp2_with fail
    refine (K1.out _ _ (by simp)).mono ?_
    rintro _ w1 ⟨rfl, s1⟩
    have HS1 : Aside (Stp [] w [] w1) := (Stp.alloc [] w _).trans s1
    clear s1
    go_wp2_with fail
    refine (K2.out _ _ (by simp)).mono ?_
    rintro _ w2 ⟨rfl, s2⟩
    have HS2 : Aside (Stp [] w [] w2) := HS1.out.trans (((Stp.alloc [] w1 _).trans (Stp.alloc [] _ _)).trans s2)
    clear s2
    go_wp2_with fail
    refine (K3.out _ _ (by simp)).mono ?_
    rintro _ w3 ⟨rfl, s3⟩
    have HS3 : Aside (Stp [] w [] w3) := HS2.out.trans (((Stp.alloc [] w2 _).trans (Stp.alloc [] _ _)).trans s3)
    clear s3
    go_wp2_with fail
    refine (KA.out _).mono ?_
    rintro _ w4 ⟨rfl, s4⟩
    go_wp2
    go_ret
    exact ⟨rfl, ((HS3.out.trans (Stp.alloc [] _ _)).trans s4).under⟩
end Go.Proofs.Ytndofkjmbipagaa
