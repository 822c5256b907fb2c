/-
  The walk of KeydecNone: of no decoder, and no arena, nothing is told; one that is too small is refused; a new decoder's arena is wiped.
-/
import Derived.Test.YthffjcacdcipeaaDoorAliveK
namespace Go.Proofs.YthffjcacdcipeaaDoor
open Go.RowKit Go.Lib
set_option linter.unusedVariables false

theorem min_any (a b c : Nat) (h : c = min a b) : ∀ (w : World) (ts : Array TypeId) (t : TypeId), (Builtin.min_ ts t #[.int .i64 (a : Int), .int .i64 (b : Int)]).run Tryd.prog w = .ok (.int .i64 (c : Int)) w := fun w ts t => by
  rw [run_min_int2]
  subst h
  by_cases e : (a : Int) > (b : Int)
  · rw [if_pos e]
    congr 3
    omega
  · rw [if_neg e]
    congr 3
    omega
set_option maxHeartbeats 1000000 in
set_option maxRecDepth 100000 in
theorem none_walk (x0 : Int) (hx : (Lit.int .i64 x0).wf = true) (a1 : Option Addr) (cap1 m : Nat) (s : List UInt8) (w : World) (hb1 : Bts w a1 s) (hm : m = s.length) (hc : s.length ≤ cap1) (hT : U.Tabs w) :
    Calls Tryd.prog 4 #[.int .i64 x0, .slice a1 m cap1] w (Tells (.bool true) w) := by
  have HT : Aside (U.Tabs w ∧ Bts w a1 s ∧ m = s.length ∧ s.length ≤ cap1) := ⟨hT, hb1, hm, hc⟩
  obtain ⟨z, hz⟩ : ∃ z, z = x0 % 18446744073709551616 := ⟨_, rfl⟩
  have e1 : IntKind.u64.wrap x0 = z := by rw [hz, IntKind.wrap_u64]
  have e2 : 0 ≤ z := by omega
  have e3 : z < 18446744073709551616 := by omega
  have K1 := Lib.hid (fun W => feed_nil (.slice a1 m cap1) W)
  have K2 := Lib.hid (fun W => finish_nil W)
  have K3 := Lib.hid (fun W => reset_nil W)
  have K4 := Lib.hid (fun W => held_nil W)
  have K5 := Lib.hid (fun W => pastes_nil W)
  have K6 := Lib.hid (fun W => dnew_nil W)
  clear hT hb1 hm hc hx hz
  go_enter Tryd.func4, Tryd.ntmps4
  go_wp2_with (first
    | (go_at_call 13; refine (K1.out _).mono ?_; rintro _ w ⟨rfl, rfl⟩)
    | (go_at_call 21; refine (K2.out _).mono ?_; rintro _ w ⟨rfl, rfl⟩)
    | (go_at_call 23; refine (K3.out _).mono ?_; rintro _ w ⟨rfl, rfl⟩)
    | (go_at_call 16; refine (K4.out _).mono ?_; rintro _ w ⟨rfl, rfl⟩)
    | (go_at_call 18; refine (K5.out _).mono ?_; rintro _ w ⟨rfl, rfl⟩)
    | (go_at_call 24; refine (K6.out _).mono ?_; rintro _ w ⟨rfl, rfl⟩))
  clear K1 K2 K3 K4 K5 K6
  obtain ⟨k, hk⟩ : ∃ k : Nat, 1 + z % 100 = (k : Int) := ⟨(1 + z % 100).toNat, by omega⟩
  have hk1 : 1 ≤ k := by omega
  have hk2 : k ≤ 100 := by omega
  rw [hk]
  clear hk e1 e2 e3
  refine (new_run k w hk1 (by omega)).mono ?_
  rintro _ w1 ⟨b, g, rfl, hb, hg, ha, s1⟩
  have H1 : Aside (Ar w1 b g k [] ∧ w.heap.size ≤ b ∧ w.heap.size ≤ g ∧ Stp [] w [] w1) := ⟨ha, hb, hg, s1.none⟩
  clear hb hg ha s1
  go_wp2_with fail
  refine (alive_run w1 (utabs_other HT.out.1 H1.out.2.2.2 (by simp))).mono ?_
  rintro _ w2 ⟨rfl, s2⟩
  have H2 : Aside (Ar w2 b g k [] ∧ w.heap.size ≤ b ∧ w.heap.size ≤ g ∧ Stp [] w [] w2) := ⟨H1.out.1.stays s2, H1.out.2.1, H1.out.2.2.1, H1.out.2.2.2.trans s2⟩
  clear H1 s2
  obtain ⟨j, hj⟩ : ∃ j, j = min m k := ⟨_, rfl⟩
  have hmn := min_any m k j hj
  have hsl := cut_h a1 m cap1 j (by have := HT.out.2.2; omega)
  have KI : Hid (Calls Tryd.prog 26 #[.pointer (some ⟨b, 0, none⟩), .int .i64 0, .slice a1 j cap1] w2 fun e w' => e = .returned (.int .i64 0) ∧ Ar w' b g k (s.take j) ∧ Stp [b, g] w2 [b, g] w') := Lib.hid (by
    have hbt := HT.out.2.1
    have hle : j ≤ s.length := by have := HT.out.2.2.1; omega
    have := insert_run H2.out.1 0 a1 (s.take j) j cap1 ((take_bts hbt j hle).stays H2.out.2.2.2) (fun hne ad e => by
      have hne2 : s ≠ [] := by intro e2; subst e2; simp at hne
      obtain ⟨bb, off, e2, hlt⟩ := hbt.blk hne2
      rw [e2] at e
      cases e
      have := H2.out.2.2.1
      show bb ≠ g
      omega) (by rw [List.length_take]; omega) (Nat.zero_le _) (by simp; omega)
    simpa using this)
  have HJ := Lib.hid hj
  clear hj
  go_wp2_with fail
  refine KI.out.mono ?_
  rintro _ w3 ⟨rfl, ha3, s3⟩
  have H3 : Aside (Ar w3 b g k (s.take j) ∧ w.heap.size ≤ b ∧ w.heap.size ≤ g ∧ Stp [] w [] w3) := ⟨ha3, H2.out.2.1, H2.out.2.2.1, H2.out.2.2.2.into s3 (fun i hi => .inr (by have := H2.out.2; simp at hi; omega)) (by simp)⟩
  clear KI ha3 s3 H2 hmn hsl
  by_cases h36 : k < 36
  · have h36z : (k : Int) < 36 := by omega
    have KN := Lib.hid (dnew_no H3.out.1 h36)
    clear h36
    go_wp2_with fail
    refine KN.out.mono ?_
    rintro _ w3 ⟨rfl, rfl⟩
    clear KN
    go_wp2
    go_ret
    exact ⟨rfl, H3.out.2.2.2⟩
  · have h36z : ¬ (k : Int) < 36 := by omega
    have KN := Lib.hid (dnew_run H3.out.1 (by omega) (by have := utabs_size HT.out.1; have := H3.out; omega))
    clear h36
    go_wp2_with fail
    refine KN.out.mono ?_
    rintro _ w4 ⟨d, rfl, hd, hdc, s4⟩
    have H4 : Aside (Dc w4 d b g k [] false ∧ Stp [] w [] w4) := ⟨hdc, H3.out.2.2.2.into s4 (fun i hi => .inr (by have := H3.out.2; simp at hi; omega)) (by simp)⟩
    clear KN hd hdc s4 H3
    have KZ := Lib.hid (zero_run H4.out.1.ar)
    go_wp2_with fail
    refine KZ.out.mono ?_
    rintro _ w5 ⟨rfl, q5, hw5⟩
    have H5 : Aside (Dc w5 d b g k [] false ∧ Stp [] w [] w5) := by
      subst hw5
      exact ⟨H4.out.1.stays (Stp.drewN [] _ q5), H4.out.2.trans (Stp.drewN [] _ q5)⟩
    have e0 : zeros [] = true := rfl
    rw [e0]
    clear KZ H4 hw5 e0
    have KH := Lib.hid (held_run H5.out.1)
    go_wp2_with fail
    refine KH.out.mono ?_
    rintro _ w5 ⟨rfl, rfl⟩
    clear KH
    go_wp2
    go_ret
    exact ⟨rfl, H5.out.2⟩
end Go.Proofs.YthffjcacdcipeaaDoor
