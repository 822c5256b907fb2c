/-
  AttrsRaw's walk.
-/
import Derived.Test.YtcjmnmcldppdhaaDoorAlive
namespace Go.Proofs.YtcjmnmcldppdhaaDoor
open Go.RowKit Go.Lib
set_option linter.unusedVariables false

theorem bit_no {f i : Nat} (hi : i < 6) : ban f 63 &&& 2 ^ i ≠ 2 ^ i := by
  intro e
  have h := congrArg (fun n => Nat.testBit n i) e
  simp only [Nat.testBit_and, Nat.testBit_two_pow_self, Bool.and_true] at h
  rw [ban_bit _ _ _ (by omega)] at h
  have h63 : Nat.testBit 63 i = true := by
    have : i = 0 ∨ i = 1 ∨ i = 2 ∨ i = 3 ∨ i = 4 ∨ i = 5 := by omega
    rcases this with rfl | rfl | rfl | rfl | rfl | rfl <;> decide
  rw [h63] at h
  simp at h
theorem ban_ban (f k : Nat) : ban (ban f k) k = ban f k := by
  apply Nat.eq_of_testBit_eq
  intro j
  rcases Nat.lt_or_ge j 32 with h | h
  · rw [ban_bit _ _ _ h, ban_bit _ _ _ h]
    cases f.testBit j <;> cases k.testBit j <;> rfl
  · rw [ban_big _ _ _ h, ban_big _ _ _ h]
theorem raw_rest {f : Nat} (hf : f < 4294967296) : ban f 63 &&& 4294967232 = f &&& 4294967232 := by
  apply Nat.eq_of_testBit_eq
  intro j
  rw [Nat.testBit_and, Nat.testBit_and]
  rcases Nat.lt_or_ge j 32 with h | h
  · rw [ban_bit _ _ _ h]
    have hd : ∀ j, j < 32 → (!Nat.testBit 63 j) = Nat.testBit 4294967232 j := by decide
    rw [hd j h]
    cases f.testBit j <;> cases Nat.testBit 4294967232 j <;> rfl
  · rw [ban_big _ _ _ h, low_bit hf h]
def Row6 (W : World) (g : Nat) : Prop := ∀ i, i < 6 → W.cell? ⟨g, i, none⟩ = some (.int .u32 ((2 ^ i : Nat) : Int))
theorem Row6.new (W : World) : Row6 (W.alloc (.cells #[.int .u32 1, .int .u32 2, .int .u32 4, .int .u32 8, .int .u32 16, .int .u32 32] 22)) W.heap.size := fun i hi => by
  rw [cell_of_row _ W.heap.size _ _ _ _ (heap_alloc_new W _)]
  have : i = 0 ∨ i = 1 ∨ i = 2 ∨ i = 3 ∨ i = 4 ∨ i = 5 := by omega
  rcases this with rfl | rfl | rfl | rfl | rfl | rfl <;> rfl
theorem Row6.stays {W W' : World} {g : Nat} (h : Row6 W g) (hs : Stp [] W [] W') : Row6 W' g := fun i hi => hs.keeps rfl (h i hi)

set_option maxHeartbeats 4000000 in
set_option maxRecDepth 100000 in
theorem raw_walk (f m t : Nat) (w : World) (ho : Ok f m t) (hT : Tabs w) : Calls Tryd.prog 6 #[av f m t] w (Truth w) := by
  have hf := ho.f
  have HT : Aside (Tabs w) := hT
  have hx := ban_lt f 63
  have HN : Aside (∀ i, i < 6 → ban f 63 &&& 2 ^ i ≠ 2 ^ i) := fun i hi => bit_no hi
  have hband : bits .and .u32 (ban f 63 : Int) 4294967232 = bits .and .u32 (f : Int) 4294967232 := by
    have h1 := bits_and hx (show 4294967232 < 4294967296 by omega)
    have h2 := bits_and hf (show 4294967232 < 4294967296 by omega)
    rw [raw_rest hf] at h1
    exact h1.trans h2.symm
  have K1 : Hid (∀ W, Calls Tryd.prog 13 #[.agg #[.int .u32 (f : Int), .int .u8 (m : Int), .int .u8 (t : Int)]] W (Tells (.agg #[.int .u32 (ban f 63 : Int), .int .u8 1, .int .u8 0]) W)) := Lib.hid fun W => raw_run f m t hf W
  have K2 : Hid (∀ W, Calls Tryd.prog 13 #[.agg #[.int .u32 (ban f 63 : Int), .int .u8 1, .int .u8 0]] W (Tells (.agg #[.int .u32 (ban f 63 : Int), .int .u8 1, .int .u8 0]) W)) := Lib.hid fun W => by
    have := raw_run (ban f 63) 1 0 hx W
    rw [ban_ban] at this
    exact this
  have K3 : Hid (∀ W (p : Nat), p < 4294967296 → Calls Tryd.prog 15 #[.agg #[.int .u32 (ban f 63 : Int), .int .u8 1, .int .u8 0], .int .u32 (p : Int)] W (Tells (.bool (decide (ban f 63 &&& p = p))) W)) := Lib.hid fun W p hp => has_run (ban f 63) 1 0 p hx hp W
  have K4 : Hid (∀ W, Calls Tryd.prog 15 #[.agg #[.int .u32 (ban f 63 : Int), .int .u8 1, .int .u8 0], .int .u32 0] W (Tells (.bool true) W)) := Lib.hid fun W => by
    have := has_run (ban f 63) 1 0 0 hx (by omega) W
    rw [decide_eq_true (by simp)] at this
    exact this
  have K5 : Hid (∀ W, Stp [] w [] W → Calls Tryd.prog 12 #[] W (Tells (.bool true) W)) := Lib.hid fun W hs => alive_run W (HT.out.stays hs)
  clear hT
  generalize ban f 63 = x at *
  unfold av
  go_enter Tryd.func6, Tryd.ntmps6
  go_wp2_with fail
  refine (K1.out _).mono ?_
  rintro _ w1 ⟨rfl, h1⟩
  have HA : Aside (At3 w1 w.heap.size f m t ∧ Stp [] w [] w1) := ⟨(At3.new w f m t).stays h1, (Stp.alloc [] w _).trans h1⟩
  clear h1
  go_wp2
  have HB : Aside (At3 ((w1.alloc (.cells #[.int .u32 (x : Int), .int .u8 1, .int .u8 0] 24)).alloc (.cells #[.int .u32 1, .int .u32 2, .int .u32 4, .int .u32 8, .int .u32 16, .int .u32 32] 22)) w.heap.size f m t ∧
      At3 ((w1.alloc (.cells #[.int .u32 (x : Int), .int .u8 1, .int .u8 0] 24)).alloc (.cells #[.int .u32 1, .int .u32 2, .int .u32 4, .int .u32 8, .int .u32 16, .int .u32 32] 22)) w1.heap.size x 1 0 ∧
      Row6 ((w1.alloc (.cells #[.int .u32 (x : Int), .int .u8 1, .int .u8 0] 24)).alloc (.cells #[.int .u32 1, .int .u32 2, .int .u32 4, .int .u32 8, .int .u32 16, .int .u32 32] 22)) (w1.heap.size + 1) ∧
      Stp [] w [] ((w1.alloc (.cells #[.int .u32 (x : Int), .int .u8 1, .int .u8 0] 24)).alloc (.cells #[.int .u32 1, .int .u32 2, .int .u32 4, .int .u32 8, .int .u32 16, .int .u32 32] 22))) := by
    have hs1 : Stp [] w1 [] (w1.alloc (.cells #[.int .u32 (x : Int), .int .u8 1, .int .u8 0] 24)) := Stp.alloc [] _ _
    refine ⟨(HA.out.1.stays hs1).stays (Stp.alloc [] _ _), At3.stays (At3.new w1 x 1 0) (Stp.alloc [] _ _), ?_, (HA.out.2.trans hs1).trans (Stp.alloc [] _ _)⟩
    have := Row6.new (w1.alloc (.cells #[.int .u32 (x : Int), .int .u8 1, .int .u8 0] 24))
    rw [World.size_alloc] at this
    exact this
  clear HA
  generalize (w1.alloc (.cells #[.int .u32 (x : Int), .int .u8 1, .int .u8 0] 24)).alloc (.cells #[.int .u32 1, .int .u32 2, .int .u32 4, .int .u32 8, .int .u32 16, .int .u32 32] 22) = w2 at *
  generalize w1.heap.size = g1 at *
  go_loopg [11] 6 (fun gk vi wr => ∃ i : Nat, vi = .int .i64 (i : Int) ∧ i ≤ 6 ∧ 6 - i ≤ gk ∧ Aside (Stp [] w2 [] wr))
  case atStart => exact ⟨0, rfl, by omega, by omega, Stp.refl _ _⟩
  case round =>
    obtain ⟨i, rfl, hi6, hg, HS⟩ := hrel
    by_cases hlt : i < 6
    · have hltz : (i : Int) < 6 := by omega
      have hc := HB.out.2.2.1.stays HS.out i hlt
      obtain ⟨c0, c1, c2, _, _, _⟩ := (HB.out.2.1.stays HS.out).cells
      have hd : decide (x &&& 2 ^ i = 2 ^ i) = false := decide_eq_false (HN.out i hlt)
      have hp : 2 ^ i < 2 ^ 32 := Nat.pow_lt_pow_right (by omega) (by omega)
      have K := K3.out wr (2 ^ i) hp
      rw [hd] at K
      have HK := Lib.hid K
      clear K hd hp
      generalize (2 ^ i : Nat) = p at *
      go_wp2_with (go_at_call 15; refine HK.out.mono ?_; rintro _ w3 ⟨rfl, h3⟩)
      go_roundg (6 - (i + 1))
      case measure => omega
      case rel => exact ⟨i + 1, by go_num, by omega, by omega, HS.out.trans h3⟩
    · have hltz : ¬ (i : Int) < 6 := by omega
      have hA : Aside (At3 wr w.heap.size f m t ∧ At3 wr g1 x 1 0 ∧ Stp [] w [] wr) := ⟨HB.out.1.stays HS.out, HB.out.2.1.stays HS.out, HB.out.2.2.2.trans HS.out⟩
      clear HS HB K3 K1 HN
      generalize w.heap.size = g0 at *
      have hKeep : Aside (∀ W, Stp [] wr [] W → W.cell? ⟨g0, 0, none⟩ = some (.int .u32 (f : Int)) ∧ W.cell? ⟨g1, 0, none⟩ = some (.int .u32 (x : Int)) ∧ W.cell? ⟨g1, 1, none⟩ = some (.int .u8 1) ∧ W.cell? ⟨g1, 2, none⟩ = some (.int .u8 0)) :=
        fun W hs => ⟨(hA.out.1.stays hs).cells.1, (hA.out.2.1.stays hs).cells.1, (hA.out.2.1.stays hs).cells.2.1, (hA.out.2.1.stays hs).cells.2.2.1⟩
      have hcur : Stp [] wr [] wr.drew := Stp.drew _ _
      go_wp2_with fail
      go_region_held (fun W => Stp [] wr [] W ∧ W.cell? ⟨g0, 0, none⟩ = some (.int .u32 (f : Int)) ∧ W.cell? ⟨g1, 0, none⟩ = some (.int .u32 (x : Int)) ∧ W.cell? ⟨g1, 1, none⟩ = some (.int .u8 1) ∧ W.cell? ⟨g1, 2, none⟩ = some (.int .u8 0))
        (first | exact ⟨hcur, hKeep.out _ hcur⟩ | assumption)
        (first
          | (go_at_call 12; refine (K5.out _ (hA.out.2.2.trans hcur)).mono ?_; rintro _ w3 ⟨rfl, s3⟩; replace hcur := hcur.trans s3; clear s3)
          | (go_at_call 13; refine (K2.out _).mono ?_; rintro _ w4 ⟨rfl, s4⟩; replace hcur := hcur.trans s4; clear s4)
          | (go_at_call 15; refine (K4.out _).mono ?_; rintro _ w5 ⟨rfl, s5⟩; replace hcur := hcur.trans s5; clear s5))
      all_goals
        go_wp2
        go_ret
        exact ⟨rfl, (hA.out.2.2.trans hcur).under⟩
end Go.Proofs.YtcjmnmcldppdhaaDoor
