/-
  Flags that are set, with and without others: plain facts.
-/
import Derived.Test.YtcjmnmcldppdhaaDoorRefA
namespace Go.Proofs.YtcjmnmcldppdhaaDoor
open Go.RowKit Go.Lib
set_option linter.unusedVariables false

/-- Are all bits of n set in f? -/
def hs (f n : Nat) : Bool := decide (f &&& n = n)
theorem hs_iff {f n : Nat} : hs f n = true ↔ ∀ i, n.testBit i = true → f.testBit i = true := by
  unfold hs
  rw [decide_eq_true_iff]
  constructor
  · intro e i hi
    rw [← e, Nat.testBit_and] at hi
    exact (Bool.and_eq_true_iff.1 hi).1
  · intro h
    apply Nat.eq_of_testBit_eq
    intro i
    rw [Nat.testBit_and]
    cases e : n.testBit i
    · simp
    · simp [h i e]
theorem hs_congr {f g n : Nat} (h : ∀ i, n.testBit i = true → f.testBit i = g.testBit i) : hs f n = hs g n := by
  rw [Bool.eq_iff_iff, hs_iff, hs_iff]
  constructor
  · intro k i hi
    rw [← h i hi]
    exact k i hi
  · intro k i hi
    rw [h i hi]
    exact k i hi
theorem ban_of {a b i : Nat} (h : (ban a b).testBit i = true) : i < 32 ∧ a.testBit i = true ∧ b.testBit i = false := by
  rcases Nat.lt_or_ge i 32 with g | g
  · rw [ban_bit _ _ _ g] at h
    simp at h
    exact ⟨g, h⟩
  · rw [ban_big _ _ _ g] at h
    cases h
theorem with_a (f k : Nat) : hs (f ||| k) k = true := hs_iff.2 fun i hi => by rw [Nat.testBit_or, hi]; simp
theorem with_b {f k : Nat} (hk : k < 4294967296) (h : k ≠ 0) : hs (ban f k) k = false := by
  cases e : hs (ban f k) k
  · rfl
  · exfalso
    have := hs_iff.1 e
    apply h
    apply Nat.eq_of_testBit_eq
    intro i
    cases g : k.testBit i
    · simp
    · have := (ban_of (this i g)).2.2
      rw [g] at this
      cases this
theorem with_c (f k n : Nat) : hs (f ||| k) (ban n k) = hs f (ban n k) := hs_congr fun i hi => by
  rw [Nat.testBit_or, (ban_of hi).2.2]
  simp
theorem with_d (f k n : Nat) : hs (ban f k) (ban n k) = hs f (ban n k) := hs_congr fun i hi => by
  have := ban_of hi
  rw [ban_bit _ _ _ this.1, this.2.2]
  simp
theorem with_e (f k : Nat) : wth (f ||| k) k true = f ||| k := by
  show (f ||| k) ||| k = f ||| k
  rw [Nat.or_assoc, Nat.or_self]
theorem with_f (f k : Nat) : wth (f ||| k) k false = ban f k := by
  show ban (f ||| k) k = ban f k
  apply Nat.eq_of_testBit_eq
  intro j
  rcases Nat.lt_or_ge j 32 with h | h
  · rw [ban_bit _ _ _ h, ban_bit _ _ _ h, Nat.testBit_or]
    cases f.testBit j <;> cases k.testBit j <;> rfl
  · rw [ban_big _ _ _ h, ban_big _ _ _ h]

theorem hs_step {f n i : Nat} (h : ∀ j, j < i → n.testBit j = true → f.testBit j = true) (hb : n.testBit i = true → f.testBit i = true) : ∀ j, j < i + 1 → n.testBit j = true → f.testBit j = true := fun j hj hn => by
  rcases Nat.lt_or_ge j i with g | g
  · exact h j g hn
  · obtain rfl : j = i := by omega
    exact hb hn
theorem hs_end {f n : Nat} (hn : n < 4294967296) (h : ∀ j, j < 32 → n.testBit j = true → f.testBit j = true) : hs f n = true := hs_iff.2 fun i hi => by
  rcases Nat.lt_or_ge i 32 with g | g
  · exact h i g hi
  · rw [low_bit hn g] at hi
    cases hi
theorem hs_no {f n i : Nat} (h1 : n.testBit i = true) (h2 : f.testBit i = false) : hs f n = false := by
  cases e : hs f n
  · rfl
  · have := hs_iff.1 e i h1
    rw [h2] at this
    cases this
theorem wth_bit {f k i : Nat} (on : Bool) (hi : i < 32) : (wth f k on).testBit i = ((k.testBit i && on) || (!k.testBit i && f.testBit i)) := by
  cases on
  · show (ban f k).testBit i = _
    rw [ban_bit _ _ _ hi]
    cases f.testBit i <;> cases k.testBit i <;> rfl
  · show (f ||| k).testBit i = _
    rw [Nat.testBit_or]
    cases f.testBit i <;> cases k.testBit i <;> rfl
theorem mod_step (x i : Nat) : x % 2 ^ (i + 1) = x % 2 ^ i + (if x.testBit i then 2 ^ i else 0) := by
  rw [Nat.mod_pow_succ, Nat.testBit_eq_decide_div_mod_eq]
  by_cases h : x / 2 ^ i % 2 = 1
  · simp [h]
  · have h0 : x / 2 ^ i % 2 = 0 := by omega
    simp [h0]

set_option maxHeartbeats 1000000 in
set_option maxRecDepth 100000 in
theorem rhas_run (f m t n : Nat) (hf : f < 4294967296) (hn : n < 4294967296) (w : World) : Calls Tryd.prog 16 #[av f m t, .int .u32 (n : Int)] w (Tells (.bool (hs f n)) w) := by
  have KB : Hid (∀ (W : World) (q i : Nat), q < 4294967296 → i ≤ 32 → Calls Tryd.prog 24 #[.int .u32 (q : Int), .int .i64 (i : Int)] W (Gives (.bool (q.testBit i)) W)) := Lib.hid fun W q i h1 h2 => bit_run q i h1 h2 W
  unfold av
  go_enter Tryd.func16, Tryd.ntmps16
  go_wp2
  have HA : Aside (At3 (w.alloc (.cells #[.int .u32 (f : Int), .int .u8 (m : Int), .int .u8 (t : Int)] 24)) w.heap.size f m t ∧ Stp [] w [] (w.alloc (.cells #[.int .u32 (f : Int), .int .u8 (m : Int), .int .u8 (t : Int)] 24))) := ⟨At3.new w f m t, Stp.alloc [] w _⟩
  generalize w.alloc (.cells #[.int .u32 (f : Int), .int .u8 (m : Int), .int .u8 (t : Int)] 24) = w0 at *
  have c0 := HA.out.1.cells.1
  generalize w.heap.size = g0 at *
  go_loopg [5] 32 (fun gk vi wr => ∃ i : Nat, vi = .int .i64 (i : Int) ∧ i ≤ 32 ∧ 32 - i ≤ gk ∧ Aside (wr = w0 ∧ ∀ j, j < i → n.testBit j = true → f.testBit j = true))
  case atStart => exact ⟨0, rfl, by omega, by omega, rfl, fun j hj => by omega⟩
  case round =>
    obtain ⟨i, rfl, hi, hg, HS⟩ := hrel
    obtain rfl : wr = w0 := HS.out.1
    by_cases hlt : i < 32
    · have hltz : (i : Int) < 32 := by omega
      have K1 := KB.out wr n i hn hi
      have K2 := KB.out wr f i hf hi
      cases hb : n.testBit i
      · rw [hb] at K1
        have HE : Aside (∀ j, j < i + 1 → n.testBit j = true → f.testBit j = true) := hs_step HS.out.2 (fun e => by rw [hb] at e; cases e)
        have HK := Lib.hid K1
        clear K1 K2 HS hb
        go_wp2_with (go_at_call 24; refine HK.out.mono ?_; rintro _ _ ⟨rfl, rfl⟩)
        go_roundg (32 - (i + 1))
        case measure => omega
        case rel => exact ⟨i + 1, by go_num, by omega, by omega, rfl, HE.out⟩
      · rw [hb] at K1
        cases hc : f.testBit i
        · rw [hc] at K2
          have HE : Aside (hs f n = false) := hs_no hb hc
          have HK := Lib.hid (And.intro K1 K2)
          clear K1 K2 HS hb hc
          go_wp2_with fail
          refine HK.out.1.mono ?_
          rintro _ w1 ⟨rfl, rfl⟩
          go_wp2_with fail
          refine HK.out.2.mono ?_
          rintro _ w1 ⟨rfl, rfl⟩
          go_wp2
          go_ret
          exact ⟨by rw [HE.out]; rfl, HA.out.2⟩
        · rw [hc] at K2
          have HE : Aside (∀ j, j < i + 1 → n.testBit j = true → f.testBit j = true) := hs_step HS.out.2 (fun _ => hc)
          have HK := Lib.hid (And.intro K1 K2)
          clear K1 K2 HS hb hc
          go_wp2_with fail
          refine HK.out.1.mono ?_
          rintro _ w1 ⟨rfl, rfl⟩
          go_wp2_with fail
          refine HK.out.2.mono ?_
          rintro _ w1 ⟨rfl, rfl⟩
          go_wp2
          go_roundg (32 - (i + 1))
          case measure => omega
          case rel => exact ⟨i + 1, by go_num, by omega, by omega, rfl, HE.out⟩
    · have hltz : ¬ (i : Int) < 32 := by omega
      obtain rfl : i = 32 := by omega
      have HE : Aside (hs f n = true) := hs_end hn HS.out.2
      clear HS
      go_wp2
      go_ret
      exact ⟨by rw [HE.out]; rfl, HA.out.2⟩

set_option maxHeartbeats 2000000 in
set_option maxRecDepth 100000 in
theorem rwith_run (f m t k : Nat) (on : Bool) (hf : f < 4294967296) (hk : k < 4294967296) (w : World) : Calls Tryd.prog 18 #[av f m t, .int .u32 (k : Int), .bool on] w (Tells (av (wth f k on) m t) w) := by
  have KB : Hid (∀ (W : World) (q i : Nat), q < 4294967296 → i ≤ 32 → Calls Tryd.prog 24 #[.int .u32 (q : Int), .int .i64 (i : Int)] W (Gives (.bool (q.testBit i)) W)) := Lib.hid fun W q i h1 h2 => bit_run q i h1 h2 W
  have hx := wth_lt hf hk on
  have HB : Aside (∀ i, i < 32 → (wth f k on).testBit i = ((k.testBit i && on) || (!k.testBit i && f.testBit i))) := fun i hi => wth_bit on hi
  generalize wth f k on = x at *
  show Calls _ _ #[.agg #[.int .u32 (f : Int), .int .u8 (m : Int), .int .u8 (t : Int)], _, _] w (Tells (.agg #[.int .u32 (x : Int), .int .u8 (m : Int), .int .u8 (t : Int)]) w)
  go_enter Tryd.func18, Tryd.ntmps18
  go_wp2
  have HA : Aside (At3 ((w.alloc (.cells #[.int .u32 (f : Int), .int .u8 (m : Int), .int .u8 (t : Int)] 24)).alloc (.cells #[.int .u32 0, .int .u8 0, .int .u8 0] 24)) w.heap.size f m t ∧
      At3 ((w.alloc (.cells #[.int .u32 (f : Int), .int .u8 (m : Int), .int .u8 (t : Int)] 24)).alloc (.cells #[.int .u32 0, .int .u8 0, .int .u8 0] 24)) (w.heap.size + 1) 0 0 0 ∧
      Stp [] w [] ((w.alloc (.cells #[.int .u32 (f : Int), .int .u8 (m : Int), .int .u8 (t : Int)] 24)).alloc (.cells #[.int .u32 0, .int .u8 0, .int .u8 0] 24))) :=
    ⟨(At3.new w f m t).stays (Stp.alloc [] _ _), heap_alloc2_new w _ _, (Stp.alloc [] _ _).trans (Stp.alloc [] _ _)⟩
  generalize (w.alloc (.cells #[.int .u32 (f : Int), .int .u8 (m : Int), .int .u8 (t : Int)] 24)).alloc (.cells #[.int .u32 0, .int .u8 0, .int .u8 0] 24) = w0 at *
  obtain ⟨c0, c1, c2, q0, q1, q2⟩ := HA.out.1.cells
  obtain ⟨d0, d1, d2, r0, r1, r2⟩ := HA.out.2.1.cells
  have hge : w.heap.size ≤ w.heap.size := Nat.le_refl _
  obtain ⟨g0, hg0⟩ : ∃ g, g = w.heap.size := ⟨_, rfl⟩
  obtain ⟨g1, hg1⟩ : ∃ g, g = w.heap.size + 1 := ⟨_, rfl⟩
  rw [← hg1] at HA d0 d1 d2 r0 r1 r2 ⊢
  rw [← hg0] at HA c0 c1 c2 q0 q1 q2 ⊢
  have hne : ¬ g0 = g1 := by omega
  have HG : Aside (w.heap.size ≤ g0 ∧ w.heap.size ≤ g1) := ⟨by omega, by omega⟩
  clear hg0 hg1 hge
  go_loopg [7, 8, 9] 32 (fun gk v7 v8 vi wr => ∃ i N P : Nat, v7 = .int .u32 (N : Int) ∧ v8 = .int .u32 (P : Int) ∧ vi = .int .i64 (i : Int) ∧ i ≤ 32 ∧ 32 - i ≤ gk ∧ Aside (wr = w0 ∧ N = x % 2 ^ i ∧ P = 2 ^ i % 4294967296))
  case atStart => exact ⟨0, 0, 1, rfl, rfl, rfl, by omega, by omega, rfl, by simp [Nat.mod_one], by decide⟩
  case round =>
    obtain ⟨i, N, P, rfl, rfl, rfl, hi, hg, HS⟩ := hrel
    obtain rfl : wr = w0 := HS.out.1
    by_cases hlt : i < 32
    · have hltz : (i : Int) < 32 := by omega
      have K1 := KB.out wr k i hk hi
      have K2 := KB.out wr f i hf hi
      have hp32 : 2 ^ i < 2 ^ 32 := Nat.pow_lt_pow_right (by omega) hlt
      have hP : P = 2 ^ i := by rw [HS.out.2.2]; exact Nat.mod_eq_of_lt hp32
      have hstep := mod_step x i
      have hlt2 : x % 2 ^ (i + 1) < 4294967296 := Nat.lt_of_le_of_lt (Nat.mod_le _ _) hx
      have hmul : IntKind.u32.wrap ((P : Int) * 2) = ((2 ^ (i + 1) % 4294967296 : Nat) : Int) := by
        rw [IntKind.wrap_u32, hP, Nat.pow_succ]
        omega
      have hN := HS.out.2.1
      have hb := HB.out i hlt
      rw [← hN, ← hP] at hstep
      have hPlt : P < 4294967296 := by rw [hP]; exact hp32
      cases h1 : k.testBit i <;> cases h2 : f.testBit i <;> cases on
      all_goals
        rw [h1] at K1 hb
        rw [h2] at K2 hb
        simp at hb
        rw [hb] at hstep
        simp only [if_true, Bool.false_eq_true, if_false, Nat.add_zero] at hstep
        have HK := Lib.hid (And.intro K1 K2)
        clear K1 K2 HS h1 h2 hb hP hN hp32
        obtain ⟨N', eN⟩ : ∃ N', N' = x % 2 ^ (i + 1) := ⟨_, rfl⟩
        obtain ⟨P', eP⟩ : ∃ P', P' = 2 ^ (i + 1) % 4294967296 := ⟨_, rfl⟩
        rw [← eN] at hstep hlt2
        rw [← eP] at hmul
        have HX : Aside (N' = x % 2 ^ (i + 1) ∧ P' = 2 ^ (i + 1) % 4294967296) := ⟨eN, eP⟩
        clear eN eP
        try (have hsum2 : (N : Int) + (P : Int) ≤ 4294967295 := by omega)
        go_wp2_with (first
          | (go_at_call_of 24 (Value.int .u32 (k : Int)); refine HK.out.1.mono ?_; rintro _ _ ⟨rfl, rfl⟩)
          | (go_at_call_of 24 (Value.int .u32 (f : Int)); refine HK.out.2.mono ?_; rintro _ _ ⟨rfl, rfl⟩))
        go_roundg (32 - (i + 1))
        case measure => omega
        case rel => exact ⟨i + 1, N', P', by first | (rw [hstep]; go_num) | rw [hstep] | go_num, by go_num, by go_num, by omega, by omega, rfl, HX.out.1, HX.out.2⟩
    · have hltz : ¬ (i : Int) < 32 := by omega
      obtain rfl : i = 32 := by omega
      have hN : N = x := by rw [HS.out.2.1]; exact Nat.mod_eq_of_lt hx
      subst hN
      clear HS
      go_wp2
      have s0 : Stp [g0] wr [g0] (wr.setCell ⟨g0, 0, none⟩ (.int .u32 (N : Int))) := Stp.setCell wr _ (by simp)
      have hA1 : At3 (wr.setCell ⟨g0, 0, none⟩ (.int .u32 (N : Int))) g1 0 0 0 := (s0.block g1 HA.out.2.1.lt (by simp; omega)).trans HA.out.2.1
      refine bodyPost_ret (res_attrs rfl _ _ g1 N m t rfl (hA1.set N m t)) rfl ?_
      exact ⟨rfl, (((HA.out.2.2.fresh s0 (by simp; exact HG.out.1)).none).fresh (At3.stp _ _ _ _ _) (by simp; exact HG.out.2)).none⟩
end Go.Proofs.YtcjmnmcldppdhaaDoor
