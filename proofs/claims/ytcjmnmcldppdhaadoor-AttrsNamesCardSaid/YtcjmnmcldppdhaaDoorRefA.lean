/-
  The document's flags: names, raw attributes, bits, and with and without flags; and attrs.Names.
-/
import Derived.Test.YtcjmnmcldppdhaaDoorWith
import Derived.Test.YtcjmnmcldppdhaaDoorRead
namespace Go.Proofs.YtcjmnmcldppdhaaDoor
open Go.RowKit Go.Lib
set_option linter.unusedVariables false

set_option maxHeartbeats 1000000 in
set_option maxRecDepth 100000 in
theorem bit_run (n i : Nat) (hn : n < 4294967296) (hi : i ≤ 32) (w : World) : Calls Tryd.prog 24 #[.int .u32 (n : Int), .int .i64 (i : Int)] w (Gives (.bool (n.testBit i)) w) := by
  have HB : Aside (∀ k : Nat, ((((n / 2 ^ k % 2 : Nat) : Int)) == 1) = n.testBit k) := fun k => by
    rw [Nat.testBit_eq_decide_div_mod_eq]
    by_cases h : n / 2 ^ k % 2 = 1
    · simp [h]
    · rw [decide_eq_false h]
      exact beq_eq_false_iff_ne.2 (by omega)
  go_enter Tryd.func24, Tryd.ntmps24
  go_wp2
  go_loopg [0, 5] i (fun gk v0 vi wr => ∃ k q : Nat, v0 = .int .u32 (q : Int) ∧ vi = .int .i64 (k : Int) ∧ k ≤ i ∧ i - k ≤ gk ∧ q ≤ n ∧ Aside (q = n / 2 ^ k ∧ wr = w))
  case atStart => exact ⟨0, n, rfl, rfl, by omega, by omega, by omega, by simp, rfl⟩
  case round =>
    obtain ⟨k, q, rfl, rfl, hk, hg, hq, HS⟩ := hrel
    obtain rfl : wr = w := HS.out.2
    by_cases hlt : k < i
    · have hltz : (k : Int) < (i : Int) := by omega
      have hd : (q : Int) / 2 = ((q / 2 : Nat) : Int) := by omega
      have HE : Aside (q / 2 = n / 2 ^ (k + 1)) := by
        show q / 2 = n / 2 ^ (k + 1)
        rw [HS.out.1, Nat.pow_succ, Nat.div_div_eq_div_mul]
      have hle : q / 2 ≤ n := by omega
      clear HS
      generalize q / 2 = q' at *
      go_wp2
      go_roundg (i - (k + 1))
      case measure => omega
      case rel => exact ⟨k + 1, q', by go_num, by go_num, by omega, by omega, hle, HE.out, rfl⟩
    · have hltz : ¬ (k : Int) < (i : Int) := by omega
      obtain rfl : k = i := by omega
      have hb := HB.out k
      have e := HS.out.1
      rw [← e] at hb
      have hm : (q : Int) % 2 = ((q % 2 : Nat) : Int) := by omega
      clear HS HB e
      generalize n.testBit k = b at *
      generalize q % 2 = r at *
      go_wp2
      go_ret
      exact ⟨rfl, rfl⟩

/-! ### Names -/
def Nam (W : World) (g : Nat) : Prop := ∀ i, i < 7 → W.cell? ⟨g, i, none⟩ = some (.string (st (nm i)))
theorem Nam.stays {W W' : World} {g : Nat} (h : Nam W g) (hs : Stp [] W [] W') : Nam W' g := fun i hi => hs.keeps rfl (h i hi)
theorem Nam.new (W : World) : Nam (W.alloc (.cells #[.string ⟨#[101, 99, 104, 111]⟩, .string ⟨#[99, 97, 110, 111, 110]⟩, .string ⟨#[115, 105, 103, 110, 97, 108, 115]⟩, .string ⟨#[101, 120, 116, 101, 110, 100]⟩, .string ⟨#[102, 108, 111, 119]⟩, .string ⟨#[99, 114, 116, 111, 110, 108]⟩, .string ⟨#[112, 111, 115, 116]⟩] 9)) W.heap.size := fun i hi => by
  rw [cell_of_row _ W.heap.size _ _ _ _ (heap_alloc_new W _)]
  have : i = 0 ∨ i = 1 ∨ i = 2 ∨ i = 3 ∨ i = 4 ∨ i = 5 ∨ i = 6 := by omega
  rcases this with rfl | rfl | rfl | rfl | rfl | rfl | rfl <;> rfl
set_option maxHeartbeats 1000000 in
set_option maxRecDepth 100000 in
theorem rnames_run (w : World) : Calls Tryd.prog 11 #[] w fun e w' => ∃ g, e = .returned (.slice (some ⟨g, 0, none⟩) 7 7) ∧ Nam w' g ∧ Stp [] w [] w' := by
  go_enter Tryd.func11, Tryd.ntmps11
  go_wp2
  go_ret
  exact ⟨_, rfl, Nam.new w, Stp.alloc _ _ _⟩
theorem nms_take : ∀ i, i < 7 → nms.take (i + 1) = nms.take i ++ [nm i] := by decide
set_option maxHeartbeats 1000000 in
set_option maxRecDepth 100000 in
theorem names_run (w : World) (hT : Tabs w) : Calls Tryd.prog 10 #[] w fun e w' => ∃ v, e = .returned v ∧ SOwn w' w.heap.size v nms ∧ Stp [] w [] w' := by
  have c0 := hT.nam 0 (by omega)
  have c1 := hT.nam 1 (by omega)
  have c2 := hT.nam 2 (by omega)
  have c3 := hT.nam 3 (by omega)
  have c4 := hT.nam 4 (by omega)
  have c5 := hT.nam 5 (by omega)
  have c6 := hT.nam 6 (by omega)
  simp only [Nat.mul_zero, Nat.zero_add, Nat.mul_one, Nat.reduceMul, Nat.reduceAdd] at c0 c1 c2 c3 c4 c5 c6
  clear hT
  go_enter Tryd.func10, Tryd.ntmps10
  go_wp2
  clear c0 c1 c2 c3 c4 c5 c6
  obtain ⟨V, hV⟩ : ∃ V, V = NV := ⟨_, rfl⟩
  have HV : Hid (∀ i : Nat, i < 7 → ∀ W, (Instr.index 47 V (.int .i64 (i : Int))).run Tryd.prog W = .ok (.agg #[.int .u32 ((2 ^ i : Nat) : Int), .string (st (nm i))]) W) := Lib.hid (by rw [hV]; exact nv_index)
  unfold NV at hV
  rw [← hV]
  clear hV
  go_loopg [1, 5] 7 (fun gk v1 vi wr => ∃ i : Nat, vi = .int .i64 (i : Int) ∧ i ≤ 7 ∧ 7 - i ≤ gk ∧ Aside (SOwn wr w.heap.size v1 (nms.take i) ∧ Stp [] w [] wr))
  case atStart => exact ⟨0, rfl, by omega, by omega, SOwn.nil _ _, Stp.refl _ _⟩
  case round =>
    obtain ⟨i, rfl, hi7, hg, HS⟩ := hrel
    by_cases hlt : i < 7
    · have hltz : (i : Int) < 7 := by omega
      have hix := HV.out i hlt
      obtain ⟨hO, hSt⟩ := HS.out
      obtain ⟨a3, cap3, hv3, hn3, hc3, hm3, hr3⟩ := hO.form
      subst hv3
      have hnl : (nms.take i).length ≤ 7 := by rw [List.length_take]; omega
      have HE : Aside (nms.take (i + 1) = nms.take i ++ [nm i]) := nms_take i hlt
      generalize (2 ^ i : Nat) = p at *
      generalize nm i = s at *
      have hone := one_str (wr.alloc (.cells #[.int .u32 (p : Int), .string (st s)] 46)) (st s) s rfl
      have hsz1 : (wr.alloc (.cells #[.int .u32 (p : Int), .string (st s)] 46)).heap.size = wr.heap.size + 1 := World.size_alloc _ _
      rw [hsz1] at hone
      have hst2 : Stp [] wr [] ((wr.alloc (.cells #[.int .u32 (p : Int), .string (st s)] 46)).alloc (.cells #[.string (st s)] 9)) := (Stp.alloc _ _ _).trans (Stp.alloc _ _ _)
      have HL := Lib.hid (And.intro (hO.stays hst2) (And.intro (hSt.trans hst2) (And.intro hone hSt.size)))
      clear HS hO hSt hr3 hn3 hm3 hst2 hone hsz1
      go_wp2_with (at_builtin
                   refine wpList_appS rfl (.tmp 8) (.tmp 11) rfl w.heap.size (.slice a3 (nms.take i).length cap3) (nms.take i) rfl HL.out.1 ⟨wr.heap.size + 1, 0, none⟩ 1 1 [s] rfl rfl HL.out.2.2.1 (by simp only [List.length_singleton]; omega) (by have := HL.out.2.2.2; rw [World.size_alloc, World.size_alloc]; omega) ?_
                   intro v2 w2 ho2 hg2 hv2
                   have HW : Aside (SOwn w2 w.heap.size v2 (nms.take i ++ [s]) ∧ Stp [] w [] w2) := ⟨ho2, HL.out.1.grown (Nat.le_refl _) HL.out.2.1 hg2⟩
                   clear ho2 hg2 hv2)
      go_roundg (7 - (i + 1))
      case measure => omega
      case rel => exact ⟨i + 1, by go_num, by omega, by omega, by rw [HE.out]; exact HW.out.1, HW.out.2⟩
    · have hltz : ¬ (i : Int) < 7 := by omega
      obtain rfl : i = 7 := by omega
      go_wp2
      go_ret
      exact ⟨_, rfl, HS.out.1, HS.out.2⟩

/-! ### Raw, Has, With -/
theorem ban63 {f : Nat} (hf : f < 4294967296) : ban f 63 = f - f % 64 := by
  have h1 : ban f 63 = hi f 6 := by
    apply Nat.eq_of_testBit_eq
    intro j
    rw [hi_testBit]
    rcases Nat.lt_or_ge j 32 with h | h
    · rw [ban_bit _ _ _ h]
      have hd : ∀ j, j < 32 → (!Nat.testBit 63 j) = decide (6 ≤ j) := by decide
      rw [hd j h, Bool.and_comm]
    · rw [ban_big _ _ _ h, low_bit hf h]
      simp
  rw [h1]
  unfold hi
  have := Nat.div_add_mod f (2 ^ 6)
  rw [Nat.mul_comm] at this
  omega
set_option maxHeartbeats 1000000 in
set_option maxRecDepth 100000 in
theorem rraw_run (f m t : Nat) (hf : f < 4294967296) (w : World) : Calls Tryd.prog 14 #[av f m t] w (Tells (av (ban f 63) 1 0) w) := by
  have hb := ban63 hf
  have hlt := ban_lt f 63
  have hm : (f : Int) % 64 = ((f % 64 : Nat) : Int) := by omega
  have hs : (f : Int) - ((f % 64 : Nat) : Int) = (ban f 63 : Int) := by omega
  have hle : f % 64 ≤ f := Nat.mod_le _ _
  show Calls _ _ #[.agg #[.int .u32 (f : Int), .int .u8 (m : Int), .int .u8 (t : Int)]] w (Tells (.agg #[.int .u32 (ban f 63 : Int), .int .u8 1, .int .u8 0]) w)
  clear hb
  generalize ban f 63 = x at *
  generalize f % 64 = r at *
  go_enter Tryd.func14, Tryd.ntmps14
  go_wp2
  refine bodyPost_ret (res_attrs rfl _ _ (w.heap.size + 1) x 1 0 rfl (heap_alloc2_new w _ _)) rfl ?_
  exact ⟨rfl, (Stp.alloc _ _ _).trans (Stp.alloc _ _ _)⟩
end Go.Proofs.YtcjmnmcldppdhaaDoor
