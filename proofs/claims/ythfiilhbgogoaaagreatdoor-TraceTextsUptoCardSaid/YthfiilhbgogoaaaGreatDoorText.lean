/-
  attrs.flagsText and attrs.Text: the document's texts.
-/
import Derived.Test.YthfiilhbgogoaaaGreatDoorTabs
namespace Go.Proofs.YthfiilhbgogoaaaGreatDoor
open Go.RowKit Go.Lib
set_option linter.unusedVariables false

/-! ### How long texts are -/
theorem join_len (c : UInt8) : ∀ (r : List (List UInt8)), (∀ p ∈ r, p.length ≤ 9) → (Lib.join r [c]).length ≤ 10 * r.length
  | [], _ => by simp [Lib.join_nil]
  | [x], h => by
    have := h x (by simp)
    rw [Lib.join_one]
    simp
    omega
  | x :: y :: r, h => by
    have h1 := h x (by simp)
    have h2 := join_len c (y :: r) (fun p hp => h p (by simp at hp ⊢; exact .inr hp))
    rw [join_cons2]
    simp only [List.length_append, List.length_cons] at h2 ⊢
    omega
theorem nmd_len (f : Nat) : ∀ i, (nmd f i).length ≤ i
  | 0 => by simp [nmd]
  | i + 1 => by
    have := nmd_len f i
    unfold nmd
    split <;> simp <;> omega
theorem nm_len : ∀ j, j < 7 → (nm j).length ≤ 9 := by decide
theorem parts_len (f : Nat) : (parts f).length ≤ 8 := by
  have := nmd_len f 7
  unfold parts
  split <;> simp <;> omega
theorem join_parts_len {f : Nat} (hf : f < 4294967296) : (Lib.join (parts f) [43]).length ≤ 100 := by
  have h1 := parts_len f
  have h2 := join_len 43 (parts f) (fun p hp => by
    rcases parts_mem f p hp with ⟨j, hj, rfl, _⟩ | ⟨rfl, _⟩
    · exact nm_len j hj
    · have := dig_len (b := 16) (by omega) 7 (hi f 7) (by have := hi_le f 7; omega)
      simp
      omega)
  omega
theorem ftext_len {f : Nat} (hf : f < 4294967296) : (ftext f).length ≤ 100 := by
  have := join_parts_len hf
  unfold ftext
  split
  · simp
  · exact this
theorem dig10_len {n : Nat} (h : n < 256) : (dig 10 n).length ≤ 3 := dig_len (by omega) 2 n (by omega)
theorem text_len {f m t : Nat} (h : Ok f m t) : (text f m t).length ≤ 200 := by
  have h1 := ftext_len h.f
  have h2 := dig10_len h.m
  have h3 := dig10_len h.t
  unfold text
  simp
  omega

/-! ### The names, as a value -/
def NV : Value := .agg #[.int .u32 1, .string (st (nm 0)), .int .u32 2, .string (st (nm 1)), .int .u32 4, .string (st (nm 2)), .int .u32 8, .string (st (nm 3)), .int .u32 16, .string (st (nm 4)), .int .u32 32, .string (st (nm 5)), .int .u32 64, .string (st (nm 6))]
theorem nv_0 (W : World) : (Instr.index 117 NV (.int .i64 ((0 : Nat) : Int))).run Tryz.prog W = .ok (.agg #[.int .u32 ((2 ^ 0 : Nat) : Int), .string (st (nm 0))]) W := by kernel_rfl
theorem nv_1 (W : World) : (Instr.index 117 NV (.int .i64 ((1 : Nat) : Int))).run Tryz.prog W = .ok (.agg #[.int .u32 ((2 ^ 1 : Nat) : Int), .string (st (nm 1))]) W := by kernel_rfl
theorem nv_2 (W : World) : (Instr.index 117 NV (.int .i64 ((2 : Nat) : Int))).run Tryz.prog W = .ok (.agg #[.int .u32 ((2 ^ 2 : Nat) : Int), .string (st (nm 2))]) W := by kernel_rfl
theorem nv_3 (W : World) : (Instr.index 117 NV (.int .i64 ((3 : Nat) : Int))).run Tryz.prog W = .ok (.agg #[.int .u32 ((2 ^ 3 : Nat) : Int), .string (st (nm 3))]) W := by kernel_rfl
theorem nv_4 (W : World) : (Instr.index 117 NV (.int .i64 ((4 : Nat) : Int))).run Tryz.prog W = .ok (.agg #[.int .u32 ((2 ^ 4 : Nat) : Int), .string (st (nm 4))]) W := by kernel_rfl
theorem nv_5 (W : World) : (Instr.index 117 NV (.int .i64 ((5 : Nat) : Int))).run Tryz.prog W = .ok (.agg #[.int .u32 ((2 ^ 5 : Nat) : Int), .string (st (nm 5))]) W := by kernel_rfl
theorem nv_6 (W : World) : (Instr.index 117 NV (.int .i64 ((6 : Nat) : Int))).run Tryz.prog W = .ok (.agg #[.int .u32 ((2 ^ 6 : Nat) : Int), .string (st (nm 6))]) W := by kernel_rfl
theorem nv_index (i : Nat) (hi : i < 7) (W : World) : (Instr.index 117 NV (.int .i64 (i : Int))).run Tryz.prog W = .ok (.agg #[.int .u32 ((2 ^ i : Nat) : Int), .string (st (nm i))]) W := by
  have h : i = 0 ∨ i = 1 ∨ i = 2 ∨ i = 3 ∨ i = 4 ∨ i = 5 ∨ i = 6 := by omega
  rcases h with rfl | rfl | rfl | rfl | rfl | rfl | rfl
  · exact nv_0 W
  · exact nv_1 W
  · exact nv_2 W
  · exact nv_3 W
  · exact nv_4 W
  · exact nv_5 W
  · exact nv_6 W
theorem and_yes {f i : Nat} (hf : f < 4294967296) (hi7 : i < 7) (h : f.testBit i = true) : bits .and .u32 (hi f i : Int) ((2 ^ i : Nat) : Int) = ((2 ^ i : Nat) : Int) := by
  have : 2 ^ i < 2 ^ 32 := Nat.pow_lt_pow_right (by omega) (by omega)
  rw [bits_and (Nat.lt_of_le_of_lt (hi_le f i) hf) this, hi_and, if_pos h]
theorem and_no {f i : Nat} (hf : f < 4294967296) (hi7 : i < 7) (h : f.testBit i = false) : bits .and .u32 (hi f i : Int) ((2 ^ i : Nat) : Int) = 0 := by
  have : 2 ^ i < 2 ^ 32 := Nat.pow_lt_pow_right (by omega) (by omega)
  rw [bits_and (Nat.lt_of_le_of_lt (hi_le f i) hf) this, hi_and, h]
  simp
theorem nmd_yes {f i : Nat} (h : f.testBit i = true) : nmd f (i + 1) = nmd f i ++ [nm i] := by rw [nmd, if_pos h]
theorem nmd_no {f i : Nat} (h : f.testBit i = false) : nmd f (i + 1) = nmd f i := by rw [nmd, h]; simp
theorem st_nil : st [] = ⟨#[]⟩ := rfl

set_option maxHeartbeats 1000000 in
set_option maxRecDepth 100000 in
theorem flags_run (f : Nat) (hf : f < 4294967296) (w : World) (hT : Tabs w) : Calls Tryz.prog 66 #[.int .u32 (f : Int)] w (Tells (.string (st (ftext f))) w) := by
  have c0 := hT.nam 0 (by omega)
  have c1 := hT.nam 1 (by omega)
  have c2 := hT.nam 2 (by omega)
  have c3 := hT.nam 3 (by omega)
  have c4 := hT.nam 4 (by omega)
  have c5 := hT.nam 5 (by omega)
  have c6 := hT.nam 6 (by omega)
  simp only [Nat.mul_zero, Nat.zero_add, Nat.mul_one, Nat.reduceMul, Nat.reduceAdd] at c0 c1 c2 c3 c4 c5 c6
  have HT : Aside (Tabs w) := hT
  clear hT
  go_enter Tryz.func66, Tryz.ntmps66
  go_wp2
  clear c0 c1 c2 c3 c4 c5 c6
  obtain ⟨V, hV⟩ : ∃ V, V = NV := ⟨_, rfl⟩
  have HV : Hid (∀ i : Nat, i < 7 → ∀ W, (Instr.index 117 V (.int .i64 (i : Int))).run Tryz.prog W = .ok (.agg #[.int .u32 ((2 ^ i : Nat) : Int), .string (st (nm i))]) W) := Lib.hid (by rw [hV]; exact nv_index)
  unfold NV at hV
  rw [← hV]
  clear hV
  go_loopg [0, 3, 7] 7 (fun gk v0 v3 vi wr => ∃ i F : Nat, v0 = .int .u32 (F : Int) ∧ vi = .int .i64 (i : Int) ∧ i ≤ 7 ∧ 7 - i ≤ gk ∧ Aside (F = hi f i ∧ SOwn wr w.heap.size v3 (nmd f i) ∧ Stp [] w [] wr))
  case atStart => exact ⟨0, f, rfl, rfl, by omega, by omega, (hi_zero f).symm, SOwn.nil _ _, Stp.refl _ _⟩
  case round =>
    obtain ⟨i, F, rfl, rfl, hi7, hg, HS⟩ := hrel
    by_cases hlt : i < 7
    · have hltz : (i : Int) < 7 := by omega
      have hix := HV.out i hlt
      obtain ⟨hF, hO, hSt⟩ := HS.out
      subst hF
      obtain ⟨a3, cap3, hv3, hn3, hc3, hm3, hr3⟩ := hO.form
      subst hv3
      have hnl := nmd_len f i
      have hp : (2 ^ i : Nat) ≠ 0 := by have := Nat.two_pow_pos i; omega
      cases hb : f.testBit i
      · have hA := and_no hf hlt hb
        have HE : Aside (hi f i = hi f (i + 1) ∧ nmd f (i + 1) = nmd f i) := ⟨hi_skip hb, nmd_no hb⟩
        generalize (2 ^ i : Nat) = p at *
        generalize nm i = s at *
        have HR : Aside (SOwn wr w.heap.size (.slice a3 (nmd f i).length cap3) (nmd f i) ∧ Stp [] w [] wr) := ⟨hO, hSt⟩
        clear hb HS hO hSt hp hr3 hn3 hm3
        have HO : Aside (SOwn wr w.heap.size (.slice a3 (nmd f i).length cap3) (nmd f i) ∧ Stp [] w [] wr) := HR.out
        clear HR
        go_wp2
        go_roundg (7 - (i + 1))
        case measure => omega
        case rel => exact ⟨i + 1, hi f i, rfl, by go_num, by omega, by omega, HE.out.1, by rw [HE.out.2]; exact HO.out.1.stays (Stp.alloc [] _ _), HO.out.2.trans (Stp.alloc [] _ _)⟩
      · have hA := and_yes hf hlt hb
        have hB := bits_ban (hi f i) (2 ^ i)
        rw [hi_ban hf (by omega)] at hB
        have HE : Aside (nmd f (i + 1) = nmd f i ++ [nm i]) := nmd_yes hb
        have hpz : ((2 ^ i : Nat) : Int) ≠ 0 := by omega
        generalize (2 ^ i : Nat) = p at *
        generalize nm i = s at *
        generalize hi f i = F at *
        have hst1 : Stp [] wr [] (wr.alloc (.cells #[.int .u32 (p : Int), .string (st s)] 116)) := Stp.alloc _ _ _
        have hc0 : (wr.alloc (.cells #[.int .u32 (p : Int), .string (st s)] 116)).cell? ⟨wr.heap.size, 0, none⟩ = some (.int .u32 (p : Int)) := by rw [cell_of_row _ wr.heap.size _ _ _ _ (heap_alloc_new wr _)]; rfl
        have hone := one_str (wr.alloc (.cells #[.int .u32 (p : Int), .string (st s)] 116)) (st s) s rfl
        have hsz1 : (wr.alloc (.cells #[.int .u32 (p : Int), .string (st s)] 116)).heap.size = wr.heap.size + 1 := World.size_alloc _ _
        rw [hsz1] at hone
        have hst2 : Stp [] wr [] ((wr.alloc (.cells #[.int .u32 (p : Int), .string (st s)] 116)).alloc (.cells #[.string (st s)] 9)) := hst1.trans (Stp.alloc _ _ _)
        have HL := Lib.hid (And.intro (hO.stays hst2) (And.intro (hSt.trans hst2) (And.intro hone hSt.size)))
        have HC : Aside (∀ (W : World) (k : Option Nat), (∀ j, k = some j → j < wr.heap.size) → ((wr.alloc (.cells #[.int .u32 (p : Int), .string (st s)] 116)).alloc (.cells #[.string (st s)] 9)).grownBy W k → W.cell? ⟨wr.heap.size, 0, none⟩ = some (.int .u32 (p : Int))) := fun W k hk hg => by
          rw [World.cell?_of_block (hg.block wr.heap.size (by rw [World.size_alloc, hsz1]; omega) (fun e => by have := hk _ e.symm; omega))]
          rw [World.cell?_of_block (Below.heap_alloc _ _ _ (by rw [hsz1]; exact Nat.lt_succ_self _))]
          exact hc0
        have HB : Aside (∀ k, (Value.slice a3 (nmd f i).length cap3).ownBlock = some k → k < wr.heap.size) := fun k e => (hO.lt k e).2
        clear hb HS hO hSt hp hr3 hn3 hm3 hst1 hst2 hc0 hone hsz1
        go_wp2_with (at_builtin
                     refine wpList_appS rfl (.tmp 15) (.tmp 18) rfl w.heap.size (.slice a3 (nmd f i).length cap3) (nmd f i) rfl HL.out.1 ⟨wr.heap.size + 1, 0, none⟩ 1 1 [s] rfl rfl HL.out.2.2.1 (by simp; omega) (by have := HL.out.2.2.2; rw [World.size_alloc, World.size_alloc]; omega) ?_
                     intro v2 w2 ho2 hg2 hv2
                     have hc2 := HC.out w2 _ HB.out hg2
                     have HW : Aside (SOwn w2 w.heap.size v2 (nmd f i ++ [s]) ∧ Stp [] w [] w2) := ⟨ho2, HL.out.1.grown (Nat.le_refl _) HL.out.2.1 hg2⟩
                     obtain ⟨a2, cap2, hf2, _⟩ := ho2.form
                     rw [List.length_append, List.length_singleton] at hf2
                     subst hf2
                     clear ho2 hg2 hv2)
        go_roundg (7 - (i + 1))
        case measure => omega
        case rel => exact ⟨i + 1, hi f (i + 1), by go_num, by go_num, by omega, by omega, rfl, by rw [HE.out]; exact HW.out.1, HW.out.2⟩
    · have hltz : ¬ (i : Int) < 7 := by omega
      obtain rfl : i = 7 := by omega
      obtain ⟨hF, hO, hSt⟩ := HS.out
      subst hF
      have hT := HT.out.stays hSt
      have hpl := join_parts_len hf
      have hh := hi_le f 7
      have hnl := nmd_len f 7
      clear HS HV
      by_cases h0 : hi f 7 = 0
      · have hP : parts f = nmd f 7 := by rw [parts, if_pos h0]; simp
        have hz : ((hi f 7 : Nat) : Int) = 0 := by omega
        obtain ⟨a3, cap3, hv3, hn3, hc3, hm3, hr3⟩ := hO.form
        subst hv3
        by_cases hn : nmd f 7 = []
        · have hft : ftext f = [45] := by rw [ftext, if_pos (by rw [hP]; exact hn)]
          rw [hft]
          rw [hn]
          have HE : Aside (Stp [] w [] wr) := hSt
          clear hO hSt hr3 hn3 hP hc3 hm3
          generalize hi f 7 = F at *
          go_wp2
          go_ret
          exact ⟨rfl, HE.out⟩
        · have hft : ftext f = Lib.join (nmd f 7) [43] := by rw [ftext, if_neg (by rw [hP]; exact hn), hP]
          rw [hft]
          obtain ⟨ad, rfl⟩ : ∃ ad, a3 = some ad := by
            rcases a3 with _ | ad
            · exact absurd (hn3 rfl).2 hn
            · exact ⟨ad, rfl⟩
          obtain ⟨g, rfl, hg1, hg2, hcl⟩ := hr3 ad rfl
          have K : Calls Tryz.prog 65 #[.string ⟨#[43]⟩, .slice (some ⟨g, 0, none⟩) (nmd f 7).length cap3] wr (Tells (.string (st (Lib.join (nmd f 7) [43]))) wr) := joined_run g cap3 (nmd f 7) [43] wr hcl hg2 hc3 (by omega) (by rw [← hP]; omega)
          have hlp : 0 < (nmd f 7).length := List.length_pos_iff.2 hn
          have HE : Aside (Stp [] w [] wr) := hSt
          have HK := Lib.hid K
          clear hO hSt hn3 hP hcl K
          generalize hi f 7 = F at *
          generalize (nmd f 7).length = n at *
          have hnz : ((n : Int) == 0) = false := beq_eq_false_iff_ne.2 (by omega)
          go_wp2_with (go_at_call 65; refine HK.out.mono ?_; rintro _ w' ⟨rfl, hs⟩)
          go_ret
          exact ⟨by rw [hft]; rfl, HE.out.trans hs⟩
      · have hP : parts f = nmd f 7 ++ [120 :: dig 16 (hi f 7)] := by rw [parts, if_neg h0]
        have hft : ftext f = Lib.join (parts f) [43] := by rw [ftext, if_neg (by rw [hP]; simp)]
        have hz : ((hi f 7 : Nat) : Int) ≠ 0 := by omega
        have hdl := dig_len (b := 16) (by omega) 7 (hi f 7) (by omega)
        have K := hex_run (hi f 7) (by omega) wr hT.tz
        have hsum : (⟨#[120]⟩ : ByteArray) ++ st (dig 16 (hi f 7)) = st (120 :: dig 16 (hi f 7)) := st_append [120] _
        have hroom : ¬ 9223372036854775807 < 1 + (st (dig 16 (hi f 7))).size := by rw [st_size]; omega
        have hssz := st_size (dig 16 (hi f 7))
        obtain ⟨a3, cap3, hv3, hn3, hc3, hm3, hr3⟩ := hO.form
        subst hv3
        have HE := Lib.hid (And.intro hSt (And.intro hO (And.intro hP (And.intro hft hpl))))
        have HK := Lib.hid K
        clear K hO hSt hn3 hr3 hP hft hpl
        generalize hi f 7 = F at *
        have hF2 : (F : Int) ≤ 4294967295 := by omega
        go_wp2_with (first
          | (go_at_call 81; refine HK.out.mono ?_; rintro _ w1 ⟨rfl, hs1⟩)
          | (at_builtin
             refine wpList_appS rfl (.tmp 27) (.tmp 32) rfl w.heap.size (.slice a3 (nmd f 7).length cap3) (nmd f 7) rfl ((HE.out.2.1.stays hs1).stays (Stp.alloc [] _ _)) ⟨w1.heap.size, 0, none⟩ 1 1 [120 :: dig 16 F] rfl rfl (one_str w1 _ _ rfl) (by simp; omega) (by have := hs1.size; have := HE.out.1.size; rw [World.size_alloc]; omega) ?_
             intro v2 w2 ho2 hg2 hv2
             have hst : Stp [] w [] w2 := ((HE.out.2.1.stays hs1).stays (Stp.alloc [] _ _)).grown (Nat.le_refl _) ((HE.out.1.trans hs1).trans (Stp.alloc [] _ _)) hg2
             rw [← HE.out.2.2.1] at ho2
             have hpn : (parts f).length = (nmd f 7).length + 1 := by rw [HE.out.2.2.1]; simp
             obtain ⟨a2, cap2, hf2, hn2, hc2, hm2, hr2⟩ := ho2.form
             obtain ⟨ad, rfl⟩ : ∃ ad, a2 = some ad := by
               rcases a2 with _ | ad
               · have := (hn2 rfl).2
                 rw [this] at hpn
                 simp at hpn
               · exact ⟨ad, rfl⟩
             obtain ⟨g, rfl, hg1, hg3, hcl⟩ := hr2 ad rfl
             have K : Calls Tryz.prog 65 #[.string ⟨#[43]⟩, .slice (some ⟨g, 0, none⟩) (parts f).length cap2] w2 (Tells (.string (st (Lib.join (parts f) [43]))) w2) := joined_run g cap2 (parts f) [43] w2 hcl hg3 hc2 (by omega) (by have := HE.out.2.2.2.2; omega)
             rw [← HE.out.2.2.2.1] at K
             have HJ := Lib.hid (And.intro K hst)
             have hpz : 0 < (parts f).length := by omega
             subst hf2
             clear ho2 hg2 hv2 hst hn2 hr2 hcl K hpn hc2 hm2 hg1 hg3
             generalize (parts f).length = n2 at *
             have hnz : ((n2 : Int) == 0) = false := beq_eq_false_iff_ne.2 (by omega))
          | (go_at_call 65; refine HJ.out.1.mono ?_; rintro _ w' ⟨rfl, hs⟩))
        go_ret
        exact ⟨rfl, HJ.out.2.trans hs⟩
end Go.Proofs.YthfiilhbgogoaaaGreatDoor
