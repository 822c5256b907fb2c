/-
  AttrsNames's walk.
-/
import Derived.Test.YtcjmnmcldppdhaaDoorWAttrsFlagless
import Derived.Test.YtcjmnmcldppdhaaDoorRefA
namespace Go.Proofs.YtcjmnmcldppdhaaDoor
open Go.RowKit Go.Lib
set_option linter.unusedVariables false

theorem join_snoc (c : UInt8) (x : List UInt8) : ∀ l : List (List UInt8), l ≠ [] → Lib.join (l ++ [x]) [c] = Lib.join l [c] ++ c :: x
  | [], h => absurd rfl h
  | [y], _ => by
    rw [List.singleton_append, join_cons2, Lib.join_one, Lib.join_one]
  | y :: z :: r, _ => by
    have ih := join_snoc c x (z :: r) (by simp)
    rw [List.cons_append, List.cons_append, join_cons2, join_cons2, ← List.cons_append, ih]
    simp
theorem join_ne {l : List (List UInt8)} (h : l ≠ []) (hp : ∀ p ∈ l, p ≠ []) : Lib.join l [43] ≠ [] := by
  match l, h with
  | [x], _ =>
    rw [Lib.join_one]
    exact hp x (by simp)
  | x :: y :: r, _ =>
    rw [join_cons2]
    simp
theorem nmd_ne (f : Nat) : ∀ p ∈ nmd f 7, p ≠ [] := fun p hp => by
  obtain ⟨j, hj, rfl, _⟩ := nmd_mem f 7 (by omega) p hp
  exact (nm_mem j hj).2.2.1
theorem nmd_ne_i {f i : Nat} (hi : i ≤ 7) : ∀ p ∈ nmd f i, p ≠ [] := fun p hp => by
  obtain ⟨j, hj, rfl, _⟩ := nmd_mem f i hi p hp
  exact (nm_mem j (by omega)).2.2.1
theorem nmd_join_len {f i : Nat} (hi : i ≤ 7) : (Lib.join (nmd f i) [43]).length ≤ 100 := by
  have h1 := nmd_len f i
  have h2 := join_len 43 (nmd f i) (fun p hp => by
    obtain ⟨j, hj, rfl, _⟩ := nmd_mem f i hi p hp
    exact nm_len j (by omega))
  omega
theorem low_hi {f : Nat} (h : f < 128) : hi f 7 = 0 := by
  unfold hi
  rw [Nat.div_eq_of_lt h, Nat.zero_mul]
theorem low_parts {f : Nat} (h : f < 128) : parts f = nmd f 7 := by
  unfold parts
  rw [if_pos (low_hi h)]
  simp
theorem shift_bit {f i : Nat} (hf : f < 128) : bits .and .u32 ((f / 2 ^ i : Nat) : Int) 1 = if f.testBit i then 1 else 0 := by
  have h1 : f / 2 ^ i < 4294967296 := Nat.lt_of_le_of_lt (Nat.div_le_self _ _) (by omega)
  have h := bits_and h1 (show 1 < 4294967296 by omega)
  have h2 : ((1 : Nat) : Int) = 1 := rfl
  rw [h2] at h
  rw [h, Nat.and_one_is_mod, Nat.testBit_eq_decide_div_mod_eq]
  by_cases e : f / 2 ^ i % 2 = 1
  · simp [e]
  · have e0 : f / 2 ^ i % 2 = 0 := by omega
    simp [e0]

set_option maxHeartbeats 4000000 in
set_option maxRecDepth 100000 in
theorem names_walk (n f0 m t : Nat) (w : World) (hn : n < 256) (ho : Ok f0 m t) (hT : Tabs w) : Calls Tryd.prog 8 #[.int .u8 (n : Int), av f0 m t] w (Truth w) := by
  have HT : Aside (Tabs w) := hT
  obtain ⟨f, hf⟩ : ∃ f, f = n % 128 := ⟨_, rfl⟩
  have hf128 : f < 128 := by omega
  have ho1 : Ok f m t := ⟨by omega, ho.m, ho.t⟩
  have ho0 : Ok f 0 0 := ⟨by omega, by omega, by omega⟩
  have hmod : (n : Int) % 128 = (f : Int) := by omega
  have K1 : Hid (∀ W, Stp [] w [] W → Calls Tryd.prog 10 #[] W fun e w' => ∃ v, e = .returned v ∧ SOwn w' W.heap.size v nms ∧ Stp [] W [] w') := Lib.hid fun W hs => names_run W (HT.out.stays hs)
  have K5 : Hid (∀ W, Stp [] w [] W → Calls Tryd.prog 12 #[] W (Tells (.bool true) W)) := Lib.hid fun W hs => alive_run W (HT.out.stays hs)
  have K2 : Hid (∀ W, Stp [] w [] W → Calls Tryd.prog 21 #[.agg #[.int .u32 (f : Int), .int .u8 (m : Int), .int .u8 (t : Int)]] W (Tells (.string (st (text f m t))) W)) := Lib.hid fun W hs => text_run ho1 W (HT.out.stays hs)
  have K3 : Hid (∀ W, Stp [] w [] W → Calls Tryd.prog 19 #[.string (st (ftext f ++ [32, 48, 32, 48]))] W (Tells (.tuple #[.agg #[.int .u32 (f : Int), .int .u8 0, .int .u8 0], .int .i64 0]) W)) := Lib.hid fun W hs => by
    have e : ftext f ++ [32, 48, 32, 48] = text f 0 0 := by
      unfold text
      rw [dig_small (by omega)]
      rfl
    have := read_run (text f 0 0) (by have := text_len ho0; omega) W (HT.out.stays hs)
    rw [rv_text ho0, ← e] at this
    exact this
  have hfl := ftext_len ho1.f
  have htl := text_len ho1
  clear hT ho hf ho0
  unfold av
  go_enter Tryd.func8, Tryd.ntmps8
  go_wp2_with fail
  refine (K1.out _ (Stp.alloc [] _ _)).mono ?_
  rintro _ w1 ⟨v, rfl, o1, h1⟩
  obtain ⟨a7, cap7, hv7, hn7, hc7, hm7, hr7⟩ := o1.form
  have hl7 : nms.length = 7 := rfl
  rw [hl7] at hv7
  obtain ⟨ad, rfl⟩ : ∃ ad, a7 = some ad := by
    rcases a7 with _ | ad
    · have := (hn7 rfl).2
      cases this
    · exact ⟨ad, rfl⟩
  obtain ⟨g7, rfl, hg71, hg72, hcl⟩ := hr7 ad rfl
  subst hv7
  have HA : Aside (At3 w1 w.heap.size f0 m t ∧ Stp [] w [] w1) := ⟨(At3.new w f0 m t).stays h1, (Stp.alloc [] w _).trans h1⟩
  have HC : Aside ((∀ i, i < 7 → w1.cell? ⟨g7, i, none⟩ = some (.string (st (nm i)))) ∧ w.heap.size < g7) := ⟨fun i hi => hcl i (nm i) (by
    have : ∀ i, i < 7 → nms[i]? = some (nm i) := by decide
    exact this i hi), by rw [World.size_alloc] at hg71; omega⟩
  clear h1 o1 hn7 hc7 hm7 hr7 hg71 hg72 hcl hl7 K1
  go_wp2_with fail
  refine (K5.out _ HA.out.2).mono ?_
  rintro _ w2 ⟨rfl, h2⟩
  obtain ⟨c0, c1, c2, q0, q1, q2⟩ := (HA.out.1.stays h2).cells
  have HB : Aside (At3 (w2.setCell ⟨w.heap.size, 0, none⟩ (.int .u32 (f : Int))) w.heap.size f m t ∧ (∀ i, i < 7 → (w2.setCell ⟨w.heap.size, 0, none⟩ (.int .u32 (f : Int))).cell? ⟨g7, i, none⟩ = some (.string (st (nm i)))) ∧ Stp [] w [] (w2.setCell ⟨w.heap.size, 0, none⟩ (.int .u32 (f : Int)))) := by
    have s0 : Stp [w.heap.size] w2 [w.heap.size] (w2.setCell ⟨w.heap.size, 0, none⟩ (.int .u32 (f : Int))) := Stp.setCell w2 _ (by simp)
    refine ⟨heap_setCell_same w2 w.heap.size 0 _ _ (.int .u32 (f : Int)) (HA.out.1.stays h2), fun i hi => ?_, ((HA.out.2.trans h2).fresh s0 (by simp)).none⟩
    have hc := h2.keeps rfl (HC.out.1 i hi)
    have hlt := HC.out.2
    exact (s0.cell (a := ⟨g7, i, none⟩) (block_lt_of_cell hc) (by simp; omega)).trans hc
  clear HA HC h2
  go_wp2
  try rw [hmod]
  clear hmod
  generalize w2.setCell ⟨w.heap.size, 0, none⟩ (.int .u32 (f : Int)) = w3 at *
  generalize w.heap.size = g0 at *
  clear c0 c1 c2 q0 q1 q2
  have d0 := HB.out.1.cells.1
  go_loopg [6, 26] 7 (fun gk v6 vi wr => ∃ i : Nat, v6 = .string (st (Lib.join (nmd f i) [43])) ∧ vi = .int .i64 (i : Int) ∧ i ≤ 7 ∧ 7 - i ≤ gk ∧ Aside (wr = w3))
  case atStart => exact ⟨0, rfl, rfl, by omega, by omega, rfl⟩
  case round =>
    obtain ⟨i, rfl, rfl, hi7, hg, HS⟩ := hrel
    obtain rfl : wr = w3 := HS.out
    by_cases hlt : i < 7
    · have hltz : (i : Int) < 7 := by omega
      have e1 := HB.out.2.1 i hlt
      have hsh : (f : Int) / 2 ^ i = ((f / 2 ^ i : Nat) : Int) := by simp
      have hb := shift_bit (i := i) hf128
      have hjl := nmd_join_len (f := f) (i := i) hi7
      have hsz := st_size (Lib.join (nmd f i) [43])
      have hnl := nm_len i hlt
      have hsn := st_size (nm i)
      cases hbit : f.testBit i
      · rw [hbit] at hb
        simp only [Bool.false_eq_true, if_false] at hb
        have HE : Aside (nmd f (i + 1) = nmd f i) := nmd_no hbit
        clear hbit
        generalize (f / 2 ^ i : Nat) = z at *
        generalize st (nm i) = sn at *
        go_wp2
        go_roundg (7 - (i + 1))
        case measure => omega
        case rel => exact ⟨i + 1, by rw [HE.out], by go_num, by omega, by omega, rfl⟩
      · rw [hbit] at hb
        simp only [if_true] at hb
        by_cases hem : nmd f i = []
        · have HE : Aside (Lib.join (nmd f (i + 1)) [43] = nm i) := by
            show Lib.join (nmd f (i + 1)) [43] = nm i
            rw [nmd_yes hbit, hem, List.nil_append, Lib.join_one]
          rw [hem, Lib.join_nil]
          have hcat : (⟨#[]⟩ : ByteArray) ++ st (nm i) = st (nm i) := st_append [] (nm i)
          have hst : st [] = ⟨#[]⟩ := rfl
          rw [hst]
          clear hbit hem hjl hsz
          generalize (f / 2 ^ i : Nat) = z at *
          generalize nm i = s at *
          go_wp2
          go_roundg (7 - (i + 1))
          case measure => omega
          case rel => exact ⟨i + 1, by rw [HE.out], by go_num, by omega, by omega, rfl⟩
        · have HE : Aside (Lib.join (nmd f (i + 1)) [43] = Lib.join (nmd f i) [43] ++ [43] ++ nm i) := by
            show Lib.join (nmd f (i + 1)) [43] = Lib.join (nmd f i) [43] ++ [43] ++ nm i
            rw [nmd_yes hbit, join_snoc _ _ _ hem]
            simp
          have hemp := emp_st (join_ne hem (nmd_ne_i hi7))
          have hc1 := st_append (Lib.join (nmd f i) [43]) [43]
          have hc2 := st_append (Lib.join (nmd f i) [43] ++ [43]) (nm i)
          have hs43 : st [43] = ⟨#[43]⟩ := rfl
          rw [hs43] at hc1
          have hsz2 := st_size (Lib.join (nmd f i) [43] ++ [43])
          have hl2 : (Lib.join (nmd f i) [43] ++ [43]).length ≤ 101 := by simp; omega
          clear hbit hem
          generalize Lib.join (nmd f i) [43] = J at *
          generalize J ++ [43] = J1 at *
          generalize (f / 2 ^ i : Nat) = z at *
          generalize nm i = s at *
          go_wp2
          go_roundg (7 - (i + 1))
          case measure => omega
          case rel => exact ⟨i + 1, by rw [HE.out], by go_num, by omega, by omega, rfl⟩
    · have hltz : ¬ (i : Int) < 7 := by omega
      obtain rfl : i = 7 := by omega
      have hP := low_parts hf128
      have hext : (st (text f m t)).extract 0 ((ftext f).length + 1) = st (ftext f ++ [32]) := by
        rw [st_extract]
        unfold text
        rw [List.drop_zero, Nat.sub_zero, List.take_append, List.take_of_length_le (by omega)]
        simp
      have hcat := st_append (ftext f) [32]
      have hcat2 := st_append (ftext f) [32, 48, 32, 48]
      have hs32 : st [32] = ⟨#[32]⟩ := rfl
      have hs4 : st [32, 48, 32, 48] = ⟨#[32, 48, 32, 48]⟩ := rfl
      rw [hs32] at hcat
      rw [hs4] at hcat2
      have hq : ((st (ftext f ++ [32])).toList == (st (ftext f ++ [32])).toList) = true := st_yes rfl
      have hszt := st_size (text f m t)
      have hszf := st_size (ftext f)
      have hlen : (ftext f).length + 1 ≤ (text f m t).length := by unfold text; simp
      have HA := HB.out.1
      have HSt := HB.out.2.2
      have HG : Aside (At3 wr g0 f m t ∧ Stp [] w [] wr) := ⟨HA, HSt⟩
      clear HB HA HSt
      obtain ⟨_, d1, d2, _, _, _⟩ := HG.out.1.cells
      by_cases hem : nmd f 7 = []
      · have hft : ftext f = [45] := by rw [ftext, if_pos (by rw [hP]; exact hem)]
        have KR : Hid (∀ W, Stp [] w [] W → Calls Tryd.prog 19 #[.string ⟨#[45, 32, 48, 32, 48]⟩] W (Tells (.tuple #[.agg #[.int .u32 (f : Int), .int .u8 0, .int .u8 0], .int .i64 0]) W)) := Lib.hid fun W hs => by
          have := K3.out W hs
          rw [hft] at this
          exact this
        have hext2 : (st (text f m t)).extract 0 2 = ⟨#[45, 32]⟩ := by
          rw [hft] at hext
          exact hext
        have hlen2 : 2 ≤ (text f m t).length := by rw [hft] at hlen; exact hlen
        rw [hem, Lib.join_nil]
        have hst : st [] = ⟨#[]⟩ := rfl
        rw [hst]
        clear hP hem hft hext hcat hcat2 hq hlen hszf K3
        generalize text f m t = X at *
        have hcat3 : (⟨#[45]⟩ : ByteArray) ++ ⟨#[32]⟩ = ⟨#[45, 32]⟩ := st_append [45] [32]
        have hcat4 : (⟨#[45]⟩ : ByteArray) ++ ⟨#[32, 48, 32, 48]⟩ = ⟨#[45, 32, 48, 32, 48]⟩ := st_append [45] [32, 48, 32, 48]
        have hq2 : ((⟨#[45, 32]⟩ : ByteArray).toList == (⟨#[45, 32]⟩ : ByteArray).toList) = true := st_yes rfl
        have hq3 : (decide ((st X).extract 0 2 = (⟨#[45, 32]⟩ : ByteArray))) = true := decide_eq_true hext2
        have hq4 : ((⟨#[45, 32]⟩ : ByteArray).toList == [45, 32]) = true := by rw [toList_data]; rfl
        have hq5 : (⟨#[45, 32]⟩ : ByteArray).toList = [45, 32] := by rw [toList_data]
        have hlz : ¬ (X.length : Int) ≤ 1 := by omega
        have hlz2 : (2 : Int) ≤ (X.length : Int) := by omega
        go_wp2_with (first
          | (go_at_call 21; refine (K2.out _ HG.out.2).mono ?_; rintro _ w4 ⟨rfl, h4⟩; have H4 : Aside (At3 w4 g0 f m t ∧ Stp [] w [] w4) := ⟨HG.out.1.stays h4, HG.out.2.trans h4⟩; clear h4)
          | (go_at_call 19
             refine (KR.out _ H4.out.2).mono ?_
             rintro _ w5 ⟨rfl, h5⟩
             have x0 := (H4.out.1.stays h5).cells.1
             have hx := (H4.out.1.stays h5).lt
             have H5 : Aside (Stp [] w [] w5) := H4.out.2.trans h5
             clear h5))
        go_ret
        exact ⟨rfl, (H5.out.trans (Stp.alloc [] _ _)).under⟩
      · have hft : ftext f = Lib.join (nmd f 7) [43] := by rw [ftext, if_neg (by rw [hP]; exact hem), hP]
        have hemp := emp_st (join_ne hem (nmd_ne f))
        rw [← hft] at hemp ⊢
        clear hP hem hft
        generalize ftext f ++ [32, 48, 32, 48] = T4 at *
        generalize ftext f ++ [32] = T1 at *
        generalize ftext f = T at *
        generalize text f m t = X at *
        have hlz : ¬ (X.length : Int) ≤ (T.length : Int) := by omega
        have hlz2 : (T.length : Int) + 1 ≤ (X.length : Int) := by omega
        go_wp2_with (first
          | (go_at_call 21; refine (K2.out _ HG.out.2).mono ?_; rintro _ w4 ⟨rfl, h4⟩; have H4 : Aside (At3 w4 g0 f m t ∧ Stp [] w [] w4) := ⟨HG.out.1.stays h4, HG.out.2.trans h4⟩; clear h4)
          | (go_at_call 19
             refine (K3.out _ H4.out.2).mono ?_
             rintro _ w5 ⟨rfl, h5⟩
             have x0 := (H4.out.1.stays h5).cells.1
             have hx := (H4.out.1.stays h5).lt
             have H5 : Aside (Stp [] w [] w5) := H4.out.2.trans h5
             clear h5))
        go_ret
        exact ⟨rfl, (H5.out.trans (Stp.alloc [] _ _)).under⟩
end Go.Proofs.YtcjmnmcldppdhaaDoor
