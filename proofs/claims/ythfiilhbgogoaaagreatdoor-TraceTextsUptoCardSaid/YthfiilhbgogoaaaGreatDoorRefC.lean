/-
  The document's Text.
-/
import Derived.Test.YthfiilhbgogoaaaGreatDoorRefB
namespace Go.Proofs.YthfiilhbgogoaaaGreatDoor
open Go.RowKit Go.Lib
set_option linter.unusedVariables false

theorem cut1 (x : UInt8) (l : List UInt8) (W : World) : (Instr.slice 9 (.string (st (x :: l))) (some (.int .i64 1)) none none).run Tryz.prog W = .ok (.string (st l)) W := by
  have h1 : (1 : Int) ≤ ((st (x :: l)).size : Int) := by rw [st_size]; simp only [List.length_cons]; omega
  rw [run_slice_string_l W 9 (st (x :: l)) Tryz.underlying9 .i64 1 (by omega) h1]
  have e : (st (x :: l)).extract (1 : Int).toNat (st (x :: l)).size = st l := by
    rw [st_size, st_extract]
    simp
  rw [e]
theorem cut2 (x : UInt8) (l : List UInt8) (W : World) : (Instr.sliceAt 9 (.string (st (x :: l))) (some (.int .i64 1)) none none).run Tryz.prog W = .ok (.string (st l)) W := by
  rw [run_sliceAt_string W 9 (.string (st (x :: l))) _ _ _ Tryz.underlying9]
  exact cut1 x l W
set_option maxHeartbeats 4000000 in
set_option maxRecDepth 100000 in
theorem rtext_run {f m t : Nat} (ho : Ok f m t) (w : World) : Calls Tryz.prog 35 #[av f m t] w (Tells (.string (st (text f m t))) w) := by
  have hf := ho.f
  have K2 : Hid (∀ W, Calls Tryz.prog 60 #[] W fun e w' => ∃ g, e = .returned (.slice (some ⟨g, 0, none⟩) 7 7) ∧ Nam w' g ∧ Stp [] W [] w') := Lib.hid fun W => rnames_run W
  have KB : Hid (∀ (W : World) (i : Nat), i ≤ 32 → Calls Tryz.prog 61 #[.int .u32 (f : Int), .int .i64 (i : Int)] W (Gives (.bool (f.testBit i)) W)) := Lib.hid fun W i h2 => bit_run f i hf h2 W
  have KM : Hid (∀ W, Calls Tryz.prog 33 #[.int .i64 (m : Int), .int .i64 10] W (Tells (.string (st (dig 10 m))) W)) := Lib.hid fun W => dec_run m 10 (.inl rfl) (by have := ho.m; omega) W
  have KT : Hid (∀ W, Calls Tryz.prog 33 #[.int .i64 (t : Int), .int .i64 10] W (Tells (.string (st (dig 10 t))) W)) := Lib.hid fun W => dec_run t 10 (.inl rfl) (by have := ho.t; omega) W
  have hh := hi_le f 7
  have KH : Hid (∀ W, Calls Tryz.prog 33 #[.int .i64 ((hi f 7 : Nat) : Int), .int .i64 16] W (Tells (.string (st (dig 16 (hi f 7)))) W)) := Lib.hid fun W => dec_run (hi f 7) 16 (.inr rfl) (by omega) W
  have hsub := hi7_sub f
  have hmod : (f : Int) % 128 = ((f % 128 : Nat) : Int) := by omega
  have hdif : (f : Int) - ((f % 128 : Nat) : Int) = ((hi f 7 : Nat) : Int) := by rw [hsub]; omega
  clear hsub
  have hml : f % 128 ≤ f := Nat.mod_le _ _
  have hfl := ftext_len hf
  have hdm := dig10_len ho.m
  have hdt := dig10_len ho.t
  have hd16 := dig_len (b := 16) (by omega) 7 (hi f 7) (by omega)
  have e1 : (st (43 :: ftext f)).extract 1 ((ftext f).length + 1) = st (ftext f) := by rw [st_extract]; simp
  have e2 := st_append (ftext f) [32]
  have e3 := st_append (ftext f ++ [32]) (dig 10 m)
  have e4 := st_append (ftext f ++ [32] ++ dig 10 m) [32]
  have e5 := st_append (ftext f ++ [32] ++ dig 10 m ++ [32]) (dig 10 t)
  have HX : Aside (text f m t = ftext f ++ [32] ++ dig 10 m ++ [32] ++ dig 10 t) := by
    show text f m t = _
    unfold text
    simp
  have hs32 : st [32] = ⟨#[32]⟩ := rfl
  rw [hs32] at e2 e4
  have z1 := st_size (ftext f)
  have z2 := st_size (ftext f ++ [32])
  have z3 := st_size (ftext f ++ [32] ++ dig 10 m)
  have z4 := st_size (ftext f ++ [32] ++ dig 10 m ++ [32])
  have z5 := st_size (dig 10 m)
  have z6 := st_size (dig 10 t)
  have z0 := cut1 43 (ftext f)
  have n0 := cut2 43 (ftext f)
  have l2 : (ftext f ++ [32]).length ≤ 101 := by simp; omega
  have l3 : (ftext f ++ [32] ++ dig 10 m).length ≤ 104 := by simp; omega
  have l4 : (ftext f ++ [32] ++ dig 10 m ++ [32]).length ≤ 105 := by simp; omega
  have hmz : (m : Int) ≤ 255 := by have := ho.m; omega
  have htz : (t : Int) ≤ 255 := by have := ho.t; omega
  have hwm : IntKind.i64.wrap (m : Int) = m := by rw [IntKind.wrap_i64]; omega
  have hwt : IntKind.i64.wrap (t : Int) = t := by rw [IntKind.wrap_i64]; omega
  clear ho
  unfold av
  go_enter Tryz.func35, Tryz.ntmps35
  go_wp2_with fail
  refine (K2.out _).mono ?_
  rintro _ w1 ⟨g, rfl, hn, h1⟩
  have HA : Aside (At3 w1 w.heap.size f m t ∧ Nam w1 g ∧ Stp [] w [] w1) := ⟨(At3.new w f m t).stays h1, hn, (Stp.alloc [] w _).trans h1⟩
  obtain ⟨c0, _, _, _, _, _⟩ := HA.out.1.cells
  generalize w.heap.size = g0 at *
  clear hn h1 K2
  go_wp2
  go_loopg [3, 5] 7 (fun gk v3 vi wr => ∃ i : Nat, v3 = .string (st (plused (nmd f i))) ∧ vi = .int .i64 (i : Int) ∧ i ≤ 7 ∧ 7 - i ≤ gk ∧ Aside (wr = w1))
  case atStart => exact ⟨0, rfl, rfl, by omega, by omega, rfl⟩
  case round =>
    obtain ⟨i, rfl, rfl, hi7, hg, HS⟩ := hrel
    obtain rfl : wr = w1 := HS.out
    by_cases hlt : i < 7
    · have hltz : (i : Int) < 7 := by omega
      have K1 := KB.out wr i (by omega)
      have en := HA.out.2.1 i hlt
      cases hb : f.testBit i
      · rw [hb] at K1
        have HE : Aside (nmd f (i + 1) = nmd f i) := nmd_no hb
        have HK := Lib.hid K1
        clear hb K1 KM KT KH HX e1 e2 e3 e4 e5 z1 z2 z3 z4 z5 z6 z0 n0 l2 l3 l4
        go_wp2_with (go_at_call 61; refine HK.out.mono ?_; rintro _ _ ⟨rfl, rfl⟩)
        go_roundg (7 - (i + 1))
        case measure => omega
        case rel => exact ⟨i + 1, by rw [HE.out], by go_num, by omega, by omega, rfl⟩
      · rw [hb] at K1
        have HE : Aside (plused (nmd f (i + 1)) = plused (nmd f i) ++ [43] ++ nm i) := by
          show plused (nmd f (i + 1)) = _
          rw [nmd_yes hb, plused_snoc]
        have HK := Lib.hid K1
        have hc1 := st_append (plused (nmd f i)) [43]
        have hc2 := st_append (plused (nmd f i) ++ [43]) (nm i)
        have hs43 : st [43] = ⟨#[43]⟩ := rfl
        rw [hs43] at hc1
        have hpl := plused_nmd (f := f) hi7
        have hnl := nm_len i hlt
        have y1 := st_size (plused (nmd f i))
        have y2 := st_size (plused (nmd f i) ++ [43])
        have y3 := st_size (nm i)
        have y4 : (plused (nmd f i) ++ [43]).length ≤ 71 := by simp; omega
        clear hb K1 KM KT KH HX e1 e2 e3 e4 e5 z1 z2 z3 z4 z5 z6 z0 n0 l2 l3 l4
        generalize plused (nmd f i) = J at *
        generalize J ++ [43] = J1 at *
        generalize nm i = s at *
        go_wp2_with (go_at_call 61; refine HK.out.mono ?_; rintro _ _ ⟨rfl, rfl⟩)
        go_roundg (7 - (i + 1))
        case measure => omega
        case rel => exact ⟨i + 1, by rw [HE.out], by go_num, by omega, by omega, rfl⟩
    · have hltz : ¬ (i : Int) < 7 := by omega
      obtain rfl : i = 7 := by omega
      have hpl := plused_nmd (f := f) (i := 7) (by omega)
      have y1 := st_size (plused (nmd f 7))
      clear KB hh hml
      by_cases h0 : hi f 7 = 0
      · have hP : parts f = nmd f 7 := by rw [parts, if_pos h0]; simp
        have hz : ((hi f 7 : Nat) : Int) = 0 := by omega
        have HZ : Aside (Stp [] w [] wr) := HA.out.2.2
        have hk0 : Aside (∀ W, Stp [] wr [] W → Stp [] wr [] W ∧ W.cell? ⟨g0, 1, none⟩ = some (.int .u8 (m : Int)) ∧ W.cell? ⟨g0, 2, none⟩ = some (.int .u8 (t : Int))) := fun W hs => ⟨hs, (HA.out.1.stays hs).cells.2.1, (HA.out.1.stays hs).cells.2.2.1⟩
        have hcur : Stp [] wr [] wr.drew := Stp.drew _ _
        by_cases hn : nmd f 7 = []
        · have hft : ftext f = [45] := by rw [ftext, if_pos (by rw [hP]; exact hn)]
          have hpe : plused (nmd f 7) = [] := by rw [hn]; rfl
          rw [hpe]
          have hst : st [] = ⟨#[]⟩ := rfl
          rw [hst]
          have hlit : (⟨#[43, 45]⟩ : ByteArray) = st (43 :: ftext f) := by rw [hft]; rfl
          have hl1 : (ftext f).length = 1 := by rw [hft]; rfl
          have e1' : (⟨#[43, 45]⟩ : ByteArray).extract 1 2 = st (ftext f) := by
            rw [hlit]
            rw [hl1] at e1
            exact e1
          clear hP hn hpe hst hpl y1 KH hft hlit z0 n0
          generalize hi f 7 = F at *
          generalize f % 128 = r at *
          generalize ftext f ++ [32] ++ dig 10 m ++ [32] ++ dig 10 t = T5 at *
          generalize ftext f ++ [32] ++ dig 10 m ++ [32] = T4 at *
          generalize ftext f ++ [32] ++ dig 10 m = T3 at *
          generalize ftext f ++ [32] = T2 at *
          generalize ftext f = T1 at *
          generalize dig 10 m = dm at *
          generalize dig 10 t = dt at *
          go_wp2_with fail
          go_region_held (fun W => Stp [] wr [] W ∧ W.cell? ⟨g0, 1, none⟩ = some (.int .u8 (m : Int)) ∧ W.cell? ⟨g0, 2, none⟩ = some (.int .u8 (t : Int)))
            (first | exact hk0.out _ hcur | assumption)
            (first
              | (go_at_call_of 33 (Value.int .i64 (m : Int)); refine (KM.out _).mono ?_; rintro _ x1 ⟨rfl, s1⟩; replace hcur := hcur.trans s1; clear s1)
              | (go_at_call_of 33 (Value.int .i64 (t : Int)); refine (KT.out _).mono ?_; rintro _ x2 ⟨rfl, s2⟩; replace hcur := hcur.trans s2; clear s2))
          all_goals
            go_wp2
            go_ret
            exact ⟨by rw [HX.out]; rfl, HZ.out.trans hcur⟩
        · have hft : ftext f = Lib.join (nmd f 7) [43] := by rw [ftext, if_neg (by rw [hP]; exact hn), hP]
          have hpe : plused (nmd f 7) = 43 :: ftext f := by rw [hft, plused_join _ hn]
          rw [hpe]
          have hemp : (st (43 :: ftext f)).toList.isEmpty = false := emp_st (by simp)
          clear hP hn hpe hpl y1 KH hft e1
          generalize hi f 7 = F at *
          generalize f % 128 = r at *
          generalize ftext f ++ [32] ++ dig 10 m ++ [32] ++ dig 10 t = T5 at *
          generalize ftext f ++ [32] ++ dig 10 m ++ [32] = T4 at *
          generalize ftext f ++ [32] ++ dig 10 m = T3 at *
          generalize ftext f ++ [32] = T2 at *
          generalize st (43 :: ftext f) = S0 at *
          generalize ftext f = T1 at *
          generalize dig 10 m = dm at *
          generalize dig 10 t = dt at *
          go_wp2_with fail
          go_region_held (fun W => Stp [] wr [] W ∧ W.cell? ⟨g0, 1, none⟩ = some (.int .u8 (m : Int)) ∧ W.cell? ⟨g0, 2, none⟩ = some (.int .u8 (t : Int)))
            (first | exact hk0.out _ hcur | assumption)
            (first
              | (go_at_call_of 33 (Value.int .i64 (m : Int)); refine (KM.out _).mono ?_; rintro _ x1 ⟨rfl, s1⟩; replace hcur := hcur.trans s1; clear s1)
              | (go_at_call_of 33 (Value.int .i64 (t : Int)); refine (KT.out _).mono ?_; rintro _ x2 ⟨rfl, s2⟩; replace hcur := hcur.trans s2; clear s2))
          all_goals
            go_wp2
            go_ret
            exact ⟨by rw [HX.out]; rfl, HZ.out.trans hcur⟩
      · have hP : parts f = nmd f 7 ++ [120 :: dig 16 (hi f 7)] := by rw [parts, if_neg h0]
        have hft : ftext f = Lib.join (parts f) [43] := by rw [ftext, if_neg (by rw [hP]; simp)]
        have hpe : plused (nmd f 7) ++ [43, 120] ++ dig 16 (hi f 7) = 43 :: ftext f := by
          rw [hft, ← plused_join _ (by rw [hP]; simp), hP, plused_snoc]
          simp
        have hc1 := st_append (plused (nmd f 7)) [43, 120]
        have hc2 := st_append (plused (nmd f 7) ++ [43, 120]) (dig 16 (hi f 7))
        have hs2 : st [43, 120] = ⟨#[43, 120]⟩ := rfl
        rw [hs2] at hc1
        rw [hpe] at hc2
        have y2 := st_size (plused (nmd f 7) ++ [43, 120])
        have y3 := st_size (dig 16 (hi f 7))
        have y4 : (plused (nmd f 7) ++ [43, 120]).length ≤ 72 := by simp; omega
        have hz : (0 : Int) < ((hi f 7 : Nat) : Int) := by omega
        have hz2 : ((hi f 7 : Nat) : Int) ≤ 4294967295 := by omega
        have hemp : (st (43 :: ftext f)).toList.isEmpty = false := emp_st (by simp)
        clear hP hft hpe e1
        generalize hi f 7 = F at *
        generalize f % 128 = r at *
        generalize plused (nmd f 7) = J at *
        generalize J ++ [43, 120] = J1 at *
        generalize dig 16 F = dF at *
        generalize ftext f ++ [32] ++ dig 10 m ++ [32] ++ dig 10 t = T5 at *
        generalize ftext f ++ [32] ++ dig 10 m ++ [32] = T4 at *
        generalize ftext f ++ [32] ++ dig 10 m = T3 at *
        generalize ftext f ++ [32] = T2 at *
        generalize st (43 :: ftext f) = S0 at *
        generalize ftext f = T1 at *
        generalize dig 10 m = dm at *
        generalize dig 10 t = dt at *
        go_wp2_with fail
        refine (KH.out _).mono ?_
        rintro _ w4 ⟨rfl, h4⟩
        have HZ : Aside (Stp [] w [] w4) := HA.out.2.2.trans h4
        have hk0 : Aside (∀ W, Stp [] w4 [] W → Stp [] w4 [] W ∧ W.cell? ⟨g0, 1, none⟩ = some (.int .u8 (m : Int)) ∧ W.cell? ⟨g0, 2, none⟩ = some (.int .u8 (t : Int))) := fun W hs => ⟨hs, (HA.out.1.stays (h4.trans hs)).cells.2.1, (HA.out.1.stays (h4.trans hs)).cells.2.2.1⟩
        have hcur : Stp [] w4 [] w4.drew := Stp.drew _ _
        go_wp2_with fail
        go_region_held (fun W => Stp [] w4 [] W ∧ W.cell? ⟨g0, 1, none⟩ = some (.int .u8 (m : Int)) ∧ W.cell? ⟨g0, 2, none⟩ = some (.int .u8 (t : Int)))
          (first | exact hk0.out _ hcur | assumption)
          (first
            | (go_at_call_of 33 (Value.int .i64 (m : Int)); refine (KM.out _).mono ?_; rintro _ x1 ⟨rfl, s1⟩; replace hcur := hcur.trans s1; clear s1)
            | (go_at_call_of 33 (Value.int .i64 (t : Int)); refine (KT.out _).mono ?_; rintro _ x2 ⟨rfl, s2⟩; replace hcur := hcur.trans s2; clear s2))
        all_goals
          go_wp2
          go_ret
          exact ⟨by rw [HX.out]; rfl, HZ.out.trans hcur⟩
end Go.Proofs.YthfiilhbgogoaaaGreatDoor
