/-
  back: how many columns a sequence goes back.
-/
import Derived.Test.YtdaenaoagejgeaaGreatDoorScn
namespace Go.Proofs.YtdaenaoagejgeaaGreatDoor
open Go.RowKit Go.Lib
set_option linter.unusedVariables false

theorem atoi_dig {n : Nat} (hn : n ≤ 1114111) : atoiAll (dig 10 n) = .ok (n : Int) := by
  have h1 := pu_par (dig 10 n) 0 n (by omega) (par_dig (by omega) (by omega) n hn)
  have h2 : parseMag (dig 10 n) = .ok n := by
    unfold parseMag
    rw [if_neg (dig_ne 10 n), h1]
  cases hd : dig 10 n with
  | nil => exact absurd hd (dig_ne 10 n)
  | cons c r =>
    obtain ⟨d, hd10, hc⟩ := dig_mem (b := 10) (by omega) (by omega) n c (by rw [hd]; simp)
    have hp := dch_plain d hd10
    rw [← hc] at hp
    rw [atoiAll_plain c r hp.1 hp.2, ← hd, h2]
    unfold signless
    simp only
    rw [if_neg (by omega)]
/-- The text between. -/
def mid (s : List UInt8) : List UInt8 := Lib.trimSuffix (Lib.trimPrefix s [27, 91]) [68]
theorem mid_len (s : List UInt8) : (mid s).length ≤ s.length := by
  unfold mid Lib.trimSuffix Lib.trimPrefix
  (repeat' split) <;> simp <;> omega
theorem mid_of (d : List UInt8) : Lib.hasPrefix (27 :: 91 :: (d ++ [68])) [27, 91] = true ∧ Lib.hasSuffix (Lib.trimPrefix (27 :: 91 :: (d ++ [68])) [27, 91]) [68] = true ∧ mid (27 :: 91 :: (d ++ [68])) = d := by
  have h1 : Lib.hasPrefix (27 :: 91 :: (d ++ [68])) [27, 91] = true := by simp [Lib.hasPrefix, List.isPrefixOf]
  have h2 : Lib.trimPrefix (27 :: 91 :: (d ++ [68])) [27, 91] = d ++ [68] := by
    unfold Lib.trimPrefix
    rw [if_pos h1]
    rfl
  have h3 : Lib.hasSuffix (d ++ [68]) [68] = true := by
    unfold Lib.hasSuffix
    rw [List.isSuffixOf_iff_suffix]
    exact List.suffix_append _ _
  refine ⟨h1, by rw [h2]; exact h3, ?_⟩
  unfold mid
  rw [h2]
  unfold Lib.trimSuffix
  rw [if_pos h3]
  simp
theorem of_mid {s : List UInt8} (h1 : Lib.hasPrefix s [27, 91] = true) (h2 : Lib.hasSuffix (Lib.trimPrefix s [27, 91]) [68] = true) : s = 27 :: 91 :: (mid s ++ [68]) := by
  obtain ⟨t, rfl⟩ := List.isPrefixOf_iff_prefix.1 h1
  have e : Lib.trimPrefix ([27, 91] ++ t) [27, 91] = t := by
    unfold Lib.trimPrefix
    rw [if_pos h1]
    rfl
  rw [e] at h2
  obtain ⟨u, rfl⟩ := List.isSuffixOf_iff_suffix.1 h2
  unfold mid
  rw [e]
  unfold Lib.trimSuffix
  rw [if_pos h2]
  simp
theorem bk_of {s : List UInt8} {n : Nat} (h1 : Lib.hasPrefix s [27, 91] = true) (h2 : Lib.hasSuffix (Lib.trimPrefix s [27, 91]) [68] = true) (h3 : mid s = dig 10 n) (h4 : 1 ≤ n) (h5 : n ≤ 9999) : bk s = n := by
  rw [of_mid h1 h2, h3]
  exact bk_yes h4 h5
theorem bk_back {s : List UInt8} (h : bk s ≠ 0) : Lib.hasPrefix s [27, 91] = true ∧ Lib.hasSuffix (Lib.trimPrefix s [27, 91]) [68] = true ∧ mid s = dig 10 (bk s) ∧ 1 ≤ bk s ∧ bk s ≤ 9999 := by
  obtain ⟨h1, h2, h3⟩ := bk_form h
  have h4 := mid_of (dig 10 (bk s))
  rw [← h3] at h4
  exact ⟨h4.1, h4.2.1, h4.2.2, h1, h2⟩
/-- What Atoi answers. -/
def AtoiTo (s : List UInt8) (w : World) (e : Ending) (w' : World) : Prop := ∃ n ev, e = .returned (.tuple #[.int .i64 n, ev]) ∧ Stp [] w [] w' ∧ ((ev = .nilIface ∧ atoiAll s = .ok n) ∨ ∃ p, ev = .iface 141 (.pointer (some p)) ∧ ∀ v, atoiAll s ≠ .ok v)
theorem atoi_run (s : List UInt8) (hs : s.length ≤ 100000) (w : World) (hT : Tabs w) : Calls Tryz.prog 85 #[.string (st s)] w (AtoiTo s w) := by
  have hsz := st_size s
  rcases ha : Lib.atoiAll s with v | _ | _
  · refine (Tryz.strconv_Atoi_ok (st s) (by omega) v (by rw [st_data]; exact ha) w).mono ?_
    rintro e w1 ⟨rfl, hw⟩
    refine ⟨v, _, rfl, ?_, .inl ⟨rfl, ha⟩⟩
    rcases hw with rfl | ⟨t, rfl⟩
    · exact Stp.refl _ _
    · exact Stp.of_below (Lib.bytesWorld_below _ _ _)
  · obtain ⟨t, p, h⟩ := hT.syn
    refine (Any.strconv_Atoi_syntax Tryz.laysC172 (st s) (by omega) (by rw [st_data]; exact ha) _ w h (.inr ⟨t, p, rfl⟩)).mono ?_
    rintro e w1 ⟨N, rfl, h1, h2, h3⟩
    exact ⟨_, _, rfl, Stp.of_below h3, .inr ⟨_, rfl, fun v e => by rw [ha] at e; cases e⟩⟩
  · obtain ⟨t, p, h⟩ := hT.rng
    refine (Tryz.strconv_Atoi_range (st s) (by omega) (by rw [st_data]; exact ha) _ w h (.inr ⟨t, p, rfl⟩)).mono ?_
    rintro e w1 ⟨N, rfl, h1, h2, h3⟩
    exact ⟨_, _, rfl, Stp.of_below h3, .inr ⟨_, rfl, fun v e => by rw [ha] at e; cases e⟩⟩
/-- The two cuts. -/
theorem cuts_run (s : List UInt8) (hs : s.length ≤ 100000) (w : World) : Calls Tryz.prog 83 #[.string (st s), .string ⟨#[27, 91]⟩] w (Gives (.tuple #[.string (st (Lib.trimPrefix s [27, 91])), .bool (Lib.hasPrefix s [27, 91])]) w) ∧
    Calls Tryz.prog 84 #[.string (st (Lib.trimPrefix s [27, 91])), .string ⟨#[68]⟩] w (Gives (.tuple #[.string (st (mid s)), .bool (Lib.hasSuffix (Lib.trimPrefix s [27, 91]) [68])]) w) := by
  have hl : (Lib.trimPrefix s [27, 91]).length ≤ s.length := by
    unfold Lib.trimPrefix
    split <;> simp
  constructor
  · refine (Tryz.strings_CutPrefix (st s) ⟨#[27, 91]⟩ w).mono ?_
    rintro e w' ⟨rfl, rfl⟩
    refine ⟨?_, rfl⟩
    rw [st_data]
    rfl
  · refine (Tryz.strings_CutSuffix (st (Lib.trimPrefix s [27, 91])) ⟨#[68]⟩ w (by rw [st_size]; omega)).mono ?_
    rintro e w' ⟨rfl, rfl⟩
    refine ⟨?_, rfl⟩
    rw [st_data]
    rfl
set_option maxHeartbeats 2000000 in
set_option maxRecDepth 100000 in
/-- It goes back. -/
theorem back_yes (s : List UInt8) (hs : s.length ≤ 100000) (hb : bk s ≠ 0) (w : World) (hT : Tabs w) : Calls Tryz.prog 72 #[.string (st s)] w (Tells (.tuple #[.int .i64 (bk s : Int), .bool true]) w) := by
  obtain ⟨h1, h2, h3, h4, h5⟩ := bk_back hb
  have KC := cuts_run s hs w
  have KA := atoi_run (mid s) (by have := mid_len s; omega) w hT
  rw [h1, h2] at KC
  rw [h3] at KC KA
  have ha := atoi_dig (n := bk s) (by omega)
  have KP := Lib.hid KC.1
  have KQ := Lib.hid KC.2
  have KAt := Lib.hid KA
  have KI := Lib.hid (fun w' (hs : Stp [] w [] w') => itoa_run (bk s) (by omega) w' (hT.stays hs))
  have HA := Lib.hid ha
  clear KC KA hT h3 ha h1 h2 hb
  generalize dig 10 (bk s) = d at *
  generalize bk s = k at *
  have g1 : (0 : Int) < (k : Int) := by omega
  have g2 : (k : Int) ≤ 9999 := by omega
  have g3 := st_yes (a := st d) rfl
  go_enter Tryz.func72, Tryz.ntmps72
  go_wp2_with fail
  refine KP.out.mono ?_
  rintro _ _ ⟨rfl, rfl⟩
  clear KP
  go_wp2_with fail
  refine KQ.out.mono ?_
  rintro _ _ ⟨rfl, rfl⟩
  clear KQ
  go_wp2_with fail
  refine KAt.out.mono ?_
  rintro _ w1 ⟨n, ev, rfl, s1, ⟨rfl, e⟩ | ⟨p, rfl, e⟩⟩
  · rw [HA.out] at e
    cases e
    have HS := Lib.hid s1
    clear KAt s1 HA
    go_wp2_with fail
    refine (KI.out w1 HS.out).mono ?_
    rintro _ w2 ⟨rfl, s2⟩
    have HS2 := Lib.hid (HS.out.trans s2)
    clear KI s2
    go_wp2_with fail
    go_ret2
    exact ⟨rfl, HS2.out⟩
  · exact absurd HA.out (e _)
set_option maxHeartbeats 4000000 in
set_option maxRecDepth 100000 in
/-- It does not: it isn't one that might. -/
theorem back_no1 (s : List UInt8) (hs : s.length ≤ 100000) (hb : ¬ (Lib.hasPrefix s [27, 91] = true ∧ Lib.hasSuffix (Lib.trimPrefix s [27, 91]) [68] = true)) (w : World) (hT : Tabs w) : Calls Tryz.prog 72 #[.string (st s)] w (Tells (.tuple #[.int .i64 0, .bool false]) w) := by
  have KC := cuts_run s hs w
  have KP := Lib.hid KC.1
  have KQ := Lib.hid KC.2
  have KAt := Lib.hid (atoi_run (mid s) (by have := mid_len s; omega) w hT)
  clear KC hT
  generalize Lib.hasSuffix (Lib.trimPrefix s [27, 91]) [68] = q at *
  generalize Lib.hasPrefix s [27, 91] = p at *
  generalize Lib.trimPrefix s [27, 91] = t1 at *
  generalize mid s = t2 at *
  cases p <;> cases q <;> first
    | exact absurd ⟨rfl, rfl⟩ hb
    | (go_enter Tryz.func72, Tryz.ntmps72
       go_wp2_with fail
       refine KP.out.mono ?_
       rintro _ _ ⟨rfl, rfl⟩
       clear KP
       go_wp2_with fail
       refine KQ.out.mono ?_
       rintro _ _ ⟨rfl, rfl⟩
       clear KQ
       go_wp2_with fail
       refine KAt.out.mono ?_
       rintro _ w1 ⟨n, ev, rfl, s1, _⟩
       have HS := Lib.hid s1
       clear KAt s1
       go_wp2_with fail
       go_ret2
       exact ⟨rfl, HS.out⟩)
set_option maxHeartbeats 4000000 in
set_option maxRecDepth 100000 in
/-- It does not: the number. -/
theorem back_no2 (s : List UInt8) (hs : s.length ≤ 100000) (h1 : Lib.hasPrefix s [27, 91] = true) (h2 : Lib.hasSuffix (Lib.trimPrefix s [27, 91]) [68] = true) (hb : bk s = 0) (w : World) (hT : Tabs w) : Calls Tryz.prog 72 #[.string (st s)] w (Tells (.tuple #[.int .i64 0, .bool false]) w) := by
  have KC := cuts_run s hs w
  rw [h1, h2] at KC
  have KP := Lib.hid KC.1
  have KQ := Lib.hid KC.2
  have KAt := Lib.hid (atoi_run (mid s) (by have := mid_len s; omega) w hT)
  have hB : ∀ k : Nat, 1 ≤ k → k ≤ 9999 → dig 10 k ≠ mid s := fun k a b e => by
    have := bk_of h1 h2 e.symm a b
    omega
  have HBk := Lib.hid hB
  have KI := Lib.hid (fun k w' (hk : k ≤ 9999) (hs : Stp [] w [] w') => itoa_run k (by omega) w' (hT.stays hs))
  clear KC hT hB h1 h2 hb
  generalize Lib.trimPrefix s [27, 91] = t1 at *
  generalize mid s = t2 at *
  go_enter Tryz.func72, Tryz.ntmps72
  go_wp2_with fail
  refine KP.out.mono ?_
  rintro _ _ ⟨rfl, rfl⟩
  clear KP
  go_wp2_with fail
  refine KQ.out.mono ?_
  rintro _ _ ⟨rfl, rfl⟩
  clear KQ
  go_wp2_with fail
  refine KAt.out.mono ?_
  rintro _ w1 ⟨n, ev, rfl, s1, ⟨rfl, _⟩ | ⟨p, rfl, _⟩⟩
  · have HS := Lib.hid s1
    clear KAt s1
    by_cases g1 : (0 : Int) < n
    · by_cases g2 : n ≤ 9999
      · obtain ⟨k, rfl⟩ : ∃ k : Nat, n = (k : Int) := ⟨n.toNat, by omega⟩
        have g3 := st_no (a := st (dig 10 k)) (b := st t2) (fun e => HBk.out k (by omega) (by omega) (st_inj e))
        have KI1 := Lib.hid (KI.out k w1 (by omega) HS.out)
        clear KI HBk
        generalize dig 10 k = d at *
        go_wp2_with fail
        refine KI1.out.mono ?_
        rintro _ w2 ⟨rfl, s2⟩
        have HS2 := Lib.hid (HS.out.trans s2)
        clear KI1 s2
        go_wp2_with fail
        go_ret2
        exact ⟨rfl, HS2.out⟩
      · clear KI HBk
        go_wp2_with fail
        go_ret2
        exact ⟨rfl, HS.out⟩
    · clear KI HBk
      go_wp2_with fail
      go_ret2
      exact ⟨rfl, HS.out⟩
  · have HS := Lib.hid s1
    clear KAt s1 KI HBk
    go_wp2_with fail
    go_ret2
    exact ⟨rfl, HS.out⟩
theorem back_run (s : List UInt8) (hs : s.length ≤ 100000) (w : World) (hT : Tabs w) : Calls Tryz.prog 72 #[.string (st s)] w (Tells (.tuple #[.int .i64 (bk s : Int), .bool (decide (bk s ≠ 0))]) w) := by
  by_cases hb : bk s = 0
  · rw [hb]
    by_cases h : Lib.hasPrefix s [27, 91] = true ∧ Lib.hasSuffix (Lib.trimPrefix s [27, 91]) [68] = true
    · exact back_no2 s hs h.1 h.2 hb w hT
    · exact back_no1 s hs h w hT
  · rw [decide_eq_true hb]
    exact back_yes s hs hb w hT
end Go.Proofs.YtdaenaoagejgeaaGreatDoor
