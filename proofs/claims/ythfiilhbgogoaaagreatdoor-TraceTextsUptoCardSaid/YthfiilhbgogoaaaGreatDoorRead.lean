/-
  attrs.gatherPart, gatherFlags and Read.
-/
import Derived.Test.YthfiilhbgogoaaaGreatDoorGather
namespace Go.Proofs.YthfiilhbgogoaaaGreatDoor
open Go.RowKit Go.Lib
set_option linter.unusedVariables false

theorem gpn_up {p : List UInt8} {v : Nat} : ∀ {k i : Nat}, gpn p i = some v → gpn p (i + k) = some v
  | 0, i, h => h
  | k + 1, i, h => by
    rw [← Nat.add_assoc, gpn, gpn_up h]
theorem gp_yes {l : List UInt8} {i : Nat} (hi : i < 7) (h : gpn l i = none) (e : l = nm i) : gp l = 2 ^ i := by
  have h1 : gpn l (i + 1) = some (2 ^ i) := by rw [gpn, h]; simp only; rw [if_pos e]
  have h2 := gpn_up (k := 6 - i) h1
  rw [show i + 1 + (6 - i) = 7 by omega] at h2
  unfold gp
  rw [h2]
theorem gpn_no {l : List UInt8} {i : Nat} (h : gpn l i = none) (e : l ≠ nm i) : gpn l (i + 1) = none := by
  rw [gpn, h]
  simp only
  rw [if_neg e]
theorem gp_nil : gp [] = 0 := by decide
theorem gp_cons {c : UInt8} {r : List UInt8} (h : gpn (c :: r) 7 = none) : gp (c :: r) = if c = 120 then gat 16 4294967295 r else 0 := by
  unfold gp
  rw [h]

set_option maxHeartbeats 1000000 in
set_option maxRecDepth 100000 in
theorem part_run (l : List UInt8) (hl : l.length ≤ 1000000) (w : World) (hT : Tabs w) : Calls Tryz.prog 82 #[.string (st l)] w (Tells (.int .u32 (gp l : Int)) w) := by
  have c0 := hT.nam 0 (by omega)
  have c1 := hT.nam 1 (by omega)
  have c2 := hT.nam 2 (by omega)
  have c3 := hT.nam 3 (by omega)
  have c4 := hT.nam 4 (by omega)
  have c5 := hT.nam 5 (by omega)
  have c6 := hT.nam 6 (by omega)
  simp only [Nat.mul_zero, Nat.zero_add, Nat.mul_one, Nat.reduceMul, Nat.reduceAdd] at c0 c1 c2 c3 c4 c5 c6
  have HT : Aside (Tabs w) := hT
  clear hT
  go_enter Tryz.func82, Tryz.ntmps82
  go_wp2
  clear c0 c1 c2 c3 c4 c5 c6
  obtain ⟨V, hV⟩ : ∃ V, V = NV := ⟨_, rfl⟩
  have HV : Hid (∀ i : Nat, i < 7 → ∀ W, (Instr.index 117 V (.int .i64 (i : Int))).run Tryz.prog W = .ok (.agg #[.int .u32 ((2 ^ i : Nat) : Int), .string (st (nm i))]) W) := Lib.hid (by rw [hV]; exact nv_index)
  unfold NV at hV
  rw [← hV]
  clear hV
  go_loopg [8] 7 (fun gk vi wr => ∃ i : Nat, vi = .int .i64 (i : Int) ∧ i ≤ 7 ∧ 7 - i ≤ gk ∧ Aside (gpn l i = none ∧ Stp [] w [] wr))
  case atStart => exact ⟨0, rfl, by omega, by omega, rfl, Stp.refl _ _⟩
  case round =>
    obtain ⟨i, rfl, hi7, hg, HS⟩ := hrel
    by_cases hlt : i < 7
    · have hltz : (i : Int) < 7 := by omega
      have hix := HV.out i hlt
      by_cases he : l = nm i
      · have hq : ((st l).toList == (st (nm i)).toList) = true := st_yes (by rw [he])
        have HE : Aside (gp l = 2 ^ i) := gp_yes hlt HS.out.1 he
        have HO : Aside (Stp [] w [] wr) := HS.out.2
        clear he HS HV
        generalize nm i = s at *
        generalize (2 ^ i : Nat) = p at *
        go_wp2
        go_ret
        exact ⟨by rw [HE.out]; rfl, HO.out.trans (Stp.alloc [] _ _)⟩
      · have hq : ((st l).toList == (st (nm i)).toList) = false := st_no (fun e => he (st_inj e))
        have HE : Aside (gpn l (i + 1) = none) := gpn_no HS.out.1 he
        have HO : Aside (Stp [] w [] wr) := HS.out.2
        clear he HS
        generalize nm i = s at *
        generalize (2 ^ i : Nat) = p at *
        go_wp2
        go_roundg (7 - (i + 1))
        case measure => omega
        case rel => exact ⟨i + 1, by go_num, by omega, by omega, HE.out, HO.out.trans (Stp.alloc [] _ _)⟩
    · have hltz : ¬ (i : Int) < 7 := by omega
      obtain rfl : i = 7 := by omega
      obtain ⟨hN, hSt⟩ := HS.out
      have hT := HT.out.stays hSt
      clear HS HV HT
      have KP := prefix_run l wr
      cases l with
      | nil =>
        simp only at KP
        have HE : Aside (Stp [] w [] wr) := hSt
        clear hT
        go_wp2_with (go_at_call 94; refine KP.mono ?_; rintro _ w1 ⟨rfl, rfl⟩)
        go_ret
        exact ⟨by rw [gp_nil]; rfl, HE.out⟩
      | cons c r =>
        have hgp := gp_cons hN
        by_cases hc : c = 120
        · subst hc
          rw [if_pos rfl] at hgp
          simp only [if_pos] at KP
          have KG := gather16_run r (by simp at hl; omega) wr hT
          have hle := gat_le 16 4294967295 r
          have HE : Aside (Stp [] w [] wr ∧ gp (120 :: r) = gat 16 4294967295 r) := ⟨hSt, hgp⟩
          clear hT hgp
          generalize gat 16 4294967295 r = v at *
          have hv : (v : Int) ≤ 4294967295 := by omega
          go_wp2_with (first
            | (go_at_call 94; refine KP.mono ?_; rintro _ w1 ⟨rfl, rfl⟩)
            | (go_at_call 83; refine KG.mono ?_; rintro _ w2 ⟨rfl, s2⟩))
          go_ret
          exact ⟨by rw [HE.out.2]; rfl, HE.out.1.trans s2⟩
        · rw [if_neg hc] at hgp
          simp only [if_neg hc] at KP
          have HE : Aside (Stp [] w [] wr ∧ gp (c :: r) = 0) := ⟨hSt, hgp⟩
          clear hT hgp
          go_wp2_with (go_at_call 94; refine KP.mono ?_; rintro _ w1 ⟨rfl, rfl⟩)
          go_ret
          exact ⟨by rw [HE.out.2]; rfl, HE.out.1⟩

set_option maxHeartbeats 1000000 in
set_option maxRecDepth 100000 in
theorem gflags_run (l : List UInt8) (hl : l.length ≤ 1000000) (w : World) (hT : Tabs w) : Calls Tryz.prog 68 #[.string (st l)] w (Tells (.int .u32 (gf l : Int)) w) := by
  have HT : Aside (Tabs w) := hT
  clear hT
  go_enter Tryz.func68, Tryz.ntmps68
  go_wp2
  go_loopg [0, 3, 4] (l.length + 1) (fun gk v0 v3 v4 wr => ∃ (r : List UInt8) (acc : Nat) (b : Bool), v0 = .string (st r) ∧ v3 = .int .u32 (acc : Int) ∧ v4 = .bool b ∧ r.length ≤ 1000000 ∧ acc < 4294967296 ∧ (if b then r.length + 1 else 0) ≤ gk ∧ Aside (gf l = (if b then gfl (spl 43 r) acc else acc) ∧ Stp [] w [] wr))
  case atStart => exact ⟨l, 0, true, rfl, rfl, rfl, hl, by omega, by simp, rfl, Stp.refl _ _⟩
  case round =>
    obtain ⟨r, acc, b, rfl, rfl, rfl, hr, ha, hg, HS⟩ := hrel
    cases b with
    | true =>
      have K1 := cut_run r 43 wr (by omega)
      have hlen := cutc_len 43 r
      have hspl := cutc_spl 43 r
      have hgl : (cutc 43 r).2.2 = true → (cutc 43 r).2.1.length + 1 ≤ r.length := fun e => hlen.2 e
      have K2 : Hid (∀ W, Stp [] w [] W → Calls Tryz.prog 82 #[.string (st (cutc 43 r).1)] W (Tells (.int .u32 (gp (cutc 43 r).1 : Int)) W)) := Lib.hid fun W hs => part_run _ (by omega) W (HT.out.stays hs)
      have hp := gp_le (cutc 43 r).1
      have hor := bits_or ha hp
      have holt : acc ||| gp (cutc 43 r).1 < 4294967296 := Nat.or_lt_two_pow (n := 32) ha hp
      have HE : Aside (gf l = (if (cutc 43 r).2.2 then gfl (spl 43 (cutc 43 r).2.1) (acc ||| gp (cutc 43 r).1) else (acc ||| gp (cutc 43 r).1)) ∧ Stp [] w [] wr) := by
        refine ⟨?_, HS.out.2⟩
        have := HS.out.1
        simp only [if_true] at this
        rw [this, hspl]
        cases (cutc 43 r).2.2 <;> simp [gfl]
      have hr1 : (cutc 43 r).2.1.length ≤ r.length := by omega
      clear HS hspl hlen
      generalize gp (cutc 43 r).1 = p at *
      generalize (acc ||| p : Nat) = acc' at *
      generalize (cutc 43 r).1 = q at *
      generalize (cutc 43 r).2.1 = r' at *
      generalize (cutc 43 r).2.2 = b' at *
      simp only [if_true] at hg
      go_wp2_with (first
        | (go_at_call 21; refine K1.mono ?_; rintro _ w1 ⟨rfl, s1⟩)
        | (go_at_call 82; refine (K2.out _ (HE.out.2.trans s1)).mono ?_; rintro _ w2 ⟨rfl, s2⟩))
      go_roundg (if b' then r'.length + 1 else 0)
      case measure =>
        cases b'
        · simp; omega
        · simp
          have := hgl rfl
          omega
      case rel => exact ⟨r', acc', b', rfl, by go_num, rfl, by omega, by omega, by omega, HE.out.1, (HE.out.2.trans s1).trans s2⟩
    | false =>
      have HE : Aside (gf l = acc ∧ Stp [] w [] wr) := ⟨by simpa using HS.out.1, HS.out.2⟩
      clear HS
      go_wp2
      go_ret
      exact ⟨by rw [HE.out.1]; rfl, HE.out.2⟩
end Go.Proofs.YthfiilhbgogoaaaGreatDoor
