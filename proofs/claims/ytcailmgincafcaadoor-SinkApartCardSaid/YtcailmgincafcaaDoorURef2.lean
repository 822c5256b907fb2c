/-
  The document's own Next (package whispererref01) at any bytes: the first character, or that there is none, and for how many bytes. What lay in memory stays.
-/
import Derived.Test.YtcailmgincafcaaDoorURef
namespace Go.Proofs.YtcailmgincafcaaDoor.U
open Go.RowKit Go.Lib
set_option linter.unusedVariables false

/-- What the first bytes come to behind k of them. -/
def pv (c0 b1 b2 b3 k : Nat) : Nat := if k = 1 then c0 else if k = 2 then c0 * 64 + b1 % 64 else if k = 3 then (c0 * 64 + b1 % 64) * 64 + b2 % 64 else ((c0 * 64 + b1 % 64) * 64 + b2 % 64) * 64 + b3 % 64
/-- The bytes ahead of the k-th one are right. -/
def Good (b0 b1 b2 b3 k : Nat) : Prop := (2 ≤ k → secB b0 b1 = true) ∧ (3 ≤ k → 128 ≤ b2 ∧ b2 ≤ 191) ∧ (4 ≤ k → 128 ≤ b3 ∧ b3 ≤ 191)

theorem sec_iff {a c : Nat} (h : secB a c = true) : loB a ≤ c ∧ c ≤ hiB a := by simpa [secB] using h
theorem sec_not {a c : Nat} (h : secB a c = false) : c < loB a ∨ hiB a < c := by
  simp [secB] at h
  omega
theorem lo_hi (a : Nat) : 128 ≤ loB a ∧ hiB a ≤ 191 := by
  unfold loB hiB
  (repeat' split) <;> omega

theorem nx_short {n b0 b1 b2 b3 s k : Nat} (hs : szB b0 = s) (h2 : 2 ≤ s) (h4 : s ≤ 4) (hk : 1 ≤ k) (hks : k < s) (g : Good b0 b1 b2 b3 k) (hn : k = n) : nextN n b0 b1 b2 b3 = (0, k, 7) := by
  subst hn
  unfold nextN
  rw [hs, if_neg (by omega), if_neg (by omega), if_neg (by omega)]
  rcases (by omega : k = 1 ∨ k = 2 ∨ k = 3) with rfl | rfl | rfl
  · simp
  · have g1 := sec_iff (g.1 (by omega))
    rw [if_neg (by omega), if_neg (by omega), if_neg (by omega), if_pos rfl]
  · have g1 := sec_iff (g.1 (by omega))
    have g2 := g.2.1 (by omega)
    rw [if_neg (by omega), if_neg (by omega), if_neg (by omega), if_neg (by omega), if_neg (by omega), if_neg (by omega), if_pos rfl]

theorem nx_bad {n b0 b1 b2 b3 s k : Nat} (hs : szB b0 = s) (h2 : 2 ≤ s) (h4 : s ≤ 4) (hk : 1 ≤ k) (hks : k < s) (g : Good b0 b1 b2 b3 k) (hn : k < n) (hbad : ¬ Good b0 b1 b2 b3 (k + 1)) : nextN n b0 b1 b2 b3 = (0, k, 8) := by
  unfold nextN
  rw [hs, if_neg (by omega), if_neg (by omega), if_neg (by omega)]
  rcases (by omega : k = 1 ∨ k = 2 ∨ k = 3) with rfl | rfl | rfl
  · have g1 : secB b0 b1 = false := by
      cases e : secB b0 b1
      · rfl
      · exact absurd ⟨fun _ => e, fun h => by omega, fun h => by omega⟩ hbad
    have g1' := sec_not g1
    rw [if_neg (by omega), if_pos (by omega)]
  · have g1 := sec_iff (g.1 (by omega))
    have g2 : b2 < 128 ∨ 191 < b2 := by
      rcases Nat.lt_or_ge b2 128 with e | e
      · exact .inl e
      · rcases Nat.lt_or_ge 191 b2 with e' | e'
        · exact .inr e'
        · exact absurd ⟨fun _ => g.1 (by omega), fun _ => ⟨e, e'⟩, fun h => by omega⟩ hbad
    rw [if_neg (by omega), if_neg (by omega), if_neg (by omega), if_neg (by omega), if_pos g2]
  · have g1 := sec_iff (g.1 (by omega))
    have g2 := g.2.1 (by omega)
    have g3 : b3 < 128 ∨ 191 < b3 := by
      rcases Nat.lt_or_ge b3 128 with e | e
      · exact .inl e
      · rcases Nat.lt_or_ge 191 b3 with e' | e'
        · exact .inr e'
        · exact absurd ⟨fun _ => g.1 (by omega), fun _ => g2, fun _ => ⟨e, e'⟩⟩ hbad
    rw [if_neg (by omega), if_neg (by omega), if_neg (by omega), if_neg (by omega), if_neg (by omega), if_neg (by omega), if_neg (by omega), if_pos g3]

theorem nx_ok {n b0 b1 b2 b3 s : Nat} (hs : szB b0 = s) (h2 : 2 ≤ s) (h4 : s ≤ 4) (g : Good b0 b1 b2 b3 s) (hn : s ≤ n) :
    nextN n b0 b1 b2 b3 = (pv (if s = 2 then b0 % 32 else if s = 3 then b0 % 16 else b0 % 8) b1 b2 b3 s, s, 0) := by
  unfold nextN
  rw [hs, if_neg (by omega), if_neg (by omega), if_neg (by omega)]
  have g1 := sec_iff (g.1 (by omega))
  rcases (by omega : s = 2 ∨ s = 3 ∨ s = 4) with rfl | rfl | rfl
  · rw [if_neg (by omega), if_neg (by omega), if_pos rfl]
    simp [pv]
  · have g2 := g.2.1 (by omega)
    rw [if_neg (by omega), if_neg (by omega), if_neg (by omega), if_neg (by omega), if_neg (by omega), if_pos rfl]
    simp [pv]
    omega
  · have g2 := g.2.1 (by omega)
    have g3 := g.2.2 (by omega)
    rw [if_neg (by omega), if_neg (by omega), if_neg (by omega), if_neg (by omega), if_neg (by omega), if_neg (by omega), if_neg (by omega), if_neg (by omega)]
    simp [pv]
    omega

set_option maxHeartbeats 2000000 in
set_option maxRecDepth 100000 in
theorem ref_2 (b off n cap b0 b1 b2 b3 : Nat) (w : World) (hn : 0 < n) (hm : n ≤ 9223372036854775807) (h : Four w b off n b0 b1 b2 b3) (hs : szB b0 = 2) :
    Calls Tryd.prog 25 #[.slice (some ⟨b, off, none⟩) n cap] w (Nx (nextN n b0 b1 b2 b3) w) := by
  have hb := h.lt
  have hz : ((n : Int) == 0) = false := by simp; omega
  have hz0 : (0 : Int) < (n : Int) := by omega
  have hc0 := h.c0
  have l0 := h.l0
  have l1 := h.l1
  have l2 := h.l2
  have l3 := h.l3
  have cS := size_any b0
  rw [hs] at cS
  have HS := Lib.hid cS
  have Hs := Lib.hid hs
  have HF := Lib.hid h
  obtain ⟨r, hr⟩ : ∃ r, nextN n b0 b1 b2 b3 = r := ⟨_, rfl⟩
  rw [hr]
  have Hr := Lib.hid hr
  clear cS hs h hr
  go_enter Tryd.func25, Tryd.ntmps25
  go_wp2_with (go_at_call 29; refine (HS.out _ l0).mono ?_; rintro e w' ⟨rfl, hw⟩; obtain rfl : w = w' := hw.symm)
  go_loopw [6, 7] (fun c i W => ∃ k : Nat, 1 ≤ k ∧ k ≤ 2 ∧ i = .int .i64 k ∧ c = .int .i64 (pv (b0 % 32) b1 b2 b3 k) ∧ Good b0 b1 b2 b3 k ∧ k ≤ n ∧ Below w.heap.size w W) (fun _ i _ => 2 - (intOf i).toNat)
  case atStart => exact ⟨1, by omega, by omega, rfl, by simp [pv], ⟨fun h => by omega, fun h => by omega, fun h => by omega⟩, by omega, Below.refl _ _⟩
  case round =>
    obtain ⟨k, hk1, hks, rfl, rfl, hg, hkn, hB⟩ := hrel
    have hF := HF.out.below hB hb
    have c0 := hF.c0
    have hbw : b < wr.heap.size := hF.lt
    rcases (by omega : k = 1 ∨ k = 2) with rfl | rfl
    · by_cases e : 1 = n
      · have hq : ((1 : Int) == (n : Int)) = true := by simp; omega
        have fin := nx_short (n := n) Hs.out (by omega) (by omega) hk1 (by omega) hg e
        obtain rfl : r = (0, 1, 7) := Hr.out.symm.trans fin
        have He := Lib.hid e
        clear hg hF fin e
        go_wp2
        go_ret3
        exact ⟨rfl, hB⟩
      · have hq : ((1 : Int) == (n : Int)) = false := by simp; omega
        have hlt : (1 : Int) < (n : Int) := by omega
        have c1 := hF.c1 (by omega)
        cases e2 : secB b0 b1
        · have fin := nx_bad (n := n) Hs.out (by omega) (by omega) hk1 (by omega) hg (by omega) (fun g => by have := g.1 (by omega); rw [e2] at this; cases this)
          obtain rfl : r = (0, 1, 8) := Hr.out.symm.trans fin
          have cs := second_any b0 b1
          rw [e2] at cs
          have HC := Lib.hid cs
          clear e2 cs fin hg hF
          go_wp2
          go_quiet ((go_at_call 30; exact Calls.quiet_of_same (HC.out _)))
          go_wp2
          go_ret3
          exact ⟨rfl, below_drewN hB _⟩
        · have hg2 : Good b0 b1 b2 b3 2 := ⟨fun _ => e2, fun h => by omega, fun h => by omega⟩
          have hb1 := sec_iff e2
          have hlh := lo_hi b0
          have i1 : (128 : Int) ≤ b1 := by omega
          have i2 : (b1 : Int) ≤ 191 := by omega
          have cs := second_any b0 b1
          rw [e2] at cs
          have HC := Lib.hid cs
          have Hg := Lib.hid hg2
          clear e2 cs hg hF hg2 hb1 hlh
          have ep : pv (b0 % 32) b1 b2 b3 1 = b0 % 32 := by simp [pv]
          rw [ep]
          clear ep
          go_wp2
          go_quiet ((go_at_call 30; exact Calls.quiet_of_same (HC.out _)))
          go_wp2
          go_roundw
          case rel => exact ⟨2, by omega, by omega, rfl, by simp [pv]; omega, Hg.out, by omega, below_drewN hB _⟩
          case measure => simp [intOf]
    · have fin := nx_ok Hs.out (by omega) (by omega) hg hkn
      have er : r = (pv (b0 % 32) b1 b2 b3 2, 2, 0) := by rw [← Hr.out, fin]; rfl
      subst er
      clear hg hF fin
      go_wp2
      go_ret3
      exact ⟨rfl, hB⟩

set_option maxHeartbeats 2000000 in
set_option maxRecDepth 100000 in
theorem ref_3 (b off n cap b0 b1 b2 b3 : Nat) (w : World) (hn : 0 < n) (hm : n ≤ 9223372036854775807) (h : Four w b off n b0 b1 b2 b3) (hs : szB b0 = 3) :
    Calls Tryd.prog 25 #[.slice (some ⟨b, off, none⟩) n cap] w (Nx (nextN n b0 b1 b2 b3) w) := by
  have hb := h.lt
  have hz : ((n : Int) == 0) = false := by simp; omega
  have hz0 : (0 : Int) < (n : Int) := by omega
  have hc0 := h.c0
  have l0 := h.l0
  have l1 := h.l1
  have l2 := h.l2
  have l3 := h.l3
  have cS := size_any b0
  rw [hs] at cS
  have HS := Lib.hid cS
  have Hs := Lib.hid hs
  have HF := Lib.hid h
  obtain ⟨r, hr⟩ : ∃ r, nextN n b0 b1 b2 b3 = r := ⟨_, rfl⟩
  rw [hr]
  have Hr := Lib.hid hr
  clear cS hs h hr
  go_enter Tryd.func25, Tryd.ntmps25
  go_wp2_with (go_at_call 29; refine (HS.out _ l0).mono ?_; rintro e w' ⟨rfl, hw⟩; obtain rfl : w = w' := hw.symm)
  go_loopw [6, 7] (fun c i W => ∃ k : Nat, 1 ≤ k ∧ k ≤ 3 ∧ i = .int .i64 k ∧ c = .int .i64 (pv (b0 % 16) b1 b2 b3 k) ∧ Good b0 b1 b2 b3 k ∧ k ≤ n ∧ Below w.heap.size w W) (fun _ i _ => 3 - (intOf i).toNat)
  case atStart => exact ⟨1, by omega, by omega, rfl, by simp [pv], ⟨fun h => by omega, fun h => by omega, fun h => by omega⟩, by omega, Below.refl _ _⟩
  case round =>
    obtain ⟨k, hk1, hks, rfl, rfl, hg, hkn, hB⟩ := hrel
    have hF := HF.out.below hB hb
    have c0 := hF.c0
    have hbw : b < wr.heap.size := hF.lt
    rcases (by omega : k = 1 ∨ k = 2 ∨ k = 3) with rfl | rfl | rfl
    · by_cases e : 1 = n
      · have hq : ((1 : Int) == (n : Int)) = true := by simp; omega
        have fin := nx_short (n := n) Hs.out (by omega) (by omega) hk1 (by omega) hg e
        obtain rfl : r = (0, 1, 7) := Hr.out.symm.trans fin
        have He := Lib.hid e
        clear hg hF fin e
        go_wp2
        go_ret3
        exact ⟨rfl, hB⟩
      · have hq : ((1 : Int) == (n : Int)) = false := by simp; omega
        have hlt : (1 : Int) < (n : Int) := by omega
        have c1 := hF.c1 (by omega)
        cases e2 : secB b0 b1
        · have fin := nx_bad (n := n) Hs.out (by omega) (by omega) hk1 (by omega) hg (by omega) (fun g => by have := g.1 (by omega); rw [e2] at this; cases this)
          obtain rfl : r = (0, 1, 8) := Hr.out.symm.trans fin
          have cs := second_any b0 b1
          rw [e2] at cs
          have HC := Lib.hid cs
          clear e2 cs fin hg hF
          go_wp2
          go_quiet ((go_at_call 30; exact Calls.quiet_of_same (HC.out _)))
          go_wp2
          go_ret3
          exact ⟨rfl, below_drewN hB _⟩
        · have hg2 : Good b0 b1 b2 b3 2 := ⟨fun _ => e2, fun h => by omega, fun h => by omega⟩
          have hb1 := sec_iff e2
          have hlh := lo_hi b0
          have i1 : (128 : Int) ≤ b1 := by omega
          have i2 : (b1 : Int) ≤ 191 := by omega
          have cs := second_any b0 b1
          rw [e2] at cs
          have HC := Lib.hid cs
          have Hg := Lib.hid hg2
          clear e2 cs hg hF hg2 hb1 hlh
          have ep : pv (b0 % 16) b1 b2 b3 1 = b0 % 16 := by simp [pv]
          rw [ep]
          clear ep
          go_wp2
          go_quiet ((go_at_call 30; exact Calls.quiet_of_same (HC.out _)))
          go_wp2
          go_roundw
          case rel => exact ⟨2, by omega, by omega, rfl, by simp [pv]; omega, Hg.out, by omega, below_drewN hB _⟩
          case measure => simp [intOf]
    · by_cases e : 2 = n
      · have hq : ((2 : Int) == (n : Int)) = true := by simp; omega
        have fin := nx_short (n := n) Hs.out (by omega) (by omega) hk1 (by omega) hg e
        obtain rfl : r = (0, 2, 7) := Hr.out.symm.trans fin
        have He := Lib.hid e
        clear hg hF fin e
        go_wp2
        go_ret3
        exact ⟨rfl, hB⟩
      · have hq : ((2 : Int) == (n : Int)) = false := by simp; omega
        have hlt : (2 : Int) < (n : Int) := by omega
        have c2 := hF.c2 (by omega)
        by_cases g1 : 128 ≤ b2
        · have i1 : ¬ ((b2 : Int) < 128) := by omega
          have d1 : decide ((b2 : Int) < 128) = false := by simpa using i1
          by_cases g2 : b2 ≤ 191
          · have i2 : ¬ ((191 : Int) < b2) := by omega
            have d2 : decide ((191 : Int) < (b2 : Int)) = false := by simpa using i2
            have hg2 : Good b0 b1 b2 b3 3 := ⟨fun _ => hg.1 (by omega), fun _ => ⟨g1, g2⟩, fun h => by omega⟩
            have Hg := Lib.hid hg2
            clear hg2 hg hF
            have ep : pv (b0 % 16) b1 b2 b3 2 = b0 % 16 * 64 + b1 % 64 := by simp [pv]
            obtain ⟨V, hV⟩ : ∃ V, V = b0 % 16 * 64 + b1 % 64 := ⟨_, rfl⟩
            have hVb : V < 2097152 := by omega
            rw [ep, ← hV]
            have HV := Lib.hid hV
            clear ep hV
            go_wp2
            go_quiet (fail)
            go_wp2
            go_roundw
            case rel => exact ⟨3, by omega, by omega, rfl, by rw [HV.out]; simp [pv]; omega, Hg.out, by omega, below_drewN hB _⟩
            case measure => simp [intOf]
          · have i2 : (191 : Int) < b2 := by omega
            have fin := nx_bad (n := n) Hs.out (by omega) (by omega) hk1 (by omega) hg (by omega) (fun g => by have := g.2.1 (by omega); omega)
            obtain rfl : r = (0, 2, 8) := Hr.out.symm.trans fin
            clear fin hg hF
            go_wp2
            go_quiet (fail)
            go_wp2
            go_ret3
            exact ⟨rfl, below_drewN hB _⟩
        · have i1 : (b2 : Int) < 128 := by omega
          have fin := nx_bad (n := n) Hs.out (by omega) (by omega) hk1 (by omega) hg (by omega) (fun g => by have := g.2.1 (by omega); omega)
          obtain rfl : r = (0, 2, 8) := Hr.out.symm.trans fin
          clear fin hg hF
          go_wp2
          go_quiet (fail)
          go_wp2
          go_ret3
          exact ⟨rfl, below_drewN hB _⟩
    · have fin := nx_ok Hs.out (by omega) (by omega) hg hkn
      have er : r = (pv (b0 % 16) b1 b2 b3 3, 3, 0) := by rw [← Hr.out, fin]; rfl
      subst er
      clear hg hF fin
      go_wp2
      go_ret3
      exact ⟨rfl, hB⟩

set_option maxHeartbeats 2000000 in
set_option maxRecDepth 100000 in
theorem ref_4 (b off n cap b0 b1 b2 b3 : Nat) (w : World) (hn : 0 < n) (hm : n ≤ 9223372036854775807) (h : Four w b off n b0 b1 b2 b3) (hs : szB b0 = 4) :
    Calls Tryd.prog 25 #[.slice (some ⟨b, off, none⟩) n cap] w (Nx (nextN n b0 b1 b2 b3) w) := by
  have hb := h.lt
  have hz : ((n : Int) == 0) = false := by simp; omega
  have hz0 : (0 : Int) < (n : Int) := by omega
  have hc0 := h.c0
  have l0 := h.l0
  have l1 := h.l1
  have l2 := h.l2
  have l3 := h.l3
  have cS := size_any b0
  rw [hs] at cS
  have HS := Lib.hid cS
  have Hs := Lib.hid hs
  have HF := Lib.hid h
  obtain ⟨r, hr⟩ : ∃ r, nextN n b0 b1 b2 b3 = r := ⟨_, rfl⟩
  rw [hr]
  have Hr := Lib.hid hr
  clear cS hs h hr
  go_enter Tryd.func25, Tryd.ntmps25
  go_wp2_with (go_at_call 29; refine (HS.out _ l0).mono ?_; rintro e w' ⟨rfl, hw⟩; obtain rfl : w = w' := hw.symm)
  go_loopw [6, 7] (fun c i W => ∃ k : Nat, 1 ≤ k ∧ k ≤ 4 ∧ i = .int .i64 k ∧ c = .int .i64 (pv (b0 % 8) b1 b2 b3 k) ∧ Good b0 b1 b2 b3 k ∧ k ≤ n ∧ Below w.heap.size w W) (fun _ i _ => 4 - (intOf i).toNat)
  case atStart => exact ⟨1, by omega, by omega, rfl, by simp [pv], ⟨fun h => by omega, fun h => by omega, fun h => by omega⟩, by omega, Below.refl _ _⟩
  case round =>
    obtain ⟨k, hk1, hks, rfl, rfl, hg, hkn, hB⟩ := hrel
    have hF := HF.out.below hB hb
    have c0 := hF.c0
    have hbw : b < wr.heap.size := hF.lt
    rcases (by omega : k = 1 ∨ k = 2 ∨ k = 3 ∨ k = 4) with rfl | rfl | rfl | rfl
    · by_cases e : 1 = n
      · have hq : ((1 : Int) == (n : Int)) = true := by simp; omega
        have fin := nx_short (n := n) Hs.out (by omega) (by omega) hk1 (by omega) hg e
        obtain rfl : r = (0, 1, 7) := Hr.out.symm.trans fin
        have He := Lib.hid e
        clear hg hF fin e
        go_wp2
        go_ret3
        exact ⟨rfl, hB⟩
      · have hq : ((1 : Int) == (n : Int)) = false := by simp; omega
        have hlt : (1 : Int) < (n : Int) := by omega
        have c1 := hF.c1 (by omega)
        cases e2 : secB b0 b1
        · have fin := nx_bad (n := n) Hs.out (by omega) (by omega) hk1 (by omega) hg (by omega) (fun g => by have := g.1 (by omega); rw [e2] at this; cases this)
          obtain rfl : r = (0, 1, 8) := Hr.out.symm.trans fin
          have cs := second_any b0 b1
          rw [e2] at cs
          have HC := Lib.hid cs
          clear e2 cs fin hg hF
          go_wp2
          go_quiet ((go_at_call 30; exact Calls.quiet_of_same (HC.out _)))
          go_wp2
          go_ret3
          exact ⟨rfl, below_drewN hB _⟩
        · have hg2 : Good b0 b1 b2 b3 2 := ⟨fun _ => e2, fun h => by omega, fun h => by omega⟩
          have hb1 := sec_iff e2
          have hlh := lo_hi b0
          have i1 : (128 : Int) ≤ b1 := by omega
          have i2 : (b1 : Int) ≤ 191 := by omega
          have cs := second_any b0 b1
          rw [e2] at cs
          have HC := Lib.hid cs
          have Hg := Lib.hid hg2
          clear e2 cs hg hF hg2 hb1 hlh
          have ep : pv (b0 % 8) b1 b2 b3 1 = b0 % 8 := by simp [pv]
          rw [ep]
          clear ep
          go_wp2
          go_quiet ((go_at_call 30; exact Calls.quiet_of_same (HC.out _)))
          go_wp2
          go_roundw
          case rel => exact ⟨2, by omega, by omega, rfl, by simp [pv]; omega, Hg.out, by omega, below_drewN hB _⟩
          case measure => simp [intOf]
    · by_cases e : 2 = n
      · have hq : ((2 : Int) == (n : Int)) = true := by simp; omega
        have fin := nx_short (n := n) Hs.out (by omega) (by omega) hk1 (by omega) hg e
        obtain rfl : r = (0, 2, 7) := Hr.out.symm.trans fin
        have He := Lib.hid e
        clear hg hF fin e
        go_wp2
        go_ret3
        exact ⟨rfl, hB⟩
      · have hq : ((2 : Int) == (n : Int)) = false := by simp; omega
        have hlt : (2 : Int) < (n : Int) := by omega
        have c2 := hF.c2 (by omega)
        by_cases g1 : 128 ≤ b2
        · have i1 : ¬ ((b2 : Int) < 128) := by omega
          have d1 : decide ((b2 : Int) < 128) = false := by simpa using i1
          by_cases g2 : b2 ≤ 191
          · have i2 : ¬ ((191 : Int) < b2) := by omega
            have d2 : decide ((191 : Int) < (b2 : Int)) = false := by simpa using i2
            have hg2 : Good b0 b1 b2 b3 3 := ⟨fun _ => hg.1 (by omega), fun _ => ⟨g1, g2⟩, fun h => by omega⟩
            have Hg := Lib.hid hg2
            clear hg2 hg hF
            have ep : pv (b0 % 8) b1 b2 b3 2 = b0 % 8 * 64 + b1 % 64 := by simp [pv]
            obtain ⟨V, hV⟩ : ∃ V, V = b0 % 8 * 64 + b1 % 64 := ⟨_, rfl⟩
            have hVb : V < 2097152 := by omega
            rw [ep, ← hV]
            have HV := Lib.hid hV
            clear ep hV
            go_wp2
            go_quiet (fail)
            go_wp2
            go_roundw
            case rel => exact ⟨3, by omega, by omega, rfl, by rw [HV.out]; simp [pv]; omega, Hg.out, by omega, below_drewN hB _⟩
            case measure => simp [intOf]
          · have i2 : (191 : Int) < b2 := by omega
            have fin := nx_bad (n := n) Hs.out (by omega) (by omega) hk1 (by omega) hg (by omega) (fun g => by have := g.2.1 (by omega); omega)
            obtain rfl : r = (0, 2, 8) := Hr.out.symm.trans fin
            clear fin hg hF
            go_wp2
            go_quiet (fail)
            go_wp2
            go_ret3
            exact ⟨rfl, below_drewN hB _⟩
        · have i1 : (b2 : Int) < 128 := by omega
          have fin := nx_bad (n := n) Hs.out (by omega) (by omega) hk1 (by omega) hg (by omega) (fun g => by have := g.2.1 (by omega); omega)
          obtain rfl : r = (0, 2, 8) := Hr.out.symm.trans fin
          clear fin hg hF
          go_wp2
          go_quiet (fail)
          go_wp2
          go_ret3
          exact ⟨rfl, below_drewN hB _⟩
    · by_cases e : 3 = n
      · have hq : ((3 : Int) == (n : Int)) = true := by simp; omega
        have fin := nx_short (n := n) Hs.out (by omega) (by omega) hk1 (by omega) hg e
        obtain rfl : r = (0, 3, 7) := Hr.out.symm.trans fin
        have He := Lib.hid e
        clear hg hF fin e
        go_wp2
        go_ret3
        exact ⟨rfl, hB⟩
      · have hq : ((3 : Int) == (n : Int)) = false := by simp; omega
        have hlt : (3 : Int) < (n : Int) := by omega
        have c3 := hF.c3 (by omega)
        by_cases g1 : 128 ≤ b3
        · have i1 : ¬ ((b3 : Int) < 128) := by omega
          have d1 : decide ((b3 : Int) < 128) = false := by simpa using i1
          by_cases g2 : b3 ≤ 191
          · have i2 : ¬ ((191 : Int) < b3) := by omega
            have d2 : decide ((191 : Int) < (b3 : Int)) = false := by simpa using i2
            have hg2 : Good b0 b1 b2 b3 4 := ⟨fun _ => hg.1 (by omega), fun _ => hg.2.1 (by omega), fun _ => ⟨g1, g2⟩⟩
            have Hg := Lib.hid hg2
            clear hg2 hg hF
            have ep : pv (b0 % 8) b1 b2 b3 3 = (b0 % 8 * 64 + b1 % 64) * 64 + b2 % 64 := by simp [pv]
            obtain ⟨V, hV⟩ : ∃ V, V = (b0 % 8 * 64 + b1 % 64) * 64 + b2 % 64 := ⟨_, rfl⟩
            have hVb : V < 2097152 := by omega
            rw [ep, ← hV]
            have HV := Lib.hid hV
            clear ep hV
            go_wp2
            go_quiet (fail)
            go_wp2
            go_roundw
            case rel => exact ⟨4, by omega, by omega, rfl, by rw [HV.out]; simp [pv]; omega, Hg.out, by omega, below_drewN hB _⟩
            case measure => simp [intOf]
          · have i2 : (191 : Int) < b3 := by omega
            have fin := nx_bad (n := n) Hs.out (by omega) (by omega) hk1 (by omega) hg (by omega) (fun g => by have := g.2.2 (by omega); omega)
            obtain rfl : r = (0, 3, 8) := Hr.out.symm.trans fin
            clear fin hg hF
            go_wp2
            go_quiet (fail)
            go_wp2
            go_ret3
            exact ⟨rfl, below_drewN hB _⟩
        · have i1 : (b3 : Int) < 128 := by omega
          have fin := nx_bad (n := n) Hs.out (by omega) (by omega) hk1 (by omega) hg (by omega) (fun g => by have := g.2.2 (by omega); omega)
          obtain rfl : r = (0, 3, 8) := Hr.out.symm.trans fin
          clear fin hg hF
          go_wp2
          go_quiet (fail)
          go_wp2
          go_ret3
          exact ⟨rfl, below_drewN hB _⟩
    · have fin := nx_ok Hs.out (by omega) (by omega) hg hkn
      have er : r = (pv (b0 % 8) b1 b2 b3 4, 4, 0) := by rw [← Hr.out, fin]; rfl
      subst er
      clear hg hF fin
      go_wp2
      go_ret3
      exact ⟨rfl, hB⟩


theorem ref_empty (a : Option Addr) (cap : Nat) (w : World) : Calls Tryd.prog 25 #[.slice a 0 cap] w (Nx (0, 0, 6) w) := by
  go_enter Tryd.func25, Tryd.ntmps25
  go_wp2
  go_ret3
  exact ⟨rfl, Below.refl _ _⟩

set_option maxHeartbeats 1000000 in
set_option maxRecDepth 100000 in
theorem ref_01 (b off n cap b0 b1 b2 b3 : Nat) (w : World) (hn : 0 < n) (h : Four w b off n b0 b1 b2 b3) (hs : szB b0 ≤ 1) :
    Calls Tryd.prog 25 #[.slice (some ⟨b, off, none⟩) n cap] w (Nx (nextN n b0 b1 b2 b3) w) := by
  have hz : ((n : Int) == 0) = false := by simp; omega
  have hz0 : (0 : Int) < (n : Int) := by omega
  have hc0 := h.c0
  have l0 := h.l0
  have cS := size_any b0
  rcases (by omega : szB b0 = 0 ∨ szB b0 = 1) with e | e
  · have fin : nextN n b0 b1 b2 b3 = (0, 1, 8) := by simp [nextN, e]; omega
    rw [fin]
    rw [e] at cS
    have HS := Lib.hid cS
    clear cS e h fin hs
    go_enter Tryd.func25, Tryd.ntmps25
    go_wp2_with (go_at_call 29; refine (HS.out _ l0).mono ?_; rintro e w' ⟨rfl, hw⟩; obtain rfl : w = w' := hw.symm)
    go_ret3
    exact ⟨rfl, Below.refl _ _⟩
  · have fin : nextN n b0 b1 b2 b3 = (b0, 1, 0) := by simp [nextN, e]; omega
    rw [fin]
    rw [e] at cS
    have HS := Lib.hid cS
    clear cS e h fin hs
    go_enter Tryd.func25, Tryd.ntmps25
    go_wp2_with (go_at_call 29; refine (HS.out _ l0).mono ?_; rintro e w' ⟨rfl, hw⟩; obtain rfl : w = w' := hw.symm)
    go_ret3
    exact ⟨rfl, Below.refl _ _⟩

theorem ref_any (a : Option Addr) (cap : Nat) (l : List Nat) (w : World) (h : Bts w a l) (hm : l.length ≤ 9223372036854775807) :
    Calls Tryd.prog 25 #[.slice a l.length cap] w (Nx (nx l) w) := by
  by_cases hl : l = []
  · subst hl
    exact ref_empty a cap w
  · obtain ⟨b, off, rfl, hc⟩ := h.2 hl
    have h0 : 0 < l.length := List.length_pos_iff.2 hl
    have h4 := Bts.four h.1 hc h0
    have hs := szB_le (l.getD 0 0)
    rcases (by omega : szB (l.getD 0 0) ≤ 1 ∨ szB (l.getD 0 0) = 2 ∨ szB (l.getD 0 0) = 3 ∨ szB (l.getD 0 0) = 4) with e | e | e | e
    · exact ref_01 b off _ cap _ _ _ _ w h0 h4 e
    · exact ref_2 b off _ cap _ _ _ _ w h0 hm h4 e
    · exact ref_3 b off _ cap _ _ _ _ w h0 hm h4 e
    · exact ref_4 b off _ cap _ _ _ _ w h0 hm h4 e

end Go.Proofs.YtcailmgincafcaaDoor.U
