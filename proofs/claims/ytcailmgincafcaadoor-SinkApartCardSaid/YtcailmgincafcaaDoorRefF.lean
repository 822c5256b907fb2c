/-
  The document's Fine; utf.Count; the statements' size.
-/
import Derived.Test.YtcailmgincafcaaDoorBufI
import Derived.Test.YtcailmgincafcaaDoorURef2
namespace Go.Proofs.YtcailmgincafcaaDoor
open Go.RowKit Go.Lib
set_option linter.unusedVariables false

/-- The document's Next at bytes. -/
theorem rnext8 (a : Option Addr) (n cap : Nat) (l : List UInt8) (w : World) (h : Bts w a l) (hn : n = l.length) (hm : n ≤ 9223372036854775807) : Calls Tryd.prog 25 #[.slice a n cap] w fun e w' => e = .returned (.tuple #[.int .i64 (nx8 l).1, .int .i64 (nx8 l).2.1, .int .i64 (nx8 l).2.2]) ∧ Stp [] w [] w' := by
  have := U.ref_any a cap (l.map UInt8.toNat) w (bts_to_U h) (by simp; omega)
  rw [List.length_map, ← hn] at this
  exact this.mono fun e w' ⟨h1, h2⟩ => ⟨h1, Stp.of_below h2⟩
set_option maxHeartbeats 1000000 in
set_option maxRecDepth 100000 in
theorem rfine_run (a : Option Addr) (n cap : Nat) (l : List UInt8) (w : World) (h : Bts w a l) (hn : n = l.length) (hcap : n ≤ cap) (hm : cap ≤ maxLen) : Calls Tryd.prog 20 #[.slice a n cap] w (Tells (.bool (fiB l)) w) := by
  have H := Lib.hid (And.intro h hn)
  have hml : n ≤ 9223372036854775807 := by unfold maxLen at hm; omega
  have HC := Lib.hid (And.intro hcap hm)
  clear hn hcap hm
  clear h
  go_enter Tryd.func20, Tryd.ntmps20
  go_wp2
  go_loopg [3] (n + 1) (fun gk vi wr => ∃ i : Nat, vi = .int .i64 (i : Int) ∧ i ≤ n ∧ n - i ≤ gk ∧ Aside (Stp [] w [] wr ∧ (Fi l ↔ Fi (l.drop i))))
  case atStart => exact ⟨0, rfl, Nat.zero_le _, by omega, Stp.refl _ _, Iff.rfl⟩
  case round =>
    obtain ⟨i, rfl, hi, hg, HS⟩ := hrel
    obtain ⟨m, hm⟩ : ∃ m, m = l.drop i := ⟨_, rfl⟩
    have hml2 : n - i = m.length := by rw [hm, List.length_drop, ← H.out.2]
    have hbm : Bts wr (cutp a i cap) m := by
      rw [hm]
      exact bts_drop (H.out.1.stays HS.out.1) i cap (by rw [← H.out.2]; exact hi) (by rw [← H.out.2]; exact HC.out.1)
    have HM := Lib.hid (And.intro hbm (And.intro hml2 (And.intro hm (show Fi l ↔ Fi m by rw [hm]; exact HS.out.2))))
    clear hbm hml2 hm
    by_cases hlt : i < n
    · have hltz : (i : Int) < (n : Int) := by omega
      have hne : m ≠ [] := by intro e; have := HM.out.2.1; rw [e] at this; simp at this; omega
      have KN := rnext8 (cutp a i cap) (n - i) (cap - i) m wr HM.out.1 HM.out.2.1 (by omega)
      have hk := nx8_pos hne
      have hc := nx8_lt (l := m)
      have HF := Lib.hid (And.intro (fun h => Fi.no hne h) (And.intro (fun h0 hp => Fi.step (m := m) hne h0 hp) (And.intro hk hne)))
      obtain ⟨c, hcc⟩ : ∃ c, c = (nx8 m).1 := ⟨_, rfl⟩
      obtain ⟨k, hkk⟩ : ∃ k, k = (nx8 m).2.1 := ⟨_, rfl⟩
      obtain ⟨e, hee⟩ : ∃ e, e = (nx8 m).2.2 := ⟨_, rfl⟩
      rw [← hcc, ← hkk, ← hee] at KN HF
      rw [← hkk] at hk
      have hkq : i + k ≤ n := by have := HM.out.2.1; omega
      have hk1 : 1 ≤ k := hk.1
      have KN := Lib.hid KN
      have KP := Lib.hid (fun W => U.rpr_any (c : Int) W)
      have cl := cut_l a n cap i hi
      have hw : IntKind.i64.wrap ((i : Int) + (k : Int)) = ((i + k : Nat) : Int) := by rw [IntKind.wrap_i64]; omega
      clear hk hcc hkk hee hne hc
      by_cases h0 : e = 0
      · have hd : ((e : Int) != 0) = false := by simp [h0]
        have H0 := Lib.hid h0
        clear h0
        cases hp : U.prB (c : Int) with
        | true =>
          rw [hp] at KP
          have HP := Lib.hid hp
          clear hp
          go_wp2_with fail
          refine KN.out.mono ?_
          rintro _ w1 ⟨rfl, s1⟩
          have S1 := Lib.hid s1
          clear s1
          go_wp2_with fail
          refine (KP.out _).mono ?_
          rintro _ w2 ⟨rfl, hw2⟩
          obtain rfl : w1 = w2 := hw2.symm
          go_wp2
          go_roundg (n - (i + k))
          case measure => omega
          case rel =>
            refine ⟨i + k, by go_num, hkq, by omega, HS.out.1.trans S1.out, ?_⟩
            have hs := HF.out.2.1 H0.out HP.out
            rw [← List.drop_drop, ← HM.out.2.2.1, HM.out.2.2.2]
            exact ⟨fun h => by rw [hs.1] at h; exact Fi.cancel hs.2 h, fun h => by rw [hs.1]; exact Fi.app hs.2 h⟩
        | false =>
          rw [hp] at KP
          have HP := Lib.hid hp
          clear hp
          go_wp2_with fail
          refine KN.out.mono ?_
          rintro _ w1 ⟨rfl, s1⟩
          have S1 := Lib.hid s1
          clear s1
          go_wp2_with fail
          refine (KP.out _).mono ?_
          rintro _ w2 ⟨rfl, hw2⟩
          obtain rfl : w1 = w2 := hw2.symm
          go_wp2
          go_ret
          have hf : fiB l = false := by
            cases hb : fiB l
            · rfl
            · exact absurd (HM.out.2.2.2.1 ((fi_iff l).1 hb)) (HF.out.1 (.inr HP.out))
          rw [hf]
          exact ⟨rfl, HS.out.1.trans S1.out⟩
      · have hd : ((e : Int) != 0) = true := by rw [bne_iff_ne]; omega
        have H0 := Lib.hid h0
        clear h0
        go_wp2_with fail
        refine KN.out.mono ?_
        rintro _ w1 ⟨rfl, s1⟩
        have S1 := Lib.hid s1
        clear s1
        go_wp2
        go_ret
        have hf : fiB l = false := by
          cases hb : fiB l
          · rfl
          · exact absurd (HM.out.2.2.2.1 ((fi_iff l).1 hb)) (HF.out.1 (.inl H0.out))
        rw [hf]
        exact ⟨rfl, HS.out.1.trans S1.out⟩
    · have hltz : ¬ (i : Int) < (n : Int) := by omega
      go_wp2
      go_ret
      have hf : fiB l = true := by
        have : m = [] := List.length_eq_zero_iff.1 (by rw [← HM.out.2.1]; omega)
        exact (fi_iff l).2 (HM.out.2.2.2.2 (by rw [this]; exact Fi.nil))
      rw [hf]
      exact ⟨rfl, HS.out.1⟩
end Go.Proofs.YtcailmgincafcaaDoor
