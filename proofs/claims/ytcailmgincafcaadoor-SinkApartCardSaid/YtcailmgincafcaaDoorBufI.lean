/-
  Insert, Clear; and the document's Fine.
-/
import Derived.Test.YtcailmgincafcaaDoorFine
import Derived.Test.YtcailmgincafcaaDoorLaw
namespace Go.Proofs.YtcailmgincafcaaDoor
open Go.RowKit Go.Lib
set_option linter.unusedVariables false

/-- Where a slice of bytes begins a little further on. -/
theorem bts_drop {w : World} {a : Option Addr} {l : List UInt8} (h : Bts w a l) (i N : Nat) (hi : i ≤ l.length) (hN : l.length ≤ N) : Bts w (cutp a i N) (l.drop i) := by
  have := h.cut hi (Nat.le_refl l.length) hN
  rwa [List.take_of_length_le (by simp)] at this
/-- Next at bytes. -/
theorem next8 (a : Option Addr) (n cap : Nat) (l : List UInt8) (w : World) (h : Bts w a l) (hn : n = l.length) (hcap : n ≤ cap) (hm : cap ≤ maxLen) (hT : U.Tabs w) : Calls Tryd.prog 32 #[.slice a n cap] w fun e w' => e = .returned (.tuple #[.int .i64 (nx8 l).1, .int .i64 (nx8 l).2.1, .int .i64 (nx8 l).2.2]) ∧ Stp [] w [] w' := by
  have := U.next_any a cap (l.map UInt8.toNat) w (bts_to_U h) (by simp; omega) hm hT
  rw [List.length_map, ← hn] at this
  exact this.mono fun e w' ⟨h1, h2⟩ => ⟨h1, Stp.of_below h2⟩
theorem tabs_stays {w w' : World} {F : List Nat} (h : U.Tabs w) (hs : Stp [] w F w') : U.Tabs w' := h.below hs.under
set_option maxHeartbeats 1000000 in
set_option maxRecDepth 100000 in
theorem may_run (a : Option Addr) (n cap : Nat) (l : List UInt8) (w : World) (h : Bts w a l) (hn : n = l.length) (hcap : n ≤ cap) (hm : cap ≤ maxLen) (hT : U.Tabs w) : Calls Tryd.prog 27 #[.slice a n cap] w (Tells (.bool (fiB l)) w) := by
  have H := Lib.hid (And.intro h (And.intro hn hT))
  clear h hT
  go_enter Tryd.func27, Tryd.ntmps27
  go_wp2
  go_loopg [0] (n + 1) (fun gk v0 wr => ∃ (q : Nat) (a' : Option Addr) (c' : Nat), v0 = .slice a' q c' ∧ q ≤ gk ∧ q ≤ c' ∧ c' ≤ maxLen ∧ Aside (Stp [] w [] wr ∧ ∃ m, Bts wr a' m ∧ q = m.length ∧ (Fi l ↔ Fi m)))
  case atStart => exact ⟨n, a, cap, rfl, by omega, hcap, hm, Stp.refl _ _, l, H.out.1, H.out.2.1, Iff.rfl⟩
  case round =>
    obtain ⟨q, a', c', rfl, hg, hcap', hm', HS⟩ := hrel
    obtain ⟨m, hmm⟩ : ∃ m, Bts wr a' m ∧ q = m.length ∧ (Fi l ↔ Fi m) := HS.out.2
    have HM := Lib.hid hmm
    clear hmm
    by_cases hlt : 0 < q
    · have hltz : (0 : Int) < (q : Int) := by omega
      have hne : m ≠ [] := by intro e; have := HM.out.2.1; rw [e] at this; simp at this; omega
      have KN := next8 a' q c' m wr HM.out.1 HM.out.2.1 hcap' hm' (tabs_stays H.out.2.2 HS.out.1)
      have hk := nx8_pos hne
      have hc := nx8_lt (l := m)
      have HF := Lib.hid (And.intro (fun h => Fi.no hne h) (And.intro (fun h0 hp => Fi.step (m := m) hne h0 hp) (And.intro hk hne)))
      obtain ⟨c, hcc⟩ : ∃ c, c = (nx8 m).1 := ⟨_, rfl⟩
      obtain ⟨k, hkk⟩ : ∃ k, k = (nx8 m).2.1 := ⟨_, rfl⟩
      obtain ⟨e, hee⟩ : ∃ e, e = (nx8 m).2.2 := ⟨_, rfl⟩
      rw [← hcc, ← hkk, ← hee] at KN HF
      rw [← hkk] at hk
      have hkq : k ≤ q := by have := HM.out.2.1; omega
      have hk1 : 1 ≤ k := hk.1
      have KN := Lib.hid KN
      have KP := Lib.hid (fun W => U.pr_any (c : Int) W)
      have cl := cut_l a' q c' k hkq
      clear hk hcc hkk hee hne hc
      by_cases h0 : e = 0
      · have hd : ((e : Int) != 0) = false := by simp [h0]
        have H0 := Lib.hid h0
        clear h0
        cases hp : U.prB (c : Int) with
        | true =>
          rw [hp] at KP
          have HP := Lib.hid hp
          clear hp
          go_wp2_with fail
          refine KN.out.mono ?_
          rintro _ w1 ⟨rfl, s1⟩
          have S1 := Lib.hid s1
          clear s1
          go_wp2_with fail
          refine (KP.out _).mono ?_
          rintro _ w2 ⟨rfl, hw⟩
          obtain rfl : w1 = w2 := hw.symm
          go_wp2
          go_roundg (q - k)
          case measure => omega
          case rel =>
            refine ⟨q - k, cutp a' k c', c' - k, rfl, Nat.le_refl _, by omega, by omega, HS.out.1.trans S1.out, m.drop k, ?_, ?_, ?_⟩
            · exact bts_drop (HM.out.1.stays S1.out) k c' (by have := HM.out.2.1; omega) (by have := HM.out.2.1; omega)
            · have := HM.out.2.1; simp; omega
            · have hs := HF.out.2.1 H0.out HP.out
              rw [HM.out.2.2]
              exact ⟨fun h => by rw [hs.1] at h; exact Fi.cancel hs.2 h, fun h => by rw [hs.1]; exact Fi.app hs.2 h⟩
        | false =>
          rw [hp] at KP
          have HP := Lib.hid hp
          clear hp
          go_wp2_with fail
          refine KN.out.mono ?_
          rintro _ w1 ⟨rfl, s1⟩
          have S1 := Lib.hid s1
          clear s1
          go_wp2_with fail
          refine (KP.out _).mono ?_
          rintro _ w2 ⟨rfl, hw⟩
          obtain rfl : w1 = w2 := hw.symm
          go_wp2
          go_ret
          have hf : fiB l = false := by
            cases hb : fiB l
            · rfl
            · exact absurd (HM.out.2.2.1 ((fi_iff l).1 hb)) (HF.out.1 (.inr HP.out))
          rw [hf]
          exact ⟨rfl, HS.out.1.trans S1.out⟩
      · have hd : ((e : Int) != 0) = true := by rw [bne_iff_ne]; omega
        have H0 := Lib.hid h0
        clear h0
        go_wp2_with fail
        refine KN.out.mono ?_
        rintro _ w1 ⟨rfl, s1⟩
        have S1 := Lib.hid s1
        clear s1
        go_wp2
        go_ret
        have hf : fiB l = false := by
          cases hb : fiB l
          · rfl
          · exact absurd (HM.out.2.2.1 ((fi_iff l).1 hb)) (HF.out.1 (.inl H0.out))
        rw [hf]
        exact ⟨rfl, HS.out.1.trans S1.out⟩
    · have hltz : ¬ (0 : Int) < (q : Int) := by omega
      obtain rfl : q = 0 := by omega
      go_wp2
      go_ret
      have hf : fiB l = true := by
        have : m = [] := List.length_eq_zero_iff.1 HM.out.2.1.symm
        exact (fi_iff l).2 (HM.out.2.2.2 (by rw [this]; exact Fi.nil))
      rw [hf]
      exact ⟨rfl, HS.out.1⟩
section
variable {W : World} {e b g N : Nat} {A B : List Nat}
theorem ins_nil (v : Value) (W : World) : Calls Tryd.prog 21 #[.pointer none, v] W (Gives (.int .i64 1) W) := by
  go_enter Tryd.func21, Tryd.ntmps21
  go_wp2
  go_ret
  exact ⟨rfl, rfl⟩
set_option maxRecDepth 100000 in
theorem ins_run (h : Bu W e b g N A B) (hT : U.Tabs W) (p : Option Addr) (n c : Nat) (l : List UInt8) (hb : Bts W p l) (hn : n = l.length) (hcap : n ≤ c) (hm : c ≤ maxLen) (hd : l ≠ [] → ∀ ad, p = some ad → ad.block ≠ g) :
    Calls Tryd.prog 21 #[.pointer (some ⟨e, 0, none⟩), .slice p n c] W (Did e b g N (insS N l A B) W) := by
  have KM := Lib.hid (may_run p n c l W hb hn hcap hm hT)
  cases hf : fiB l with
  | true =>
    rw [hf] at KM
    have hfi := (fi_iff l).1 hf
    rw [insS_yes hfi]
    obtain ⟨hX, e1⟩ := hfi.of
    generalize chs l = X at *
    subst e1
    have KL : ∀ W', Stp [] W [] W' → Calls Tryd.prog 28 #[.pointer (some ⟨e, 0, none⟩), .slice p n c] W' (Did e b g N (layS N X A B) W') := fun W' hs => lay_run (h.stays hs) X hX p n c (hb.stays hs) hd hn
    have KL := Lib.hid KL
    clear h hb hn hd hf hfi hX
    generalize layS N X A B = r at *
    go_enter Tryd.func21, Tryd.ntmps21
    go_wp2_with fail
    refine KM.out.mono ?_
    rintro _ w1 ⟨rfl, s1⟩
    have KL := Lib.hid (KL.out w1 s1)
    have S1 := Lib.hid s1
    clear s1
    go_wp2_with fail
    refine KL.out.mono ?_
    rintro _ w2 ⟨rfl, h2, s2⟩
    have H2 := Lib.hid (And.intro h2 s2)
    clear h2 s2
    go_wp2
    go_ret
    exact ⟨rfl, H2.out.1, (S1.out.more (fun k hk => by cases hk)).trans H2.out.2⟩
  | false =>
    rw [hf] at KM
    rw [insS_no (fun g => by rw [(fi_iff l).2 g] at hf; cases hf)]
    have H := Lib.hid h
    clear h hb hn hd hf
    go_enter Tryd.func21, Tryd.ntmps21
    go_wp2_with fail
    refine KM.out.mono ?_
    rintro _ w1 ⟨rfl, s1⟩
    have S1 := Lib.hid s1
    clear s1
    go_wp2
    go_ret
    exact ⟨rfl, H.out.stays S1.out, S1.out.more (fun k hk => by cases hk)⟩
end
end Go.Proofs.YtcailmgincafcaaDoor
