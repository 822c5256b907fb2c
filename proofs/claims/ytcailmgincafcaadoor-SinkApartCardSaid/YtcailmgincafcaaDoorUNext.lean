/-
  utf.Next at any bytes: the first character, or that there is none, and for how many bytes. What lay in memory stays.
-/
import Derived.Test.YtcailmgincafcaaDoorUDec
import Derived.Lib.Hide
import Derived.Test.YtcailmgincafcaaDoorUPlain2
namespace Go.Proofs.YtcailmgincafcaaDoor.U
open Go.RowKit Go.Lib
set_option linter.unusedVariables false

/-- The library's two tables as their texts lay them. -/
def Tabs (w : World) : Prop :=
  (∀ c, c < 256 → w.cell? ⟨0, c, none⟩ = some (.int .u8 (firstT c))) ∧
  (∀ i, i < 16 → w.cell? ⟨1, 2 * i, none⟩ = some (.int .u8 (accLo i)) ∧ w.cell? ⟨1, 2 * i + 1, none⟩ = some (.int .u8 (accHi i)))

theorem Tabs.below {w w' : World} (h : Tabs w) (hb : Below w.heap.size w w') : Tabs w' := by
  refine ⟨fun c hc => ?_, fun i hi => ⟨?_, ?_⟩⟩
  · exact (hb.cell (p := ⟨0, c, none⟩) (block_lt_of_cell (h.1 c hc))).trans (h.1 c hc)
  · exact (hb.cell (p := ⟨1, 2 * i, none⟩) (block_lt_of_cell (h.2 i hi).1)).trans (h.2 i hi).1
  · exact (hb.cell (p := ⟨1, 2 * i + 1, none⟩) (block_lt_of_cell (h.2 i hi).2)).trans (h.2 i hi).2
theorem Tabs.at_ {w : World} (h : Tabs w) {b X i lo hi : Nat} (hb : b < 256) (hX : firstT b = X) (hi16 : i < 16) (hl : accLo i = lo) (hh : accHi i = hi) :
    w.cell? ⟨0, b, none⟩ = some (.int .u8 X) ∧ w.cell? ⟨1, 2 * i, none⟩ = some (.int .u8 lo) ∧ w.cell? ⟨1, 2 * i + 1, none⟩ = some (.int .u8 hi) := by
  subst hX; subst hl; subst hh
  exact ⟨h.1 b hb, h.2 i hi16⟩

/-- Four bytes at an address, as far as n goes. -/
structure Four (w : World) (b off n b0 b1 b2 b3 : Nat) : Prop where
  c0 : w.cell? ⟨b, off, none⟩ = some (.int .u8 b0)
  c1 : 1 < n → w.cell? ⟨b, off + 1, none⟩ = some (.int .u8 b1)
  c2 : 2 < n → w.cell? ⟨b, off + 2, none⟩ = some (.int .u8 b2)
  c3 : 3 < n → w.cell? ⟨b, off + 3, none⟩ = some (.int .u8 b3)
  l0 : b0 < 256
  l1 : b1 < 256
  l2 : b2 < 256
  l3 : b3 < 256

theorem Four.below {w w' : World} {B b off n b0 b1 b2 b3 : Nat} (h : Four w b off n b0 b1 b2 b3) (hb : Below B w w') (hB : b < B) : Four w' b off n b0 b1 b2 b3 :=
  ⟨(hb.cell (p := ⟨b, off, none⟩) hB).trans h.c0, fun g => (hb.cell (p := ⟨b, off + 1, none⟩) hB).trans (h.c1 g), fun g => (hb.cell (p := ⟨b, off + 2, none⟩) hB).trans (h.c2 g), fun g => (hb.cell (p := ⟨b, off + 3, none⟩) hB).trans (h.c3 g), h.l0, h.l1, h.l2, h.l3⟩
theorem Four.lt {w : World} {b off n b0 b1 b2 b3 : Nat} (h : Four w b off n b0 b1 b2 b3) : b < w.heap.size := block_lt_of_cell h.c0

def OneBool (v : Bool) (w : World) (e : Ending) (w' : World) : Prop := e = .returned (.bool v) ∧ Below w.heap.size w w'

theorem full_any (b off n k cap b0 b1 b2 b3 : Nat) (w : World) (hk : 0 < k) (hkn : k ≤ n) (h : Four w b off n b0 b1 b2 b3) (hT : Tabs w) :
    Calls Tryd.prog 39 #[.slice (some ⟨b, off, none⟩) k cap] w (OneBool (fullN k b0 b1 b2) w) := by
  have hc1 : 1 < k → w.cell? ⟨b, off + 1, none⟩ = some (.int .u8 b1) := fun g => h.c1 (by omega)
  have hc2 : 2 < k → w.cell? ⟨b, off + 2, none⟩ = some (.int .u8 b2) := fun g => h.c2 (by omega)
  rcases classes b0 with ⟨hX, hs⟩ | ⟨hX, hs⟩ | ⟨hX, hs, hl, hh⟩ | ⟨hX, hs, hl, hh⟩ | ⟨hX, hs, hl, hh⟩ | ⟨hX, hs, hl, hh⟩ | ⟨hX, hs, hl, hh⟩ | ⟨hX, hs, hl, hh⟩ | ⟨hX, hs, hl, hh⟩
  · have e : fullN k b0 b1 b2 = true := by simp [fullN, hs]; omega
    rw [e]
    exact full_plain b off k cap b0 240 w (.inl rfl) hk h.c0 h.l0 (by have := hT.1 b0 h.l0; rwa [hX] at this)
  · have e : fullN k b0 b1 b2 = true := by simp [fullN, hs]; omega
    rw [e]
    exact full_plain b off k cap b0 241 w (.inr rfl) hk h.c0 h.l0 (by have := hT.1 b0 h.l0; rwa [hX] at this)
  all_goals
    have hk0 : k ≠ 0 := by omega
    simp only [fullN, hs, hl, hh, hk0, ne_eq, not_false_eq_true, true_and]
  · obtain ⟨p, q, r⟩ := hT.at_ (i := 0) h.l0 hX (by omega) rfl rfl
    exact full_2 b off k cap b0 b1 b2 w hk h.c0 h.l0 hc1 hc2 p q r
  · obtain ⟨p, q, r⟩ := hT.at_ (i := 1) h.l0 hX (by omega) rfl rfl
    exact full_19 b off k cap b0 b1 b2 w hk h.c0 h.l0 hc1 hc2 p q r
  · obtain ⟨p, q, r⟩ := hT.at_ (i := 0) h.l0 hX (by omega) rfl rfl
    exact full_3 b off k cap b0 b1 b2 w hk h.c0 h.l0 hc1 hc2 p q r
  · obtain ⟨p, q, r⟩ := hT.at_ (i := 2) h.l0 hX (by omega) rfl rfl
    exact full_35 b off k cap b0 b1 b2 w hk h.c0 h.l0 hc1 hc2 p q r
  · obtain ⟨p, q, r⟩ := hT.at_ (i := 3) h.l0 hX (by omega) rfl rfl
    exact full_52 b off k cap b0 b1 b2 w hk h.c0 h.l0 hc1 hc2 p q r
  · obtain ⟨p, q, r⟩ := hT.at_ (i := 0) h.l0 hX (by omega) rfl rfl
    exact full_4 b off k cap b0 b1 b2 w hk h.c0 h.l0 hc1 hc2 p q r
  · obtain ⟨p, q, r⟩ := hT.at_ (i := 4) h.l0 hX (by omega) rfl rfl
    exact full_68 b off k cap b0 b1 b2 w hk h.c0 h.l0 hc1 hc2 p q r

theorem slow_any (b off n cap b0 b1 b2 b3 : Nat) (w : World) (hn : 0 < n) (ha : 128 ≤ b0) (h : Four w b off n b0 b1 b2 b3) (hT : Tabs w) :
    Calls Tryd.prog 38 #[.slice (some ⟨b, off, none⟩) n cap] w (Dec (decodeN n b0 b1 b2 b3) w) := by
  rw [dec_eq n b0 b1 b2 b3 hn h.l1 h.l2 h.l3]
  rcases classes b0 with ⟨hX, hs⟩ | ⟨hX, hs⟩ | ⟨hX, hs, hl, hh⟩ | ⟨hX, hs, hl, hh⟩ | ⟨hX, hs, hl, hh⟩ | ⟨hX, hs, hl, hh⟩ | ⟨hX, hs, hl, hh⟩ | ⟨hX, hs, hl, hh⟩ | ⟨hX, hs, hl, hh⟩
  · exfalso
    unfold szB at hs
    repeat' split at hs
    all_goals omega
  · rw [hs, if_pos rfl]
    exact slow_241 b off n cap b0 w hn h.c0 h.l0 (by have := hT.1 b0 h.l0; rwa [hX] at this)
  all_goals rw [hs, hl, hh, if_neg (by omega), if_neg (by omega)]
  · obtain ⟨p, q, r⟩ := hT.at_ (i := 0) h.l0 hX (by omega) rfl rfl
    exact slow_2 b off n cap b0 b1 b2 b3 w hn h.c0 h.l0 h.l1 h.l2 h.l3 h.c1 h.c2 h.c3 p q r
  · obtain ⟨p, q, r⟩ := hT.at_ (i := 1) h.l0 hX (by omega) rfl rfl
    exact slow_19 b off n cap b0 b1 b2 b3 w hn h.c0 h.l0 h.l1 h.l2 h.l3 h.c1 h.c2 h.c3 p q r
  · obtain ⟨p, q, r⟩ := hT.at_ (i := 0) h.l0 hX (by omega) rfl rfl
    exact slow_3 b off n cap b0 b1 b2 b3 w hn h.c0 h.l0 h.l1 h.l2 h.l3 h.c1 h.c2 h.c3 p q r
  · obtain ⟨p, q, r⟩ := hT.at_ (i := 2) h.l0 hX (by omega) rfl rfl
    exact slow_35 b off n cap b0 b1 b2 b3 w hn h.c0 h.l0 h.l1 h.l2 h.l3 h.c1 h.c2 h.c3 p q r
  · obtain ⟨p, q, r⟩ := hT.at_ (i := 3) h.l0 hX (by omega) rfl rfl
    exact slow_52 b off n cap b0 b1 b2 b3 w hn h.c0 h.l0 h.l1 h.l2 h.l3 h.c1 h.c2 h.c3 p q r
  · obtain ⟨p, q, r⟩ := hT.at_ (i := 0) h.l0 hX (by omega) rfl rfl
    exact slow_4 b off n cap b0 b1 b2 b3 w hn h.c0 h.l0 h.l1 h.l2 h.l3 h.c1 h.c2 h.c3 p q r
  · obtain ⟨p, q, r⟩ := hT.at_ (i := 4) h.l0 hX (by omega) rfl rfl
    exact slow_68 b off n cap b0 b1 b2 b3 w hn h.c0 h.l0 h.l1 h.l2 h.l3 h.c1 h.c2 h.c3 p q r

set_option maxHeartbeats 1000000 in
set_option maxRecDepth 100000 in
theorem rune_ascii (b off n cap b0 : Nat) (w : World) (hn : (0 : Int) < (n : Int)) (hc0 : w.cell? ⟨b, off, none⟩ = some (.int .u8 b0)) (ha : (b0 : Int) < 128) :
    Calls Tryd.prog 35 #[.slice (some ⟨b, off, none⟩) n cap] w (Dec (b0, 1) w) := by
  go_enter Tryd.func35, Tryd.ntmps35
  go_wp2
  go_loop [8] (fun i => i = .int .i64 0) (fun _ => 0)
  case atStart => rfl
  case round =>
    subst hrel
    go_wp2
    go_ret2
    exact ⟨rfl, Below.refl _ _⟩

set_option maxHeartbeats 1000000 in
set_option maxRecDepth 100000 in
theorem rune_slow (b off n cap b0 : Nat) (r : Nat × Nat) (w : World) (hn : (0 : Int) < (n : Int)) (hc0 : w.cell? ⟨b, off, none⟩ = some (.int .u8 b0)) (ha : ¬ ((b0 : Int) < 128))
    (cS : Calls Tryd.prog 38 #[.slice (some ⟨b, off, none⟩) n cap] w (Dec r w)) :
    Calls Tryd.prog 35 #[.slice (some ⟨b, off, none⟩) n cap] w (Dec r w) := by
  obtain ⟨R, K⟩ := r
  go_enter Tryd.func35, Tryd.ntmps35
  go_wp2
  go_loop [8] (fun i => i = .int .i64 0) (fun _ => 0)
  case atStart => rfl
  case round =>
    subst hrel
    go_wp2_with (go_at_call 38; refine cS.mono ?_; rintro e w' ⟨rfl, hb⟩)
    go_ret2
    exact ⟨rfl, hb⟩

theorem rune_any (b off n cap b0 b1 b2 b3 : Nat) (w : World) (hn : 0 < n) (h : Four w b off n b0 b1 b2 b3) (hT : Tabs w) :
    Calls Tryd.prog 35 #[.slice (some ⟨b, off, none⟩) n cap] w (Dec (decodeN n b0 b1 b2 b3) w) := by
  by_cases ha : b0 < 128
  · have e : decodeN n b0 b1 b2 b3 = (b0, 1) := by simp [decodeN, ha]
    rw [e]
    exact rune_ascii b off n cap b0 w (by omega) h.c0 (by omega)
  · exact rune_slow b off n cap b0 _ w (by omega) h.c0 (by omega) (slow_any b off n cap b0 b1 b2 b3 w hn (by omega) h hT)

def OneInt (v : Nat) (w : World) (e : Ending) (w' : World) : Prop := e = .returned (.int .i64 v) ∧ Below w.heap.size w w'

set_option maxHeartbeats 1000000 in
set_option maxRecDepth 100000 in
theorem begun_any (b off n cap b0 b1 b2 b3 : Nat) (w : World) (hn : 0 < n) (hcap : n ≤ cap) (hm : cap ≤ maxLen) (h : Four w b off n b0 b1 b2 b3) (hT : Tabs w) :
    Calls Tryd.prog 36 #[.slice (some ⟨b, off, none⟩) n cap] w (OneInt (begN n b0 b1 b2) w) := by
  unfold maxLen at hm
  have hbn := begN_le n b0 b1 b2
  have hb := h.lt
  obtain ⟨N, hN⟩ : ∃ N, begN n b0 b1 b2 = N := ⟨_, rfl⟩
  have hend : N < n → fullN (N + 1) b0 b1 b2 = true := by rw [← hN]; exact begN_end n b0 b1 b2
  have hon : ∀ k, k < N → fullN (k + 1) b0 b1 b2 = false := by rw [← hN]; exact begN_on n b0 b1 b2
  rw [hN] at hbn ⊢
  clear hN
  have Hend : Hid (N < n → fullN (N + 1) b0 b1 b2 = true) := hend
  have Hon : Hid (∀ k, k < N → fullN (k + 1) b0 b1 b2 = false) := hon
  have HF : Hid (Four w b off n b0 b1 b2 b3) := h
  have HT : Hid (Tabs w) := hT
  clear hend hon h hT
  go_enter Tryd.func36, Tryd.ntmps36
  go_wp2
  go_loopw [3] (fun i W => ∃ k : Nat, k ≤ N ∧ i = .int .i64 k ∧ Below w.heap.size w W) (fun i _ => N - (intOf i).toNat)
  case atStart => exact ⟨0, Nat.zero_le _, rfl, Below.refl _ _⟩
  case round =>
    obtain ⟨k, hk, rfl, hB⟩ := hrel
    by_cases hlt : k < n
    · have hF1 := HF.out.below hB hb
      have hT1 := HT.out.below hB
      have HC := Lib.hid (full_any b off n (k + 1) cap b0 b1 b2 b3 wr (by omega) (by omega) hF1 hT1)
      clear hF1 hT1
      have hc1 : (k : Int) + 1 ≤ (cap : Int) := by omega
      have hz : wr.heap.size ≥ w.heap.size := hB.size
      by_cases hgo : k < N
      · have hf := Hon.out k hgo
        go_wp2_with (go_at_call 39; refine (HC.out).mono ?_; rintro e w1 ⟨rfl, hb1⟩)
        go_roundw
        case rel => exact ⟨k + 1, by omega, by go_num, hB.trans (hb1.mono hz)⟩
        case measure => simp [intOf]; omega
      · obtain rfl : k = N := by omega
        have hf := Hend.out hlt
        go_wp2_with (go_at_call 39; refine (HC.out).mono ?_; rintro e w1 ⟨rfl, hb1⟩)
        go_ret
        exact ⟨rfl, hB.trans (hb1.mono hz)⟩
    · obtain rfl : k = N := by omega
      go_wp2
      go_ret
      exact ⟨rfl, hB⟩

/-- Next's three results. -/
def Nx (r : Nat × Nat × Nat) (w : World) (e : Ending) (w' : World) : Prop := e = .returned (.tuple #[.int .i64 r.1, .int .i64 r.2.1, .int .i64 r.2.2]) ∧ Below w.heap.size w w'

theorem next_empty (a : Option Addr) (cap : Nat) (w : World) : Calls Tryd.prog 32 #[.slice a 0 cap] w (Nx (0, 0, 6) w) := by
  go_enter Tryd.func32, Tryd.ntmps32
  go_wp2
  go_ret3
  exact ⟨rfl, Below.refl _ _⟩

set_option maxHeartbeats 1000000 in
set_option maxRecDepth 100000 in
theorem next_yes (b off n cap R K : Nat) (w : World) (hn : 0 < n) (hR : R < 2097152) (hK : K ≤ 4) (hd : R ≠ 65533 ∨ 1 < K)
    (cD : Calls Tryd.prog 35 #[.slice (some ⟨b, off, none⟩) n cap] w (Dec (R, K) w)) :
    Calls Tryd.prog 32 #[.slice (some ⟨b, off, none⟩) n cap] w (Nx (R, K, 0) w) := by
  have hz : ((n : Int) == 0) = false := by simp; omega
  have HD := Lib.hid cD
  clear cD
  by_cases h1 : R = 65533
  · subst h1
    have hk : (1 : Int) < (K : Int) := by omega
    go_enter Tryd.func32, Tryd.ntmps32
    go_wp2_with (go_at_call 35; refine (HD.out).mono ?_; rintro e w1 ⟨rfl, hb1⟩)
    go_ret3
    exact ⟨rfl, hb1⟩
  · have hk : ((R : Int) != 65533) = true := by rw [bne_iff_ne]; omega
    go_enter Tryd.func32, Tryd.ntmps32
    go_wp2_with (go_at_call 35; refine (HD.out).mono ?_; rintro e w1 ⟨rfl, hb1⟩)
    go_ret3
    exact ⟨rfl, hb1⟩

set_option maxHeartbeats 1000000 in
set_option maxRecDepth 100000 in
theorem next_no (b off n cap K N : Nat) (w : World) (hn : 0 < n) (hm : n ≤ 9223372036854775807) (hK : K ≤ 1) (hN : N ≤ 3)
    (cD : Calls Tryd.prog 35 #[.slice (some ⟨b, off, none⟩) n cap] w (Dec (65533, K) w))
    (cB : ∀ w1, Below w.heap.size w w1 → Calls Tryd.prog 36 #[.slice (some ⟨b, off, none⟩) n cap] w1 (OneInt N w1)) :
    Calls Tryd.prog 32 #[.slice (some ⟨b, off, none⟩) n cap] w (Nx (0, if N = n then n else max N 1, if N = n then 7 else 8) w) := by
  have hz : ((n : Int) == 0) = false := by simp; omega
  have hk : ¬ ((1 : Int) < (K : Int)) := by omega
  have HD := Lib.hid cD
  have HB := Lib.hid cB
  clear cD cB
  by_cases h1 : N = n
  · subst h1
    rw [if_pos rfl, if_pos rfl]
    go_enter Tryd.func32, Tryd.ntmps32
    go_wp2_with (first
      | (go_at_call 35; refine (HD.out).mono ?_; rintro e w1 ⟨rfl, hb1⟩)
      | (go_at_call 36; refine (HB.out _ hb1).mono ?_; rintro e w2 ⟨rfl, hb2⟩))
    go_ret3
    exact ⟨rfl, hb1.trans (hb2.mono hb1.size)⟩
  · rw [if_neg h1, if_neg h1]
    have hq : ((N : Int) == (n : Int)) = false := by simp; omega
    rcases Nat.eq_zero_or_pos N with h0 | h0
    · subst h0
      rw [show max 0 1 = 1 from rfl]
      go_enter Tryd.func32, Tryd.ntmps32
      go_wp2_with (first
        | (go_at_call 35; refine (HD.out).mono ?_; rintro e w1 ⟨rfl, hb1⟩)
        | (go_at_call 36; refine (HB.out _ hb1).mono ?_; rintro e w2 ⟨rfl, hb2⟩))
      go_ret3
      exact ⟨rfl, hb1.trans (hb2.mono hb1.size)⟩
    · rw [Nat.max_eq_left h0]
      have h0' : (1 : Int) ≤ (N : Int) := by omega
      go_enter Tryd.func32, Tryd.ntmps32
      go_wp2_with (first
        | (go_at_call 35; refine (HD.out).mono ?_; rintro e w1 ⟨rfl, hb1⟩)
        | (go_at_call 36; refine (HB.out _ hb1).mono ?_; rintro e w2 ⟨rfl, hb2⟩))
      go_ret3
      exact ⟨rfl, hb1.trans (hb2.mono hb1.size)⟩

theorem next_four (b off n cap b0 b1 b2 b3 : Nat) (w : World) (hn : 0 < n) (hcap : n ≤ cap) (hm : cap ≤ maxLen) (h : Four w b off n b0 b1 b2 b3) (hT : Tabs w) :
    Calls Tryd.prog 32 #[.slice (some ⟨b, off, none⟩) n cap] w (Nx (nextN n b0 b1 b2 b3) w) := by
  have hbd := dec_bd n b0 b1 b2 b3 hn h.l0 h.l1 h.l2 h.l3
  have cD := rune_any b off n cap b0 b1 b2 b3 w hn h hT
  by_cases hd : (decodeN n b0 b1 b2 b3).1 ≠ 65533 ∨ 1 < (decodeN n b0 b1 b2 b3).2
  · rw [dec_yes n b0 b1 b2 b3 hn h.l1 h.l2 h.l3 hd]
    exact next_yes b off n cap _ _ w hn hbd.1 hbd.2 hd cD
  · rw [dec_no n b0 b1 b2 b3 hn h.l0 h.l1 h.l2 h.l3 hd]
    have e : decodeN n b0 b1 b2 b3 = (65533, (decodeN n b0 b1 b2 b3).2) := by
      apply Prod.ext
      · show _ = 65533
        omega
      · rfl
    rw [e] at cD
    exact next_no b off n cap _ _ w hn (by unfold maxLen at hm; omega) (by omega) (begN_le n b0 b1 b2).1 cD
      (fun w1 hb => begun_any b off n cap b0 b1 b2 b3 w1 hn hcap hm (h.below hb h.lt) (hT.below hb))

end Go.Proofs.YtcailmgincafcaaDoor.U
