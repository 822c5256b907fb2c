/-
  The walk of the law UtfBack: it answers true at every number and all bytes behind, and what lay in memory stays.
-/
import Derived.Test.YtgnmjhhfefnmcaaDoorPut2
namespace Go.Proofs.YtgnmjhhfefnmcaaDoor.UtfBack
open Go.RowKit Go.Lib
set_option linter.unusedVariables false

/-- What is put is what is next. -/
theorem nx_enc (c : Nat) (hc : isCh c = true) : nx (enc c) = (c, (enc c).length, 0) := by
  have h := of_decide_eq_true hc
  unfold enc
  by_cases h1 : c < 128
  · rw [if_pos h1]
    have s : szB c = 1 := by unfold szB; rw [if_pos h1]
    simp [nx, nextN, s]
  · rw [if_neg h1]
    by_cases h2 : c < 2048
    · rw [if_pos h2]
      have s : szB (192 + c / 64) = 2 := by unfold szB; (repeat' split) <;> omega
      have l : loB (192 + c / 64) = 128 := by unfold loB; (repeat' split) <;> omega
      have u : hiB (192 + c / 64) = 191 := by unfold hiB; (repeat' split) <;> omega
      show nextN 2 (192 + c / 64) (128 + c % 64) 0 0 = (c, 2, 0)
      unfold nextN
      rw [s, l, u, if_neg (by omega), if_neg (by omega), if_neg (by omega), if_neg (by omega), if_neg (by omega), if_pos rfl, show (192 + c / 64) % 32 * 64 + (128 + c % 64) % 64 = c from by omega]
    · rw [if_neg h2]
      by_cases h3 : c < 65536
      · rw [if_pos h3]
        have s : szB (224 + c / 4096) = 3 := by unfold szB; (repeat' split) <;> omega
        have l : loB (224 + c / 4096) ≤ 128 + c / 64 % 64 := by unfold loB; (repeat' split) <;> omega
        have u : 128 + c / 64 % 64 ≤ hiB (224 + c / 4096) := by unfold hiB; (repeat' split) <;> omega
        have q : ¬ (128 + c / 64 % 64 < loB (224 + c / 4096) ∨ hiB (224 + c / 4096) < 128 + c / 64 % 64) := by omega
        show nextN 3 (224 + c / 4096) (128 + c / 64 % 64) (128 + c % 64) 0 = (c, 3, 0)
        unfold nextN
        rw [s, if_neg (by omega), if_neg (by omega), if_neg (by omega), if_neg (by omega), if_neg q, if_neg (by omega), if_neg (by omega), if_neg (by omega), if_pos rfl, show (224 + c / 4096) % 16 * 4096 + (128 + c / 64 % 64) % 64 * 64 + (128 + c % 64) % 64 = c from by omega]
      · rw [if_neg h3]
        have s : szB (240 + c / 262144) = 4 := by unfold szB; (repeat' split) <;> omega
        have l : loB (240 + c / 262144) ≤ 128 + c / 4096 % 64 := by unfold loB; (repeat' split) <;> omega
        have u : 128 + c / 4096 % 64 ≤ hiB (240 + c / 262144) := by unfold hiB; (repeat' split) <;> omega
        have q : ¬ (128 + c / 4096 % 64 < loB (240 + c / 262144) ∨ hiB (240 + c / 262144) < 128 + c / 4096 % 64) := by omega
        show nextN 4 (240 + c / 262144) (128 + c / 4096 % 64) (128 + c / 64 % 64) (128 + c % 64) = (c, 4, 0)
        unfold nextN
        rw [s, if_neg (by omega), if_neg (by omega), if_neg (by omega), if_neg (by omega), if_neg q, if_neg (by omega), if_neg (by omega), if_neg (by omega), if_neg (by omega), if_neg (by omega), if_neg (by omega), show (240 + c / 262144) % 8 * 262144 + (128 + c / 4096 % 64) % 64 * 4096 + (128 + c / 64 % 64) % 64 * 64 + (128 + c % 64) % 64 = c from by omega]

/-- Less of it is a beginning. -/
theorem nx_less (c : Nat) (hc : isCh c = true) (i : Nat) (h0 : 1 ≤ i) (hi : i < (enc c).length) : nx ((enc c).take i) = (0, i, 7) := by
  have h := of_decide_eq_true hc
  unfold enc at hi ⊢
  by_cases h1 : c < 128
  · rw [if_pos h1] at hi
    simp at hi
    omega
  · rw [if_neg h1] at hi ⊢
    by_cases h2 : c < 2048
    · rw [if_pos h2] at hi ⊢
      have s : szB (192 + c / 64) = 2 := by unfold szB; (repeat' split) <;> omega
      simp at hi
      obtain rfl : i = 1 := by omega
      simp [nx, nextN, s]
    · rw [if_neg h2] at hi ⊢
      by_cases h3 : c < 65536
      · rw [if_pos h3] at hi ⊢
        have s : szB (224 + c / 4096) = 3 := by unfold szB; (repeat' split) <;> omega
        have l : loB (224 + c / 4096) ≤ 128 + c / 64 % 64 := by unfold loB; (repeat' split) <;> omega
        have u : 128 + c / 64 % 64 ≤ hiB (224 + c / 4096) := by unfold hiB; (repeat' split) <;> omega
        have q : ¬ (128 + c / 64 % 64 < loB (224 + c / 4096) ∨ hiB (224 + c / 4096) < 128 + c / 64 % 64) := by omega
        simp at hi
        rcases (by omega : i = 1 ∨ i = 2) with rfl | rfl
        · simp [nx, nextN, s]
        · simp [nx, nextN, s, q]
      · rw [if_neg h3] at hi ⊢
        have s : szB (240 + c / 262144) = 4 := by unfold szB; (repeat' split) <;> omega
        have l : loB (240 + c / 262144) ≤ 128 + c / 4096 % 64 := by unfold loB; (repeat' split) <;> omega
        have u : 128 + c / 4096 % 64 ≤ hiB (240 + c / 262144) := by unfold hiB; (repeat' split) <;> omega
        have q : ¬ (128 + c / 4096 % 64 < loB (240 + c / 262144) ∨ hiB (240 + c / 262144) < 128 + c / 4096 % 64) := by omega
        simp at hi
        rcases (by omega : i = 1 ∨ i = 2 ∨ i = 3) with rfl | rfl | rfl
        · simp [nx, nextN, s]
        · simp [nx, nextN, s, q]
        · simp [nx, nextN, s, q]
          omega

theorem bts_take {W : World} {a : Option Addr} {l : List Nat} (h : Bts W a l) (i : Nat) : Bts W a (l.take i) := by
  refine ⟨fun x hx => h.1 x (List.mem_of_mem_take hx), fun hne => ?_⟩
  have hl : l ≠ [] := by
    intro e
    subst e
    simp at hne
  obtain ⟨b, off, rfl, hc⟩ := h.2 hl
  refine ⟨b, off, rfl, fun j hj => ?_⟩
  have hj1 : j < l.length := by simp at hj; omega
  have hj2 : j < i := by simp at hj; omega
  rw [hc j hj1]
  simp [List.getD, hj1, hj2]

set_option maxHeartbeats 1000000 in
set_option maxRecDepth 100000 in
theorem walk_no (c : Int) (a1 : Option Addr) (cap1 n1 : Nat) (w : World) (hc : isCh c = false) (hT : Tabs w) : Calls Tryd.prog 6 #[.int .i64 c, .slice a1 n1 cap1] w (OneBool true w) := by
  have K1 := Lib.hid (put_no c w hc)
  have K3 := Lib.hid (alive_any w hT)
  clear hT hc
  go_enter Tryd.func6, Tryd.ntmps6
  go_wp2_with fail
  refine K1.out.mono ?_
  rintro e w1 ⟨rfl, hw⟩
  obtain rfl : w = w1 := hw
  go_wp2_with fail
  refine K3.out.mono ?_
  rintro e w1 ⟨rfl, hb1⟩
  go_wp2
  go_ret
  exact ⟨rfl, hb1⟩

set_option maxHeartbeats 1000000 in
set_option maxRecDepth 100000 in
theorem walk_long (c : Nat) (a1 : Option Addr) (cap1 n1 : Nat) (w : World) (hc : isCh c = true) (hlong : 1000 < n1) (hT : Tabs w) : Calls Tryd.prog 6 #[.int .i64 c, .slice a1 n1 cap1] w (OneBool true w) := by
  have k3 : ∀ W, Below w.heap.size w W → Calls Tryd.prog 12 #[] W (OneBool true W) := fun W hb => alive_any W (hT.below hb)
  have K1 := Lib.hid (put_yes c w hc)
  have K3 := Lib.hid k3
  have i1 : (1000 : Int) < (n1 : Int) := by omega
  have hlt := enc_lt c (by have := of_decide_eq_true hc; omega)
  have HL := Lib.hid hlt
  clear hT hc k3 hlt
  go_enter Tryd.func6, Tryd.ntmps6
  go_wp2_with fail
  refine K1.out.mono ?_
  rintro e w1 ⟨v, rfl, ho, hb1⟩
  go_wp2_with fail
  refine (K3.out _ hb1).mono ?_
  rintro e w2 ⟨rfl, hb2⟩
  go_wp2
  go_ret
  exact ⟨rfl, hb1.trans (hb2.mono hb1.size)⟩

set_option maxHeartbeats 2000000 in
set_option maxRecDepth 100000 in
theorem walk_yes (c : Nat) (a1 : Option Addr) (cap1 : Nat) (l1 : List Nat) (w : World) (hc : isCh c = true) (h1 : Bts w a1 l1) (z1 : a1 = none → cap1 = 0) (hl1 : l1.length ≤ 1000) (hT : Tabs w) :
    Calls Tryd.prog 6 #[.int .i64 c, .slice a1 l1.length cap1] w (OneBool true w) := by
  have h := of_decide_eq_true hc
  have hlt := enc_lt c (by omega)
  have hlen := enc_len c
  have k3 : ∀ W, Below w.heap.size w W → Calls Tryd.prog 12 #[] W (OneBool true W) := fun W hb => alive_any W (hT.below hb)
  have k4 : ∀ W a cap, Tabs W → Bts W a (enc c ++ l1) → (enc c).length + l1.length ≤ cap → cap ≤ maxLen → Calls Tryd.prog 10 #[.slice a ((enc c).length + l1.length) cap] W (Nx (c, (enc c).length, 0) W) := by
    intro W a cap hTW hb hcap hm
    have := next_any a cap (enc c ++ l1) W hb (by simpa using hcap) hm hTW
    rw [nx_app (enc c) l1 (by intro e; rw [e] at hlen; simp at hlen) (by rw [nx_enc c hc]; simp), nx_enc c hc, List.length_append] at this
    exact this
  have k5 : ∀ W a cap i, Tabs W → Bts W a (enc c) → (enc c).length ≤ cap → cap ≤ maxLen → 1 ≤ i → i < (enc c).length → Calls Tryd.prog 10 #[.slice a i cap] W (Nx (0, i, 7) W) := by
    intro W a cap i hTW hb hcap hm hi hi'
    have := next_any a cap ((enc c).take i) W (bts_take hb i) (by simp; omega) hm hTW
    rw [nx_less c hc i hi hi', List.length_take, Nat.min_eq_left (by omega)] at this
    exact this
  have K1 := Lib.hid (put_yes c w hc)
  have K3 := Lib.hid k3
  have K4 := Lib.hid k4
  have K5 := Lib.hid k5
  have HL := Lib.hid hlt
  have HT := Lib.hid hT
  have H1 := Lib.hid h1
  have Z1 := Lib.hid z1
  have i1 : ¬ (1000 : Int) < (l1.length : Int) := by omega
  have i2 : (((enc c).length : Int) == 0) = false := beq_eq_false_iff_ne.2 (by omega)
  clear hT hc k3 k4 k5 hlt h h1 z1
  go_enter Tryd.func6, Tryd.ntmps6
  go_wp2_with fail
  refine K1.out.mono ?_
  rintro e w1 ⟨v, rfl, ho, hb1⟩
  obtain ⟨a0, cap0, rfl, hbt0, hcap0, hm0, hz0⟩ := ho.bts HL.out
  have hs1 := hb1.size
  have q0 : Own (w1.alloc (.cells #[] 5)) w1.heap.size (.slice (some ⟨w1.heap.size, 0, none⟩) 0 0) [] := ⟨by simp, .inr ⟨w1.heap.size, 0, #[], rfl, Nat.le_refl _, heap_alloc_new w1 _, by simp, by simp, by simp, by simp⟩⟩
  have Q0 := Lib.hid q0
  have hB0 : Below w1.heap.size w1 (w1.alloc (.cells #[] 5)) := (Below.refl _ _).alloc (Nat.le_refl _) _
  have H0 := Lib.hid hbt0
  have HC0 := Lib.hid hcap0
  have HM0 := Lib.hid hm0
  have Z0 := Lib.hid hz0
  clear q0 hbt0 hz0 ho
  go_wp2_with (first
    | (at_builtin
       refine wpList_app rfl (.tmp 41) (.tmp 42) rfl w1.heap.size (.slice (some ⟨w1.heap.size, 0, none⟩) 0 0) [] rfl Q0.out a0 cap0 (enc c) rfl (H0.out.below hB0 (Nat.le_refl _)) Z0.out (by simp; omega) hB0.size ?_
       intro v1 w2 hown1 hg1 hat1
       have hB1 : Below w1.heap.size w1 w2 := hB0.grown hg1 hB0.size (fun k hk => by simp [Value.ownBlock] at hk; omega))
    | (at_builtin
       refine wpList_app rfl (.tmp 43) (.tmp 44) rfl w1.heap.size v1 ([] ++ enc c) rfl hown1 a1 cap1 l1 rfl ((H1.out.below hb1 (Nat.le_refl _)).below hB1 (Nat.le_refl _)) Z1.out (by simp; omega) hB1.size ?_
       intro v2 w3 hown2 hg2 hat2))
  have hB2 : Below w1.heap.size w1 w3 := hB1.grown hg2 hB1.size (fun k hk => by
    rcases hat1 with e | e <;> rw [e] at hk <;> simp [Value.ownBlock] at hk <;> omega)
  have hbytes : ∀ x ∈ [] ++ enc c ++ l1, x < 256 := by
    intro x hx
    simp only [List.nil_append, List.mem_append] at hx
    rcases hx with hx | hx
    · exact HL.out x hx
    · exact H1.out.1 x hx
  obtain ⟨a2, cap2, hv2, hbt2, hc2, hm2, _⟩ := hown2.bts hbytes
  have el : ([] ++ enc c ++ l1).length = (enc c).length + l1.length := by simp
  rw [el] at hv2 hc2
  rw [List.nil_append] at hbt2
  rw [hv2]
  have hW3 : Below w.heap.size w w3 := hb1.trans (hB2.mono hs1)
  refine (K4.out w3 a2 cap2 (HT.out.below hW3) hbt2 hc2 hm2).mono ?_
  rintro e w4 ⟨rfl, hb4⟩
  have hB4 : Below w1.heap.size w1 w4 := hB2.trans (hb4.mono hB2.size)
  have hs4 := hB4.size
  clear hbytes hbt2 hv2 el hown2 hown1 hat1 hat2 hm2 hc2
  obtain ⟨n, hn⟩ : ∃ n, (enc c).length = n := ⟨_, rfl⟩
  have hlen1 : 1 ≤ n ∧ n ≤ 4 := by rw [← hn]; exact enc_len c
  have Hn := Lib.hid hn
  rw [hn]
  clear hn
  go_wp2
  go_loopw [10] (fun i W => ∃ k : Nat, 1 ≤ k ∧ k ≤ n ∧ i = .int .i64 k ∧ Below w1.heap.size w1 W) (fun i _ => n - (intOf i).toNat)
  case atStart => exact ⟨1, by omega, by omega, rfl, hB4⟩
  case round =>
    obtain ⟨k, hk1, hkn, rfl, hB⟩ := hrel
    have hW : Below w.heap.size w wr := hb1.trans (hB.mono hs1)
    by_cases hlt : k < n
    · have c5 := K5.out wr a0 cap0 k (HT.out.below hW) (H0.out.below hB (Nat.le_refl _)) HC0.out HM0.out hk1 (by rw [Hn.out]; exact hlt)
      have C5 := Lib.hid c5
      have j1 : (k : Int) ≤ (cap0 : Int) := by have := HC0.out; have := Hn.out; omega
      clear c5
      go_wp2_with fail
      refine C5.out.mono ?_
      rintro e w5 ⟨rfl, hb5⟩
      go_wp2
      go_roundw
      case rel => exact ⟨k + 1, by omega, by omega, by go_num, hB.trans (hb5.mono hB.size)⟩
      case measure => simp [intOf]; omega
    · obtain rfl : k = n := by omega
      go_wp2_with fail
      refine (K3.out _ hW).mono ?_
      rintro e w5 ⟨rfl, hb5⟩
      go_wp2
      go_ret
      exact ⟨rfl, hW.trans (hb5.mono hW.size)⟩

theorem walk (c : Int) (a1 : Option Addr) (cap1 : Nat) (l1 : List Nat) (W : World) (wf : (Lit.int .i64 c).wf = true) (b1 : Bts W a1 l1) (c1 : l1.length ≤ cap1) (m1 : cap1 ≤ maxLen) (z1 : a1 = none → cap1 = 0) (hT : Tabs W) :
    Calls Tryd.prog 6 #[.int .i64 c, .slice a1 l1.length cap1] W (OneBool true W) := by
  cases hc : isCh c
  · exact walk_no c a1 cap1 _ W hc hT
  · have h := of_decide_eq_true hc
    obtain ⟨n, rfl⟩ := Int.eq_ofNat_of_zero_le h.1
    by_cases hlong : 1000 < l1.length
    · exact walk_long n a1 cap1 _ W hc hlong hT
    · exact walk_yes n a1 cap1 l1 W hc b1 z1 (by omega) hT

end Go.Proofs.YtgnmjhhfefnmcaaDoor.UtfBack
