/-
  The walk of the law UtfInvalid: it answers true at all bytes and every byte, and what lay in memory stays.
-/
import Derived.Test.YtgnmjhhfefnmcaaDoorTextL
namespace Go.Proofs.YtgnmjhhfefnmcaaDoor.UtfInvalid
open Go.RowKit Go.Lib
set_option linter.unusedVariables false

/-- What Text comes to: the text in new memory. -/
def Txt (l : List Nat) (w : World) (e : Ending) (w' : World) : Prop := ∃ v, e = .returned v ∧ Own w' w.heap.size v (textL l) ∧ Below w.heap.size w w'

set_option maxHeartbeats 1000000 in
set_option maxRecDepth 100000 in
theorem walk_long (a0 : Option Addr) (cap0 n0 : Nat) (a1 : Option Addr) (cap1 n1 : Nat) (c : Int) (w : World) (hlong : 1000 < n0 ∨ 1000 < n1) (hT : Tabs w) :
    Calls Tryd.prog 8 #[.slice a0 n0 cap0, .slice a1 n1 cap1, .int .u8 c] w (OneBool true w) := by
  have K3 := Lib.hid (alive_any w hT)
  clear hT
  by_cases h0 : 1000 < n0
  · have i0 : (1000 : Int) < (n0 : Int) := by omega
    clear hlong
    go_enter Tryd.func8, Tryd.ntmps8
    go_wp2_with (go_at_call 12; refine K3.out.mono ?_; rintro e w1 ⟨rfl, hb1⟩)
    go_ret
    exact ⟨rfl, hb1⟩
  · have i0 : ¬ (1000 : Int) < (n0 : Int) := by omega
    have i1 : (1000 : Int) < (n1 : Int) := by omega
    clear hlong
    go_enter Tryd.func8, Tryd.ntmps8
    go_wp2_with (go_at_call 12; refine K3.out.mono ?_; rintro e w1 ⟨rfl, hb1⟩)
    go_ret
    exact ⟨rfl, hb1⟩

set_option maxHeartbeats 2000000 in
set_option maxRecDepth 100000 in
theorem walk_0 (a0 : Option Addr) (cap0 : Nat) (l0 : List Nat) (a1 : Option Addr) (cap1 : Nat) (l1 : List Nat) (c : Nat) (w : World) (h0 : Bts w a0 l0) (c0 : l0.length ≤ cap0) (m0 : cap0 ≤ maxLen) (z0 : a0 = none → cap0 = 0)
    (h1 : Bts w a1 l1) (c1 : l1.length ≤ cap1) (m1 : cap1 ≤ maxLen) (z1 : a1 = none → cap1 = 0) (hl0 : l0.length ≤ 1000) (hl1 : l1.length ≤ 1000) (hc : c < 256) (hk : c % 5 = 0) (hT : Tabs w) :
    Calls Tryd.prog 8 #[.slice a0 l0.length cap0, .slice a1 l1.length cap1, .int .u8 c] w (OneBool true w) := by
  have i0 : ¬ (1000 : Int) < (l0.length : Int) := by omega
  have i1 : ¬ (1000 : Int) < (l1.length : Int) := by omega
  have i2 : (c : Int) % 5 = 0 := by omega
  have k3 : ∀ W, Below w.heap.size w W → Calls Tryd.prog 12 #[] W (OneBool true W) := fun W hb => alive_any W (hT.below hb)
  have k1 : ∀ W, Below w.heap.size w W → Calls Tryd.prog 18 #[.slice a0 l0.length cap0] W (Txt l0 W) := fun W hb => text_any a0 cap0 l0 W (h0.below hb (Nat.le_refl _)) c0 m0 (by omega) (hT.below hb)
  have k2 : ∀ W, Below w.heap.size w W → Calls Tryd.prog 18 #[.slice a1 l1.length cap1] W (Txt l1 W) := fun W hb => text_any a1 cap1 l1 W (h1.below hb (Nat.le_refl _)) c1 m1 (by omega) (hT.below hb)
  have hx0 := textL_lt h0.1
  have hx1 := textL_lt h1.1
  have hn0 := textL_len h0.1
  have hn1 := textL_len h1.1
  have K1 := Lib.hid k1
  have K2 := Lib.hid k2
  have K3 := Lib.hid k3
  have H0 := Lib.hid h0
  have H1 := Lib.hid h1
  have HT := Lib.hid hT
  have HX0 := Lib.hid hx0
  have HX1 := Lib.hid hx1
  clear hT k1 k2 k3 h0 h1 hx0 hx1 z0 z1
  go_enter Tryd.func8, Tryd.ntmps8
  go_wp2_with fail
  refine (K1.out _ ((Below.refl _ _).alloc (Nat.le_refl _) _)).mono ?_
  rintro e w1 ⟨v0, rfl, ho0, hb1⟩
  have hB1 : Below w.heap.size w w1 := ((Below.refl _ _).alloc (Nat.le_refl _) _).trans (hb1.mono (by simp))
  go_wp2_with fail
  refine (K2.out _ hB1).mono ?_
  rintro e w2 ⟨v1, rfl, ho1, hb2⟩
  have hB2 : Below w.heap.size w w2 := hB1.trans (hb2.mono hB1.size)
  obtain ⟨x0, xc0, rfl, hbx0, hxc0, hxm0, hxz0⟩ := ho0.bts HX0.out
  obtain ⟨x1, xc1, rfl, hbx1, hxc1, hxm1, hxz1⟩ := ho1.bts HX1.out
  have hbx0' := hbx0.below hb2 (Nat.le_refl _)
  have hs2 := hB2.size
  have q0 : Own (w2.alloc (.cells #[] 5)) w2.heap.size (.slice (some ⟨w2.heap.size, 0, none⟩) 0 0) [] := ⟨by simp, .inr ⟨w2.heap.size, 0, #[], rfl, Nat.le_refl _, heap_alloc_new w2 _, by simp, by simp, by simp, by simp⟩⟩
  have hB0 : Below w2.heap.size w2 (w2.alloc (.cells #[] 5)) := (Below.refl _ _).alloc (Nat.le_refl _) _
  have Q0 := Lib.hid q0
  have HB0 := Lib.hid hbx0'
  have HB1 := Lib.hid hbx1
  have HZ0 := Lib.hid hxz0
  have HZ1 := Lib.hid hxz1
  clear q0 hbx0 hbx0' hbx1 ho0 ho1 hxz0 hxz1
  go_wp2_with (first
    | (at_builtin
       refine wpList_app rfl (.tmp 29) (.tmp 30) rfl w2.heap.size (.slice (some ⟨w2.heap.size, 0, none⟩) 0 0) [] rfl Q0.out x0 xc0 (textL l0) rfl (HB0.out.below hB0 (Nat.le_refl _)) HZ0.out (by simp; omega) hB0.size ?_
       intro y1 w3 hown1 hg1 hat1
       have hC1 : Below w2.heap.size w2 w3 := hB0.grown hg1 hB0.size (fun k hk => by simp [Value.ownBlock] at hk; omega))
    | (at_builtin
       refine wpList_app rfl (.tmp 31) (.tmp 33) rfl w2.heap.size y1 ([] ++ textL l0) rfl (hown1.alloc _) (some ⟨w3.heap.size, 0, none⟩) 1 [192] rfl (lit_bts w3 [192] (by simp) _ (by simp [bval])) (fun h => by cases h) (by simp; omega) (by rw [World.size_alloc]; have := hC1.size; omega) ?_
       intro y2 w4 hown2 hg2 hat2
       have hC2 : Below w2.heap.size w2 w4 := (hC1.alloc hC1.size _).grown hg2 (by rw [World.size_alloc]; have := hC1.size; omega) (own_base hown1))
    | (at_builtin
       refine wpList_app rfl (.tmp 34) (.tmp 35) rfl w2.heap.size y2 ([] ++ textL l0 ++ [192]) rfl hown2 x1 xc1 (textL l1) rfl (HB1.out.below hC2 (Nat.le_refl _)) HZ1.out (by simp; omega) hC2.size ?_
       intro y3 w5 hown3 hg3 hat3
       have hC3 : Below w2.heap.size w2 w5 := hC2.grown hg3 hC2.size (own_base hown2)))
  have hlist : [] ++ textL l0 ++ [192] ++ textL l1 = textL l0 ++ [192] ++ textL l1 := by simp
  rw [hlist] at hown3
  have hbytes : ∀ x ∈ textL l0 ++ [192] ++ textL l1, x < 256 := by
    intro x hx
    simp only [List.mem_append, List.mem_singleton] at hx
    rcases hx with (hx | hx) | hx
    · exact HX0.out x hx
    · omega
    · exact HX1.out x hx
  obtain ⟨a2, cap2, hv2, hbt2, hc2, hm2, _⟩ := hown3.bts hbytes
  have el : (textL l0 ++ [192] ++ textL l1).length ≤ 9000 := by simp; omega
  have hW5 : Below w.heap.size w w5 := hB2.trans (hC3.mono hs2)
  have k4 := text_any a2 cap2 (textL l0 ++ [192] ++ textL l1) w5 hbt2 hc2 hm2 (by omega) (HT.out.below hW5)
  rw [text_bad H0.out.1 H1.out.1 192 (by omega) rfl] at k4
  obtain ⟨L6, hL6⟩ : ∃ L, textL l0 ++ [239, 191, 189] ++ textL l1 = L := ⟨_, rfl⟩
  rw [hL6] at k4
  have HL6 := Lib.hid hL6
  have K4 := Lib.hid k4
  clear hL6 k4 hbt2 hown3 hown2 hown1 hat1 hat2 hat3 hlist hbytes
  rw [hv2]
  refine K4.out.mono ?_
  rintro e w6 ⟨v6, rfl, ho6, hb6⟩
  have hB6 : Below w.heap.size w w6 := hW5.trans (hb6.mono hW5.size)
  have hC6 : Below w2.heap.size w2 w6 := hC3.trans (hb6.mono hC3.size)
  have h6 : ∀ x ∈ L6, x < 256 := by
    intro x hx
    rw [← HL6.out] at hx
    simp only [List.mem_append, List.mem_cons, List.not_mem_nil, or_false] at hx
    rcases hx with (hx | hx) | hx
    · exact HX0.out x hx
    · omega
    · exact HX1.out x hx
  obtain ⟨a6, cap6, hv6, hbt6, hc6, hm6, _⟩ := ho6.bts h6
  subst hv6
  have Hbt6 := Lib.hid hbt6
  clear hbt6 ho6 h6 hv2
  go_wp2_with fail
  refine (K3.out _ hB6).mono ?_
  rintro e w7 ⟨rfl, hb7⟩
  have cv6 := conv_bts cap6 (Hbt6.out.below hb7 (Nat.le_refl _))
  have cv0 := conv_bts xc0 ((HB0.out.below hC6 (Nat.le_refl _)).below hb7 (Nat.le_refl _))
  have cv1 := conv_bts xc1 ((HB1.out.below hC6 (Nat.le_refl _)).below hb7 (Nat.le_refl _))
  have hstr : str (textL l0) ++ ⟨#[239, 191, 189]⟩ ++ str (textL l1) = str L6 := by
    rw [← HL6.out, ← str_append, ← str_append]
    rfl
  have Hstr := Lib.hid hstr
  clear hstr
  have hz0 : ¬ 9223372036854775807 < (str (textL l0)).size + 3 := by rw [str_size]; omega
  have hz1 : ¬ 9223372036854775807 < (str (textL l0)).size + 3 + (str (textL l1)).size := by rw [str_size, str_size]; omega
  go_wp2
  rw [Hstr.out]
  go_ret
  exact ⟨by simp, hB6.trans (hb7.mono hB6.size)⟩

set_option maxHeartbeats 2000000 in
set_option maxRecDepth 100000 in
theorem walk_1 (a0 : Option Addr) (cap0 : Nat) (l0 : List Nat) (a1 : Option Addr) (cap1 : Nat) (l1 : List Nat) (c : Nat) (w : World) (h0 : Bts w a0 l0) (c0 : l0.length ≤ cap0) (m0 : cap0 ≤ maxLen) (z0 : a0 = none → cap0 = 0)
    (h1 : Bts w a1 l1) (c1 : l1.length ≤ cap1) (m1 : cap1 ≤ maxLen) (z1 : a1 = none → cap1 = 0) (hl0 : l0.length ≤ 1000) (hl1 : l1.length ≤ 1000) (hc : c < 256) (hk : c % 5 = 1) (hT : Tabs w) :
    Calls Tryd.prog 8 #[.slice a0 l0.length cap0, .slice a1 l1.length cap1, .int .u8 c] w (OneBool true w) := by
  have i0 : ¬ (1000 : Int) < (l0.length : Int) := by omega
  have i1 : ¬ (1000 : Int) < (l1.length : Int) := by omega
  have i2 : (c : Int) % 5 = 1 := by omega
  have k3 : ∀ W, Below w.heap.size w W → Calls Tryd.prog 12 #[] W (OneBool true W) := fun W hb => alive_any W (hT.below hb)
  have k1 : ∀ W, Below w.heap.size w W → Calls Tryd.prog 18 #[.slice a0 l0.length cap0] W (Txt l0 W) := fun W hb => text_any a0 cap0 l0 W (h0.below hb (Nat.le_refl _)) c0 m0 (by omega) (hT.below hb)
  have k2 : ∀ W, Below w.heap.size w W → Calls Tryd.prog 18 #[.slice a1 l1.length cap1] W (Txt l1 W) := fun W hb => text_any a1 cap1 l1 W (h1.below hb (Nat.le_refl _)) c1 m1 (by omega) (hT.below hb)
  have hx0 := textL_lt h0.1
  have hx1 := textL_lt h1.1
  have hn0 := textL_len h0.1
  have hn1 := textL_len h1.1
  have K1 := Lib.hid k1
  have K2 := Lib.hid k2
  have K3 := Lib.hid k3
  have H0 := Lib.hid h0
  have H1 := Lib.hid h1
  have HT := Lib.hid hT
  have HX0 := Lib.hid hx0
  have HX1 := Lib.hid hx1
  clear hT k1 k2 k3 h0 h1 hx0 hx1 z0 z1
  go_enter Tryd.func8, Tryd.ntmps8
  go_wp2_with fail
  refine (K1.out _ ((Below.refl _ _).alloc (Nat.le_refl _) _)).mono ?_
  rintro e w1 ⟨v0, rfl, ho0, hb1⟩
  have hB1 : Below w.heap.size w w1 := ((Below.refl _ _).alloc (Nat.le_refl _) _).trans (hb1.mono (by simp))
  go_wp2_with fail
  refine (K2.out _ hB1).mono ?_
  rintro e w2 ⟨v1, rfl, ho1, hb2⟩
  have hB2 : Below w.heap.size w w2 := hB1.trans (hb2.mono hB1.size)
  obtain ⟨x0, xc0, rfl, hbx0, hxc0, hxm0, hxz0⟩ := ho0.bts HX0.out
  obtain ⟨x1, xc1, rfl, hbx1, hxc1, hxm1, hxz1⟩ := ho1.bts HX1.out
  have hbx0' := hbx0.below hb2 (Nat.le_refl _)
  have hs2 := hB2.size
  have q0 : Own (w2.alloc (.cells #[] 5)) w2.heap.size (.slice (some ⟨w2.heap.size, 0, none⟩) 0 0) [] := ⟨by simp, .inr ⟨w2.heap.size, 0, #[], rfl, Nat.le_refl _, heap_alloc_new w2 _, by simp, by simp, by simp, by simp⟩⟩
  have hB0 : Below w2.heap.size w2 (w2.alloc (.cells #[] 5)) := (Below.refl _ _).alloc (Nat.le_refl _) _
  have Q0 := Lib.hid q0
  have HB0 := Lib.hid hbx0'
  have HB1 := Lib.hid hbx1
  have HZ0 := Lib.hid hxz0
  have HZ1 := Lib.hid hxz1
  clear q0 hbx0 hbx0' hbx1 ho0 ho1 hxz0 hxz1
  go_wp2_with (first
    | (at_builtin
       refine wpList_app rfl (.tmp 29) (.tmp 30) rfl w2.heap.size (.slice (some ⟨w2.heap.size, 0, none⟩) 0 0) [] rfl Q0.out x0 xc0 (textL l0) rfl (HB0.out.below hB0 (Nat.le_refl _)) HZ0.out (by simp; omega) hB0.size ?_
       intro y1 w3 hown1 hg1 hat1
       have hC1 : Below w2.heap.size w2 w3 := hB0.grown hg1 hB0.size (fun k hk => by simp [Value.ownBlock] at hk; omega))
    | (at_builtin
       refine wpList_app rfl (.tmp 31) (.tmp 33) rfl w2.heap.size y1 ([] ++ textL l0) rfl (hown1.alloc _) (some ⟨w3.heap.size, 0, none⟩) 1 [193] rfl (lit_bts w3 [193] (by simp) _ (by simp [bval])) (fun h => by cases h) (by simp; omega) (by rw [World.size_alloc]; have := hC1.size; omega) ?_
       intro y2 w4 hown2 hg2 hat2
       have hC2 : Below w2.heap.size w2 w4 := (hC1.alloc hC1.size _).grown hg2 (by rw [World.size_alloc]; have := hC1.size; omega) (own_base hown1))
    | (at_builtin
       refine wpList_app rfl (.tmp 34) (.tmp 35) rfl w2.heap.size y2 ([] ++ textL l0 ++ [193]) rfl hown2 x1 xc1 (textL l1) rfl (HB1.out.below hC2 (Nat.le_refl _)) HZ1.out (by simp; omega) hC2.size ?_
       intro y3 w5 hown3 hg3 hat3
       have hC3 : Below w2.heap.size w2 w5 := hC2.grown hg3 hC2.size (own_base hown2)))
  have hlist : [] ++ textL l0 ++ [193] ++ textL l1 = textL l0 ++ [193] ++ textL l1 := by simp
  rw [hlist] at hown3
  have hbytes : ∀ x ∈ textL l0 ++ [193] ++ textL l1, x < 256 := by
    intro x hx
    simp only [List.mem_append, List.mem_singleton] at hx
    rcases hx with (hx | hx) | hx
    · exact HX0.out x hx
    · omega
    · exact HX1.out x hx
  obtain ⟨a2, cap2, hv2, hbt2, hc2, hm2, _⟩ := hown3.bts hbytes
  have el : (textL l0 ++ [193] ++ textL l1).length ≤ 9000 := by simp; omega
  have hW5 : Below w.heap.size w w5 := hB2.trans (hC3.mono hs2)
  have k4 := text_any a2 cap2 (textL l0 ++ [193] ++ textL l1) w5 hbt2 hc2 hm2 (by omega) (HT.out.below hW5)
  rw [text_bad H0.out.1 H1.out.1 193 (by omega) rfl] at k4
  obtain ⟨L6, hL6⟩ : ∃ L, textL l0 ++ [239, 191, 189] ++ textL l1 = L := ⟨_, rfl⟩
  rw [hL6] at k4
  have HL6 := Lib.hid hL6
  have K4 := Lib.hid k4
  clear hL6 k4 hbt2 hown3 hown2 hown1 hat1 hat2 hat3 hlist hbytes
  rw [hv2]
  refine K4.out.mono ?_
  rintro e w6 ⟨v6, rfl, ho6, hb6⟩
  have hB6 : Below w.heap.size w w6 := hW5.trans (hb6.mono hW5.size)
  have hC6 : Below w2.heap.size w2 w6 := hC3.trans (hb6.mono hC3.size)
  have h6 : ∀ x ∈ L6, x < 256 := by
    intro x hx
    rw [← HL6.out] at hx
    simp only [List.mem_append, List.mem_cons, List.not_mem_nil, or_false] at hx
    rcases hx with (hx | hx) | hx
    · exact HX0.out x hx
    · omega
    · exact HX1.out x hx
  obtain ⟨a6, cap6, hv6, hbt6, hc6, hm6, _⟩ := ho6.bts h6
  subst hv6
  have Hbt6 := Lib.hid hbt6
  clear hbt6 ho6 h6 hv2
  go_wp2_with fail
  refine (K3.out _ hB6).mono ?_
  rintro e w7 ⟨rfl, hb7⟩
  have cv6 := conv_bts cap6 (Hbt6.out.below hb7 (Nat.le_refl _))
  have cv0 := conv_bts xc0 ((HB0.out.below hC6 (Nat.le_refl _)).below hb7 (Nat.le_refl _))
  have cv1 := conv_bts xc1 ((HB1.out.below hC6 (Nat.le_refl _)).below hb7 (Nat.le_refl _))
  have hstr : str (textL l0) ++ ⟨#[239, 191, 189]⟩ ++ str (textL l1) = str L6 := by
    rw [← HL6.out, ← str_append, ← str_append]
    rfl
  have Hstr := Lib.hid hstr
  clear hstr
  have hz0 : ¬ 9223372036854775807 < (str (textL l0)).size + 3 := by rw [str_size]; omega
  have hz1 : ¬ 9223372036854775807 < (str (textL l0)).size + 3 + (str (textL l1)).size := by rw [str_size, str_size]; omega
  go_wp2
  rw [Hstr.out]
  go_ret
  exact ⟨by simp, hB6.trans (hb7.mono hB6.size)⟩

set_option maxHeartbeats 2000000 in
set_option maxRecDepth 100000 in
theorem walk_2 (a0 : Option Addr) (cap0 : Nat) (l0 : List Nat) (a1 : Option Addr) (cap1 : Nat) (l1 : List Nat) (c : Nat) (w : World) (h0 : Bts w a0 l0) (c0 : l0.length ≤ cap0) (m0 : cap0 ≤ maxLen) (z0 : a0 = none → cap0 = 0)
    (h1 : Bts w a1 l1) (c1 : l1.length ≤ cap1) (m1 : cap1 ≤ maxLen) (z1 : a1 = none → cap1 = 0) (hl0 : l0.length ≤ 1000) (hl1 : l1.length ≤ 1000) (hc : c < 256) (hk : c % 5 = 2) (hT : Tabs w) :
    Calls Tryd.prog 8 #[.slice a0 l0.length cap0, .slice a1 l1.length cap1, .int .u8 c] w (OneBool true w) := by
  have i0 : ¬ (1000 : Int) < (l0.length : Int) := by omega
  have i1 : ¬ (1000 : Int) < (l1.length : Int) := by omega
  have i2 : (c : Int) % 5 = 2 := by omega
  have k3 : ∀ W, Below w.heap.size w W → Calls Tryd.prog 12 #[] W (OneBool true W) := fun W hb => alive_any W (hT.below hb)
  have k1 : ∀ W, Below w.heap.size w W → Calls Tryd.prog 18 #[.slice a0 l0.length cap0] W (Txt l0 W) := fun W hb => text_any a0 cap0 l0 W (h0.below hb (Nat.le_refl _)) c0 m0 (by omega) (hT.below hb)
  have k2 : ∀ W, Below w.heap.size w W → Calls Tryd.prog 18 #[.slice a1 l1.length cap1] W (Txt l1 W) := fun W hb => text_any a1 cap1 l1 W (h1.below hb (Nat.le_refl _)) c1 m1 (by omega) (hT.below hb)
  have hx0 := textL_lt h0.1
  have hx1 := textL_lt h1.1
  have hn0 := textL_len h0.1
  have hn1 := textL_len h1.1
  have K1 := Lib.hid k1
  have K2 := Lib.hid k2
  have K3 := Lib.hid k3
  have H0 := Lib.hid h0
  have H1 := Lib.hid h1
  have HT := Lib.hid hT
  have HX0 := Lib.hid hx0
  have HX1 := Lib.hid hx1
  clear hT k1 k2 k3 h0 h1 hx0 hx1 z0 z1
  go_enter Tryd.func8, Tryd.ntmps8
  go_wp2_with fail
  refine (K1.out _ ((Below.refl _ _).alloc (Nat.le_refl _) _)).mono ?_
  rintro e w1 ⟨v0, rfl, ho0, hb1⟩
  have hB1 : Below w.heap.size w w1 := ((Below.refl _ _).alloc (Nat.le_refl _) _).trans (hb1.mono (by simp))
  go_wp2_with fail
  refine (K2.out _ hB1).mono ?_
  rintro e w2 ⟨v1, rfl, ho1, hb2⟩
  have hB2 : Below w.heap.size w w2 := hB1.trans (hb2.mono hB1.size)
  obtain ⟨x0, xc0, rfl, hbx0, hxc0, hxm0, hxz0⟩ := ho0.bts HX0.out
  obtain ⟨x1, xc1, rfl, hbx1, hxc1, hxm1, hxz1⟩ := ho1.bts HX1.out
  have hbx0' := hbx0.below hb2 (Nat.le_refl _)
  have hs2 := hB2.size
  have q0 : Own (w2.alloc (.cells #[] 5)) w2.heap.size (.slice (some ⟨w2.heap.size, 0, none⟩) 0 0) [] := ⟨by simp, .inr ⟨w2.heap.size, 0, #[], rfl, Nat.le_refl _, heap_alloc_new w2 _, by simp, by simp, by simp, by simp⟩⟩
  have hB0 : Below w2.heap.size w2 (w2.alloc (.cells #[] 5)) := (Below.refl _ _).alloc (Nat.le_refl _) _
  have Q0 := Lib.hid q0
  have HB0 := Lib.hid hbx0'
  have HB1 := Lib.hid hbx1
  have HZ0 := Lib.hid hxz0
  have HZ1 := Lib.hid hxz1
  clear q0 hbx0 hbx0' hbx1 ho0 ho1 hxz0 hxz1
  go_wp2_with (first
    | (at_builtin
       refine wpList_app rfl (.tmp 29) (.tmp 30) rfl w2.heap.size (.slice (some ⟨w2.heap.size, 0, none⟩) 0 0) [] rfl Q0.out x0 xc0 (textL l0) rfl (HB0.out.below hB0 (Nat.le_refl _)) HZ0.out (by simp; omega) hB0.size ?_
       intro y1 w3 hown1 hg1 hat1
       have hC1 : Below w2.heap.size w2 w3 := hB0.grown hg1 hB0.size (fun k hk => by simp [Value.ownBlock] at hk; omega))
    | (at_builtin
       refine wpList_app rfl (.tmp 31) (.tmp 33) rfl w2.heap.size y1 ([] ++ textL l0) rfl (hown1.alloc _) (some ⟨w3.heap.size, 0, none⟩) 1 [245] rfl (lit_bts w3 [245] (by simp) _ (by simp [bval])) (fun h => by cases h) (by simp; omega) (by rw [World.size_alloc]; have := hC1.size; omega) ?_
       intro y2 w4 hown2 hg2 hat2
       have hC2 : Below w2.heap.size w2 w4 := (hC1.alloc hC1.size _).grown hg2 (by rw [World.size_alloc]; have := hC1.size; omega) (own_base hown1))
    | (at_builtin
       refine wpList_app rfl (.tmp 34) (.tmp 35) rfl w2.heap.size y2 ([] ++ textL l0 ++ [245]) rfl hown2 x1 xc1 (textL l1) rfl (HB1.out.below hC2 (Nat.le_refl _)) HZ1.out (by simp; omega) hC2.size ?_
       intro y3 w5 hown3 hg3 hat3
       have hC3 : Below w2.heap.size w2 w5 := hC2.grown hg3 hC2.size (own_base hown2)))
  have hlist : [] ++ textL l0 ++ [245] ++ textL l1 = textL l0 ++ [245] ++ textL l1 := by simp
  rw [hlist] at hown3
  have hbytes : ∀ x ∈ textL l0 ++ [245] ++ textL l1, x < 256 := by
    intro x hx
    simp only [List.mem_append, List.mem_singleton] at hx
    rcases hx with (hx | hx) | hx
    · exact HX0.out x hx
    · omega
    · exact HX1.out x hx
  obtain ⟨a2, cap2, hv2, hbt2, hc2, hm2, _⟩ := hown3.bts hbytes
  have el : (textL l0 ++ [245] ++ textL l1).length ≤ 9000 := by simp; omega
  have hW5 : Below w.heap.size w w5 := hB2.trans (hC3.mono hs2)
  have k4 := text_any a2 cap2 (textL l0 ++ [245] ++ textL l1) w5 hbt2 hc2 hm2 (by omega) (HT.out.below hW5)
  rw [text_bad H0.out.1 H1.out.1 245 (by omega) rfl] at k4
  obtain ⟨L6, hL6⟩ : ∃ L, textL l0 ++ [239, 191, 189] ++ textL l1 = L := ⟨_, rfl⟩
  rw [hL6] at k4
  have HL6 := Lib.hid hL6
  have K4 := Lib.hid k4
  clear hL6 k4 hbt2 hown3 hown2 hown1 hat1 hat2 hat3 hlist hbytes
  rw [hv2]
  refine K4.out.mono ?_
  rintro e w6 ⟨v6, rfl, ho6, hb6⟩
  have hB6 : Below w.heap.size w w6 := hW5.trans (hb6.mono hW5.size)
  have hC6 : Below w2.heap.size w2 w6 := hC3.trans (hb6.mono hC3.size)
  have h6 : ∀ x ∈ L6, x < 256 := by
    intro x hx
    rw [← HL6.out] at hx
    simp only [List.mem_append, List.mem_cons, List.not_mem_nil, or_false] at hx
    rcases hx with (hx | hx) | hx
    · exact HX0.out x hx
    · omega
    · exact HX1.out x hx
  obtain ⟨a6, cap6, hv6, hbt6, hc6, hm6, _⟩ := ho6.bts h6
  subst hv6
  have Hbt6 := Lib.hid hbt6
  clear hbt6 ho6 h6 hv2
  go_wp2_with fail
  refine (K3.out _ hB6).mono ?_
  rintro e w7 ⟨rfl, hb7⟩
  have cv6 := conv_bts cap6 (Hbt6.out.below hb7 (Nat.le_refl _))
  have cv0 := conv_bts xc0 ((HB0.out.below hC6 (Nat.le_refl _)).below hb7 (Nat.le_refl _))
  have cv1 := conv_bts xc1 ((HB1.out.below hC6 (Nat.le_refl _)).below hb7 (Nat.le_refl _))
  have hstr : str (textL l0) ++ ⟨#[239, 191, 189]⟩ ++ str (textL l1) = str L6 := by
    rw [← HL6.out, ← str_append, ← str_append]
    rfl
  have Hstr := Lib.hid hstr
  clear hstr
  have hz0 : ¬ 9223372036854775807 < (str (textL l0)).size + 3 := by rw [str_size]; omega
  have hz1 : ¬ 9223372036854775807 < (str (textL l0)).size + 3 + (str (textL l1)).size := by rw [str_size, str_size]; omega
  go_wp2
  rw [Hstr.out]
  go_ret
  exact ⟨by simp, hB6.trans (hb7.mono hB6.size)⟩

set_option maxHeartbeats 2000000 in
set_option maxRecDepth 100000 in
theorem walk_3 (a0 : Option Addr) (cap0 : Nat) (l0 : List Nat) (a1 : Option Addr) (cap1 : Nat) (l1 : List Nat) (c : Nat) (w : World) (h0 : Bts w a0 l0) (c0 : l0.length ≤ cap0) (m0 : cap0 ≤ maxLen) (z0 : a0 = none → cap0 = 0)
    (h1 : Bts w a1 l1) (c1 : l1.length ≤ cap1) (m1 : cap1 ≤ maxLen) (z1 : a1 = none → cap1 = 0) (hl0 : l0.length ≤ 1000) (hl1 : l1.length ≤ 1000) (hc : c < 256) (hk : c % 5 = 3) (hT : Tabs w) :
    Calls Tryd.prog 8 #[.slice a0 l0.length cap0, .slice a1 l1.length cap1, .int .u8 c] w (OneBool true w) := by
  have i0 : ¬ (1000 : Int) < (l0.length : Int) := by omega
  have i1 : ¬ (1000 : Int) < (l1.length : Int) := by omega
  have i2 : (c : Int) % 5 = 3 := by omega
  have k3 : ∀ W, Below w.heap.size w W → Calls Tryd.prog 12 #[] W (OneBool true W) := fun W hb => alive_any W (hT.below hb)
  have k1 : ∀ W, Below w.heap.size w W → Calls Tryd.prog 18 #[.slice a0 l0.length cap0] W (Txt l0 W) := fun W hb => text_any a0 cap0 l0 W (h0.below hb (Nat.le_refl _)) c0 m0 (by omega) (hT.below hb)
  have k2 : ∀ W, Below w.heap.size w W → Calls Tryd.prog 18 #[.slice a1 l1.length cap1] W (Txt l1 W) := fun W hb => text_any a1 cap1 l1 W (h1.below hb (Nat.le_refl _)) c1 m1 (by omega) (hT.below hb)
  have hx0 := textL_lt h0.1
  have hx1 := textL_lt h1.1
  have hn0 := textL_len h0.1
  have hn1 := textL_len h1.1
  have K1 := Lib.hid k1
  have K2 := Lib.hid k2
  have K3 := Lib.hid k3
  have H0 := Lib.hid h0
  have H1 := Lib.hid h1
  have HT := Lib.hid hT
  have HX0 := Lib.hid hx0
  have HX1 := Lib.hid hx1
  clear hT k1 k2 k3 h0 h1 hx0 hx1 z0 z1
  go_enter Tryd.func8, Tryd.ntmps8
  go_wp2_with fail
  refine (K1.out _ ((Below.refl _ _).alloc (Nat.le_refl _) _)).mono ?_
  rintro e w1 ⟨v0, rfl, ho0, hb1⟩
  have hB1 : Below w.heap.size w w1 := ((Below.refl _ _).alloc (Nat.le_refl _) _).trans (hb1.mono (by simp))
  go_wp2_with fail
  refine (K2.out _ hB1).mono ?_
  rintro e w2 ⟨v1, rfl, ho1, hb2⟩
  have hB2 : Below w.heap.size w w2 := hB1.trans (hb2.mono hB1.size)
  obtain ⟨x0, xc0, rfl, hbx0, hxc0, hxm0, hxz0⟩ := ho0.bts HX0.out
  obtain ⟨x1, xc1, rfl, hbx1, hxc1, hxm1, hxz1⟩ := ho1.bts HX1.out
  have hbx0' := hbx0.below hb2 (Nat.le_refl _)
  have hs2 := hB2.size
  have q0 : Own (w2.alloc (.cells #[] 5)) w2.heap.size (.slice (some ⟨w2.heap.size, 0, none⟩) 0 0) [] := ⟨by simp, .inr ⟨w2.heap.size, 0, #[], rfl, Nat.le_refl _, heap_alloc_new w2 _, by simp, by simp, by simp, by simp⟩⟩
  have hB0 : Below w2.heap.size w2 (w2.alloc (.cells #[] 5)) := (Below.refl _ _).alloc (Nat.le_refl _) _
  have Q0 := Lib.hid q0
  have HB0 := Lib.hid hbx0'
  have HB1 := Lib.hid hbx1
  have HZ0 := Lib.hid hxz0
  have HZ1 := Lib.hid hxz1
  clear q0 hbx0 hbx0' hbx1 ho0 ho1 hxz0 hxz1
  go_wp2_with (first
    | (at_builtin
       refine wpList_app rfl (.tmp 29) (.tmp 30) rfl w2.heap.size (.slice (some ⟨w2.heap.size, 0, none⟩) 0 0) [] rfl Q0.out x0 xc0 (textL l0) rfl (HB0.out.below hB0 (Nat.le_refl _)) HZ0.out (by simp; omega) hB0.size ?_
       intro y1 w3 hown1 hg1 hat1
       have hC1 : Below w2.heap.size w2 w3 := hB0.grown hg1 hB0.size (fun k hk => by simp [Value.ownBlock] at hk; omega))
    | (at_builtin
       refine wpList_app rfl (.tmp 31) (.tmp 33) rfl w2.heap.size y1 ([] ++ textL l0) rfl (hown1.alloc _) (some ⟨w3.heap.size, 0, none⟩) 1 [250] rfl (lit_bts w3 [250] (by simp) _ (by simp [bval])) (fun h => by cases h) (by simp; omega) (by rw [World.size_alloc]; have := hC1.size; omega) ?_
       intro y2 w4 hown2 hg2 hat2
       have hC2 : Below w2.heap.size w2 w4 := (hC1.alloc hC1.size _).grown hg2 (by rw [World.size_alloc]; have := hC1.size; omega) (own_base hown1))
    | (at_builtin
       refine wpList_app rfl (.tmp 34) (.tmp 35) rfl w2.heap.size y2 ([] ++ textL l0 ++ [250]) rfl hown2 x1 xc1 (textL l1) rfl (HB1.out.below hC2 (Nat.le_refl _)) HZ1.out (by simp; omega) hC2.size ?_
       intro y3 w5 hown3 hg3 hat3
       have hC3 : Below w2.heap.size w2 w5 := hC2.grown hg3 hC2.size (own_base hown2)))
  have hlist : [] ++ textL l0 ++ [250] ++ textL l1 = textL l0 ++ [250] ++ textL l1 := by simp
  rw [hlist] at hown3
  have hbytes : ∀ x ∈ textL l0 ++ [250] ++ textL l1, x < 256 := by
    intro x hx
    simp only [List.mem_append, List.mem_singleton] at hx
    rcases hx with (hx | hx) | hx
    · exact HX0.out x hx
    · omega
    · exact HX1.out x hx
  obtain ⟨a2, cap2, hv2, hbt2, hc2, hm2, _⟩ := hown3.bts hbytes
  have el : (textL l0 ++ [250] ++ textL l1).length ≤ 9000 := by simp; omega
  have hW5 : Below w.heap.size w w5 := hB2.trans (hC3.mono hs2)
  have k4 := text_any a2 cap2 (textL l0 ++ [250] ++ textL l1) w5 hbt2 hc2 hm2 (by omega) (HT.out.below hW5)
  rw [text_bad H0.out.1 H1.out.1 250 (by omega) rfl] at k4
  obtain ⟨L6, hL6⟩ : ∃ L, textL l0 ++ [239, 191, 189] ++ textL l1 = L := ⟨_, rfl⟩
  rw [hL6] at k4
  have HL6 := Lib.hid hL6
  have K4 := Lib.hid k4
  clear hL6 k4 hbt2 hown3 hown2 hown1 hat1 hat2 hat3 hlist hbytes
  rw [hv2]
  refine K4.out.mono ?_
  rintro e w6 ⟨v6, rfl, ho6, hb6⟩
  have hB6 : Below w.heap.size w w6 := hW5.trans (hb6.mono hW5.size)
  have hC6 : Below w2.heap.size w2 w6 := hC3.trans (hb6.mono hC3.size)
  have h6 : ∀ x ∈ L6, x < 256 := by
    intro x hx
    rw [← HL6.out] at hx
    simp only [List.mem_append, List.mem_cons, List.not_mem_nil, or_false] at hx
    rcases hx with (hx | hx) | hx
    · exact HX0.out x hx
    · omega
    · exact HX1.out x hx
  obtain ⟨a6, cap6, hv6, hbt6, hc6, hm6, _⟩ := ho6.bts h6
  subst hv6
  have Hbt6 := Lib.hid hbt6
  clear hbt6 ho6 h6 hv2
  go_wp2_with fail
  refine (K3.out _ hB6).mono ?_
  rintro e w7 ⟨rfl, hb7⟩
  have cv6 := conv_bts cap6 (Hbt6.out.below hb7 (Nat.le_refl _))
  have cv0 := conv_bts xc0 ((HB0.out.below hC6 (Nat.le_refl _)).below hb7 (Nat.le_refl _))
  have cv1 := conv_bts xc1 ((HB1.out.below hC6 (Nat.le_refl _)).below hb7 (Nat.le_refl _))
  have hstr : str (textL l0) ++ ⟨#[239, 191, 189]⟩ ++ str (textL l1) = str L6 := by
    rw [← HL6.out, ← str_append, ← str_append]
    rfl
  have Hstr := Lib.hid hstr
  clear hstr
  have hz0 : ¬ 9223372036854775807 < (str (textL l0)).size + 3 := by rw [str_size]; omega
  have hz1 : ¬ 9223372036854775807 < (str (textL l0)).size + 3 + (str (textL l1)).size := by rw [str_size, str_size]; omega
  go_wp2
  rw [Hstr.out]
  go_ret
  exact ⟨by simp, hB6.trans (hb7.mono hB6.size)⟩

set_option maxHeartbeats 2000000 in
set_option maxRecDepth 100000 in
theorem walk_4 (a0 : Option Addr) (cap0 : Nat) (l0 : List Nat) (a1 : Option Addr) (cap1 : Nat) (l1 : List Nat) (c : Nat) (w : World) (h0 : Bts w a0 l0) (c0 : l0.length ≤ cap0) (m0 : cap0 ≤ maxLen) (z0 : a0 = none → cap0 = 0)
    (h1 : Bts w a1 l1) (c1 : l1.length ≤ cap1) (m1 : cap1 ≤ maxLen) (z1 : a1 = none → cap1 = 0) (hl0 : l0.length ≤ 1000) (hl1 : l1.length ≤ 1000) (hc : c < 256) (hk : c % 5 = 4) (hT : Tabs w) :
    Calls Tryd.prog 8 #[.slice a0 l0.length cap0, .slice a1 l1.length cap1, .int .u8 c] w (OneBool true w) := by
  have i0 : ¬ (1000 : Int) < (l0.length : Int) := by omega
  have i1 : ¬ (1000 : Int) < (l1.length : Int) := by omega
  have i2 : (c : Int) % 5 = 4 := by omega
  have k3 : ∀ W, Below w.heap.size w W → Calls Tryd.prog 12 #[] W (OneBool true W) := fun W hb => alive_any W (hT.below hb)
  have k1 : ∀ W, Below w.heap.size w W → Calls Tryd.prog 18 #[.slice a0 l0.length cap0] W (Txt l0 W) := fun W hb => text_any a0 cap0 l0 W (h0.below hb (Nat.le_refl _)) c0 m0 (by omega) (hT.below hb)
  have k2 : ∀ W, Below w.heap.size w W → Calls Tryd.prog 18 #[.slice a1 l1.length cap1] W (Txt l1 W) := fun W hb => text_any a1 cap1 l1 W (h1.below hb (Nat.le_refl _)) c1 m1 (by omega) (hT.below hb)
  have hx0 := textL_lt h0.1
  have hx1 := textL_lt h1.1
  have hn0 := textL_len h0.1
  have hn1 := textL_len h1.1
  have K1 := Lib.hid k1
  have K2 := Lib.hid k2
  have K3 := Lib.hid k3
  have H0 := Lib.hid h0
  have H1 := Lib.hid h1
  have HT := Lib.hid hT
  have HX0 := Lib.hid hx0
  have HX1 := Lib.hid hx1
  clear hT k1 k2 k3 h0 h1 hx0 hx1 z0 z1
  go_enter Tryd.func8, Tryd.ntmps8
  go_wp2_with fail
  refine (K1.out _ ((Below.refl _ _).alloc (Nat.le_refl _) _)).mono ?_
  rintro e w1 ⟨v0, rfl, ho0, hb1⟩
  have hB1 : Below w.heap.size w w1 := ((Below.refl _ _).alloc (Nat.le_refl _) _).trans (hb1.mono (by simp))
  go_wp2_with fail
  refine (K2.out _ hB1).mono ?_
  rintro e w2 ⟨v1, rfl, ho1, hb2⟩
  have hB2 : Below w.heap.size w w2 := hB1.trans (hb2.mono hB1.size)
  obtain ⟨x0, xc0, rfl, hbx0, hxc0, hxm0, hxz0⟩ := ho0.bts HX0.out
  obtain ⟨x1, xc1, rfl, hbx1, hxc1, hxm1, hxz1⟩ := ho1.bts HX1.out
  have hbx0' := hbx0.below hb2 (Nat.le_refl _)
  have hs2 := hB2.size
  have q0 : Own (w2.alloc (.cells #[] 5)) w2.heap.size (.slice (some ⟨w2.heap.size, 0, none⟩) 0 0) [] := ⟨by simp, .inr ⟨w2.heap.size, 0, #[], rfl, Nat.le_refl _, heap_alloc_new w2 _, by simp, by simp, by simp, by simp⟩⟩
  have hB0 : Below w2.heap.size w2 (w2.alloc (.cells #[] 5)) := (Below.refl _ _).alloc (Nat.le_refl _) _
  have Q0 := Lib.hid q0
  have HB0 := Lib.hid hbx0'
  have HB1 := Lib.hid hbx1
  have HZ0 := Lib.hid hxz0
  have HZ1 := Lib.hid hxz1
  clear q0 hbx0 hbx0' hbx1 ho0 ho1 hxz0 hxz1
  go_wp2_with (first
    | (at_builtin
       refine wpList_app rfl (.tmp 29) (.tmp 30) rfl w2.heap.size (.slice (some ⟨w2.heap.size, 0, none⟩) 0 0) [] rfl Q0.out x0 xc0 (textL l0) rfl (HB0.out.below hB0 (Nat.le_refl _)) HZ0.out (by simp; omega) hB0.size ?_
       intro y1 w3 hown1 hg1 hat1
       have hC1 : Below w2.heap.size w2 w3 := hB0.grown hg1 hB0.size (fun k hk => by simp [Value.ownBlock] at hk; omega))
    | (at_builtin
       refine wpList_app rfl (.tmp 31) (.tmp 33) rfl w2.heap.size y1 ([] ++ textL l0) rfl (hown1.alloc _) (some ⟨w3.heap.size, 0, none⟩) 1 [255] rfl (lit_bts w3 [255] (by simp) _ (by simp [bval])) (fun h => by cases h) (by simp; omega) (by rw [World.size_alloc]; have := hC1.size; omega) ?_
       intro y2 w4 hown2 hg2 hat2
       have hC2 : Below w2.heap.size w2 w4 := (hC1.alloc hC1.size _).grown hg2 (by rw [World.size_alloc]; have := hC1.size; omega) (own_base hown1))
    | (at_builtin
       refine wpList_app rfl (.tmp 34) (.tmp 35) rfl w2.heap.size y2 ([] ++ textL l0 ++ [255]) rfl hown2 x1 xc1 (textL l1) rfl (HB1.out.below hC2 (Nat.le_refl _)) HZ1.out (by simp; omega) hC2.size ?_
       intro y3 w5 hown3 hg3 hat3
       have hC3 : Below w2.heap.size w2 w5 := hC2.grown hg3 hC2.size (own_base hown2)))
  have hlist : [] ++ textL l0 ++ [255] ++ textL l1 = textL l0 ++ [255] ++ textL l1 := by simp
  rw [hlist] at hown3
  have hbytes : ∀ x ∈ textL l0 ++ [255] ++ textL l1, x < 256 := by
    intro x hx
    simp only [List.mem_append, List.mem_singleton] at hx
    rcases hx with (hx | hx) | hx
    · exact HX0.out x hx
    · omega
    · exact HX1.out x hx
  obtain ⟨a2, cap2, hv2, hbt2, hc2, hm2, _⟩ := hown3.bts hbytes
  have el : (textL l0 ++ [255] ++ textL l1).length ≤ 9000 := by simp; omega
  have hW5 : Below w.heap.size w w5 := hB2.trans (hC3.mono hs2)
  have k4 := text_any a2 cap2 (textL l0 ++ [255] ++ textL l1) w5 hbt2 hc2 hm2 (by omega) (HT.out.below hW5)
  rw [text_bad H0.out.1 H1.out.1 255 (by omega) rfl] at k4
  obtain ⟨L6, hL6⟩ : ∃ L, textL l0 ++ [239, 191, 189] ++ textL l1 = L := ⟨_, rfl⟩
  rw [hL6] at k4
  have HL6 := Lib.hid hL6
  have K4 := Lib.hid k4
  clear hL6 k4 hbt2 hown3 hown2 hown1 hat1 hat2 hat3 hlist hbytes
  rw [hv2]
  refine K4.out.mono ?_
  rintro e w6 ⟨v6, rfl, ho6, hb6⟩
  have hB6 : Below w.heap.size w w6 := hW5.trans (hb6.mono hW5.size)
  have hC6 : Below w2.heap.size w2 w6 := hC3.trans (hb6.mono hC3.size)
  have h6 : ∀ x ∈ L6, x < 256 := by
    intro x hx
    rw [← HL6.out] at hx
    simp only [List.mem_append, List.mem_cons, List.not_mem_nil, or_false] at hx
    rcases hx with (hx | hx) | hx
    · exact HX0.out x hx
    · omega
    · exact HX1.out x hx
  obtain ⟨a6, cap6, hv6, hbt6, hc6, hm6, _⟩ := ho6.bts h6
  subst hv6
  have Hbt6 := Lib.hid hbt6
  clear hbt6 ho6 h6 hv2
  go_wp2_with fail
  refine (K3.out _ hB6).mono ?_
  rintro e w7 ⟨rfl, hb7⟩
  have cv6 := conv_bts cap6 (Hbt6.out.below hb7 (Nat.le_refl _))
  have cv0 := conv_bts xc0 ((HB0.out.below hC6 (Nat.le_refl _)).below hb7 (Nat.le_refl _))
  have cv1 := conv_bts xc1 ((HB1.out.below hC6 (Nat.le_refl _)).below hb7 (Nat.le_refl _))
  have hstr : str (textL l0) ++ ⟨#[239, 191, 189]⟩ ++ str (textL l1) = str L6 := by
    rw [← HL6.out, ← str_append, ← str_append]
    rfl
  have Hstr := Lib.hid hstr
  clear hstr
  have hz0 : ¬ 9223372036854775807 < (str (textL l0)).size + 3 := by rw [str_size]; omega
  have hz1 : ¬ 9223372036854775807 < (str (textL l0)).size + 3 + (str (textL l1)).size := by rw [str_size, str_size]; omega
  go_wp2
  rw [Hstr.out]
  go_ret
  exact ⟨by simp, hB6.trans (hb7.mono hB6.size)⟩

theorem walk (a0 : Option Addr) (cap0 : Nat) (l0 : List Nat) (a1 : Option Addr) (cap1 : Nat) (l1 : List Nat) (c : Int) (W : World) (h0 : Bts W a0 l0) (c0 : l0.length ≤ cap0) (m0 : cap0 ≤ maxLen) (z0 : a0 = none → cap0 = 0)
    (h1 : Bts W a1 l1) (c1 : l1.length ≤ cap1) (m1 : cap1 ≤ maxLen) (z1 : a1 = none → cap1 = 0) (wf : (Lit.int .u8 c).wf = true) (hT : Tabs W) :
    Calls Tryd.prog 8 #[.slice a0 l0.length cap0, .slice a1 l1.length cap1, .int .u8 c] W (OneBool true W) := by
  by_cases hlong : 1000 < l0.length ∨ 1000 < l1.length
  · exact walk_long a0 cap0 _ a1 cap1 _ c W hlong hT
  · have hc := byte_of_wf wf
    obtain ⟨n, rfl⟩ := Int.eq_ofNat_of_zero_le hc.1
    rcases (by omega : n % 5 = 0 ∨ n % 5 = 1 ∨ n % 5 = 2 ∨ n % 5 = 3 ∨ n % 5 = 4) with hk | hk | hk | hk | hk
    · exact walk_0 a0 cap0 l0 a1 cap1 l1 n W h0 c0 m0 z0 h1 c1 m1 z1 (by omega) (by omega) (by omega) hk hT
    · exact walk_1 a0 cap0 l0 a1 cap1 l1 n W h0 c0 m0 z0 h1 c1 m1 z1 (by omega) (by omega) (by omega) hk hT
    · exact walk_2 a0 cap0 l0 a1 cap1 l1 n W h0 c0 m0 z0 h1 c1 m1 z1 (by omega) (by omega) (by omega) hk hT
    · exact walk_3 a0 cap0 l0 a1 cap1 l1 n W h0 c0 m0 z0 h1 c1 m1 z1 (by omega) (by omega) (by omega) hk hT
    · exact walk_4 a0 cap0 l0 a1 cap1 l1 n W h0 c0 m0 z0 h1 c1 m1 z1 (by omega) (by omega) (by omega) hk hT

end Go.Proofs.YtgnmjhhfefnmcaaDoor.UtfInvalid
