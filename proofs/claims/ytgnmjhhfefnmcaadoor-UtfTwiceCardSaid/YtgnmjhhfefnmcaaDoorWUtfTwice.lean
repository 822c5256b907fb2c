/-
  The walk of the law UtfTwice: it answers true at all bytes, and what lay in memory stays.
-/
import Derived.Test.YtgnmjhhfefnmcaaDoorTextL
import Derived.Deep.RegionHeld
namespace Go.Proofs.YtgnmjhhfefnmcaaDoor.UtfTwice
open Go.RowKit Go.Lib
set_option linter.unusedVariables false

/-- What Text comes to: the text in new memory. -/
def Txt (m : List Nat) (w : World) (e : Ending) (w' : World) : Prop := ∃ v, e = .returned v ∧ Own w' w.heap.size v m ∧ Below w.heap.size w w'
def Num (n : Int) (w : World) (e : Ending) (w' : World) : Prop := e = .returned (.int .i64 n) ∧ Below w.heap.size w w'

set_option maxHeartbeats 1000000 in
set_option maxRecDepth 100000 in
theorem walk_long (a0 : Option Addr) (cap0 n0 : Nat) (a1 : Option Addr) (cap1 n1 : Nat) (w : World) (hlong : 1500 < n0 ∨ 1500 < n1) (hT : Tabs w) :
    Calls Tryd.prog 7 #[.slice a0 n0 cap0, .slice a1 n1 cap1] w (OneBool true w) := by
  have K3 := Lib.hid (alive_any w hT)
  clear hT
  by_cases h0 : 1500 < n0
  · have i0 : (1500 : Int) < (n0 : Int) := by omega
    clear hlong
    go_enter Tryd.func7, Tryd.ntmps7
    go_wp2_with (go_at_call 12; refine K3.out.mono ?_; rintro e w1 ⟨rfl, hb1⟩)
    go_ret
    exact ⟨rfl, hb1⟩
  · have i0 : ¬ (1500 : Int) < (n0 : Int) := by omega
    have i1 : (1500 : Int) < (n1 : Int) := by omega
    clear hlong
    go_enter Tryd.func7, Tryd.ntmps7
    go_wp2_with (go_at_call 12; refine K3.out.mono ?_; rintro e w1 ⟨rfl, hb1⟩)
    go_ret
    exact ⟨rfl, hb1⟩

set_option maxHeartbeats 4000000 in
set_option maxRecDepth 100000 in
theorem walk_on (a0 : Option Addr) (cap0 : Nat) (l0 : List Nat) (a1 : Option Addr) (cap1 : Nat) (l1 : List Nat) (w : World) (h0 : Bts w a0 l0) (c0 : l0.length ≤ cap0) (m0 : cap0 ≤ maxLen)
    (h1 : Bts w a1 l1) (c1 : l1.length ≤ cap1) (m1 : cap1 ≤ maxLen) (hl0 : l0.length ≤ 1500) (hl1 : l1.length ≤ 1500) (hT : Tabs w) :
    Calls Tryd.prog 7 #[.slice a0 l0.length cap0, .slice a1 l1.length cap1] w (OneBool true w) := by
  have i0 : ¬ (1500 : Int) < (l0.length : Int) := by omega
  have i1 : ¬ (1500 : Int) < (l1.length : Int) := by omega
  have hx0 := textL_lt h0.1
  have hx1 := textL_lt h1.1
  have hn0 := textL_len h0.1
  have hn1 := textL_len h1.1
  have hcl0 := chars_len l0 h0.1
  have hcl1 := chars_len l1 h1.1
  obtain ⟨X, hX⟩ : ∃ X, textL l0 = X := ⟨_, rfl⟩
  obtain ⟨Y, hY⟩ : ∃ Y, textL l1 = Y := ⟨_, rfl⟩
  obtain ⟨N0, hN0⟩ : ∃ N, (chars l0).length = N := ⟨_, rfl⟩
  obtain ⟨N1, hN1⟩ : ∃ N, (chars l1).length = N := ⟨_, rfl⟩
  have tX : textL X = X := by rw [← hX]; exact text_text h0.1
  have nX : (chars X).length = N0 := by rw [← hX, chars_text h0.1, hN0]
  have tB : textL (X ++ Y) = X ++ Y := by rw [← hX, ← hY]; exact text_both h0.1 h1.1
  have nB : (chars (X ++ Y)).length = N0 + N1 := by rw [← hX, ← hY, chars_both h0.1 h1.1, List.length_append, hN0, hN1]
  rw [hX] at hx0 hn0
  rw [hY] at hx1 hn1
  rw [hN0] at hcl0
  rw [hN1] at hcl1
  have k1 : Calls Tryd.prog 18 #[.slice a0 l0.length cap0] w (Txt X w) := by
    have := text_any a0 cap0 l0 w h0 c0 m0 (by omega) hT
    rw [hX] at this
    exact this
  have k2 : ∀ W, Below w.heap.size w W → Calls Tryd.prog 18 #[.slice a1 l1.length cap1] W (Txt Y W) := fun W hb => by
    have := text_any a1 cap1 l1 W (h1.below hb (Nat.le_refl _)) c1 m1 (by omega) (hT.below hb)
    rw [hY] at this
    exact this
  have k3 : ∀ W, Below w.heap.size w W → Calls Tryd.prog 12 #[] W (OneBool true W) := fun W hb => alive_any W (hT.below hb)
  have k4 : ∀ W, Below w.heap.size w W → Calls Tryd.prog 20 #[.slice a0 l0.length cap0] W (Num N0 W) := fun W hb => by
    have := count_any a0 cap0 l0 W (h0.below hb (Nat.le_refl _)) c0 m0 (by omega) (hT.below hb)
    rw [hN0] at this
    exact this
  have k5 : ∀ W, Below w.heap.size w W → Calls Tryd.prog 20 #[.slice a1 l1.length cap1] W (Num N1 W) := fun W hb => by
    have := count_any a1 cap1 l1 W (h1.below hb (Nat.le_refl _)) c1 m1 (by omega) (hT.below hb)
    rw [hN1] at this
    exact this
  have k6 : ∀ W a cap, Below w.heap.size w W → Bts W a X → X.length ≤ cap → cap ≤ maxLen → Calls Tryd.prog 18 #[.slice a X.length cap] W (Txt X W) ∧ Calls Tryd.prog 20 #[.slice a X.length cap] W (Num N0 W) := fun W a cap hb hbt hc hm => by
    have t1 := text_any a cap X W hbt hc hm (by omega) (hT.below hb)
    have t2 := count_any a cap X W hbt hc hm (by omega) (hT.below hb)
    rw [tX] at t1
    rw [nX] at t2
    exact ⟨t1, t2⟩
  have k7 : ∀ W a cap, Below w.heap.size w W → Bts W a (X ++ Y) → (X ++ Y).length ≤ cap → cap ≤ maxLen → Calls Tryd.prog 18 #[.slice a (X ++ Y).length cap] W (Txt (X ++ Y) W) ∧ Calls Tryd.prog 20 #[.slice a (X ++ Y).length cap] W (Num ((N0 : Int) + (N1 : Int)) W) := fun W a cap hb hbt hc hm => by
    have t1 := text_any a cap (X ++ Y) W hbt hc hm (by rw [List.length_append]; omega) (hT.below hb)
    have t2 := count_any a cap (X ++ Y) W hbt hc hm (by rw [List.length_append]; omega) (hT.below hb)
    rw [tB] at t1
    rw [nB] at t2
    exact ⟨t1, t2⟩
  have hxy : ∀ x ∈ X ++ Y, x < 256 := by
    intro x hx
    rcases List.mem_append.1 hx with hx | hx
    · exact hx0 x hx
    · exact hx1 x hx
  have j0 : (N0 : Int) ≤ 1500 := by omega
  have j1 : (N1 : Int) ≤ 1500 := by omega
  have hwr : IntKind.i64.wrap ((N0 : Int) + (N1 : Int)) = (N0 : Int) + (N1 : Int) := by rw [IntKind.wrap_i64]; omega
  have Hwr := Lib.hid hwr
  clear hwr
  have K1 := Lib.hid k1
  have K2 := Lib.hid k2
  have K3 := Lib.hid k3
  have K4 := Lib.hid k4
  have K5 := Lib.hid k5
  have K6 := Lib.hid k6
  have K7 := Lib.hid k7
  have HX0 := Lib.hid hx0
  have HX1 := Lib.hid hx1
  have HXY := Lib.hid hxy
  clear k1 k2 k3 k4 k5 k6 k7 hT h0 h1 hx0 hx1 hxy tX nX tB nB hX hY hN0 hN1
  go_enter Tryd.func7, Tryd.ntmps7
  go_wp2_with fail
  refine K1.out.mono ?_
  rintro e w1 ⟨v0, rfl, ho0, hb1⟩
  go_wp2_with fail
  refine (K2.out _ hb1).mono ?_
  rintro e w2 ⟨v1, rfl, ho1, hb2⟩
  have hB2 : Below w.heap.size w w2 := hb1.trans (hb2.mono hb1.size)
  obtain ⟨x0, xc0, rfl, hbx0, hxc0, hxm0, hxz0⟩ := ho0.bts HX0.out
  obtain ⟨x1, xc1, rfl, hbx1, hxc1, hxm1, hxz1⟩ := ho1.bts HX1.out
  have hbx0' := hbx0.below hb2 (Nat.le_refl _)
  have hs2 := hB2.size
  have q0 : Own (w2.alloc (.cells #[] 5)) w2.heap.size (.slice (some ⟨w2.heap.size, 0, none⟩) 0 0) [] := ⟨by simp, .inr ⟨w2.heap.size, 0, #[], rfl, Nat.le_refl _, heap_alloc_new w2 _, by simp, by simp, by simp, by simp⟩⟩
  have hB0 : Below w2.heap.size w2 (w2.alloc (.cells #[] 5)) := (Below.refl _ _).alloc (Nat.le_refl _) _
  have Q0 := Lib.hid q0
  have HB0 := Lib.hid hbx0'
  have HB1 := Lib.hid hbx1
  have HZ0 := Lib.hid hxz0
  have HZ1 := Lib.hid hxz1
  clear q0 hbx0 hbx0' hbx1 ho0 ho1 hxz0 hxz1
  go_wp2_with (first
    | (at_builtin
       refine wpList_app rfl (.tmp 21) (.tmp 22) rfl w2.heap.size (.slice (some ⟨w2.heap.size, 0, none⟩) 0 0) [] rfl Q0.out x0 xc0 X rfl (HB0.out.below hB0 (Nat.le_refl _)) HZ0.out (by simp; omega) hB0.size ?_
       intro y1 w3 hown1 hg1 hat1
       have hC1 : Below w2.heap.size w2 w3 := hB0.grown hg1 hB0.size (fun k hk => by simp [Value.ownBlock] at hk; omega))
    | (at_builtin
       refine wpList_app rfl (.tmp 23) (.tmp 24) rfl w2.heap.size y1 ([] ++ X) rfl hown1 x1 xc1 Y rfl (HB1.out.below hC1 (Nat.le_refl _)) HZ1.out (by simp; omega) hC1.size ?_
       intro y2 w4 hown2 hg2 hat2
       have hC2 : Below w2.heap.size w2 w4 := hC1.grown hg2 hC1.size (own_base hown1)))
  have hlist : [] ++ X ++ Y = X ++ Y := by simp
  rw [hlist] at hown2
  obtain ⟨b2, bc2, hv2, hbt2, hbc2, hbm2, _⟩ := hown2.bts HXY.out
  obtain ⟨L, hL⟩ : ∃ L, X ++ Y = L := ⟨_, rfl⟩
  rw [hL] at hv2 hbt2 hbc2
  have k7 := K7.out
  rw [hL] at k7
  have hxl := HXY.out
  rw [hL] at hxl
  have K8 := Lib.hid k7
  have HXL := Lib.hid hxl
  have HW4 : Below w.heap.size w w4 := hB2.trans (hC2.mono hs2)
  have HBB := Lib.hid hbt2
  have HBX := Lib.hid (HB0.out.below hC2 (Nat.le_refl _))
  have HC0 := Lib.hid hxc0
  have HM0 := Lib.hid hxm0
  have HC2 := Lib.hid hbc2
  have HM2 := Lib.hid hbm2
  clear hlist hown2 hown1 hbt2 hL k7 hxl hat1 hat2 K7
  rw [hv2]
  have hcur : Below w4.heap.size w4 w4.drew := (Below.refl _ _).drew
  have hfar : Below w.heap.size w w4.drew := HW4.drew
  have cvx : ∀ W, Below w4.heap.size w4 W → Sem.run Tryd.prog (convert 22 9 (.slice x0 X.length xc0)) W = .ok (.string (str X)) W := fun W hb => conv_bts xc0 (HBX.out.below hb (Nat.le_refl _))
  have cvb : ∀ W, Below w4.heap.size w4 W → Sem.run Tryd.prog (convert 22 9 (.slice b2 L.length bc2)) W = .ok (.string (str L)) W := fun W hb => conv_bts bc2 (HBB.out.below hb (Nat.le_refl _))
  clear hv2
  go_region_held (fun W => Below w4.heap.size w4 W) (first | exact hcur | assumption)
   (first
    | (go_at_call 12; refine (K3.out _ hfar).mono ?_; rintro e w5 ⟨rfl, hb⟩; replace hcur := hcur.trans (hb.mono hcur.size); replace hfar := hfar.trans (hb.mono hfar.size); clear hb)
    | (go_at_call_of 18 (Value.slice x0 X.length xc0); refine ((K6.out _ x0 xc0 hfar (HBX.out.below hcur (Nat.le_refl _)) HC0.out HM0.out).1).mono ?_; rintro e w6 ⟨v6, rfl, ho6, hb⟩; obtain ⟨a6, c6, rfl, hbt6, _, _, _⟩ := ho6.bts HX0.out; replace hcur := hcur.trans (hb.mono hcur.size); replace hfar := hfar.trans (hb.mono hfar.size); have cvt6 := conv_bts c6 hbt6; clear hbt6 ho6 hb)
    | (go_at_call_of 20 (Value.slice x0 X.length xc0); refine ((K6.out _ x0 xc0 hfar (HBX.out.below hcur (Nat.le_refl _)) HC0.out HM0.out).2).mono ?_; rintro e w7 ⟨rfl, hb⟩; replace hcur := hcur.trans (hb.mono hcur.size); replace hfar := hfar.trans (hb.mono hfar.size); clear hb)
    | (go_at_call_of 20 (Value.slice a0 l0.length cap0); refine (K4.out _ hfar).mono ?_; rintro e w8 ⟨rfl, hb⟩; replace hcur := hcur.trans (hb.mono hcur.size); replace hfar := hfar.trans (hb.mono hfar.size); clear hb)
    | (go_at_call_of 18 (Value.slice b2 L.length bc2); refine ((K8.out _ b2 bc2 hfar (HBB.out.below hcur (Nat.le_refl _)) HC2.out HM2.out).1).mono ?_; rintro e w9 ⟨v9, rfl, ho9, hb⟩; obtain ⟨a9, c9, rfl, hbt9, _, _, _⟩ := ho9.bts HXL.out; replace hcur := hcur.trans (hb.mono hcur.size); replace hfar := hfar.trans (hb.mono hfar.size); have cvt9 := conv_bts c9 hbt9; clear hbt9 ho9 hb)
    | (go_at_call_of 20 (Value.slice b2 L.length bc2); refine ((K8.out _ b2 bc2 hfar (HBB.out.below hcur (Nat.le_refl _)) HC2.out HM2.out).2).mono ?_; rintro e w10 ⟨rfl, hb⟩; replace hcur := hcur.trans (hb.mono hcur.size); replace hfar := hfar.trans (hb.mono hfar.size); clear hb)
    | (go_at_call_of 20 (Value.slice a1 l1.length cap1); refine (K5.out _ hfar).mono ?_; rintro e w11 ⟨rfl, hb⟩; replace hcur := hcur.trans (hb.mono hcur.size); replace hfar := hfar.trans (hb.mono hfar.size); clear hb))
  all_goals
    go_wp2
    rw [Hwr.out]
    go_ret
    exact ⟨by simp, hfar⟩

theorem walk (a0 : Option Addr) (cap0 : Nat) (l0 : List Nat) (a1 : Option Addr) (cap1 : Nat) (l1 : List Nat) (w : World) (h0 : Bts w a0 l0) (c0 : l0.length ≤ cap0) (m0 : cap0 ≤ maxLen) (z0 : a0 = none → cap0 = 0)
    (h1 : Bts w a1 l1) (c1 : l1.length ≤ cap1) (m1 : cap1 ≤ maxLen) (z1 : a1 = none → cap1 = 0) (hT : Tabs w) :
    Calls Tryd.prog 7 #[.slice a0 l0.length cap0, .slice a1 l1.length cap1] w (OneBool true w) := by
  by_cases hlong : 1500 < l0.length ∨ 1500 < l1.length
  · exact walk_long a0 cap0 _ a1 cap1 _ w hlong hT
  · exact walk_on a0 cap0 l0 a1 cap1 l1 w h0 c0 m0 h1 c1 m1 (by omega) (by omega) hT

end Go.Proofs.YtgnmjhhfefnmcaaDoor.UtfTwice
