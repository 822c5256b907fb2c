/-
  The walk of the law UtfTexts: it answers true at all bytes, and what lay in memory stays.
-/
import Derived.Test.YtgnmjhhfefnmcaaDoorRefText
import Derived.Deep.RegionWith
namespace Go.Proofs.YtgnmjhhfefnmcaaDoor.UtfTexts
open Go.RowKit Go.Lib
set_option linter.unusedVariables false

/-- What Text comes to: the text in new memory. -/
def Txt (m : List Nat) (w : World) (e : Ending) (w' : World) : Prop := ∃ v, e = .returned v ∧ Own w' w.heap.size v m ∧ Below w.heap.size w w'
def Num (n : Int) (w : World) (e : Ending) (w' : World) : Prop := e = .returned (.int .i64 n) ∧ Below w.heap.size w w'
/-- What Chars comes to: a slice of so many numbers. -/
def Row (n : Nat) (w : World) (e : Ending) (w' : World) : Prop := ∃ a cap, e = .returned (.slice a n cap) ∧ Below w.heap.size w w'

set_option maxHeartbeats 1000000 in
set_option maxRecDepth 100000 in
theorem walk_long (a0 : Option Addr) (cap0 n0 : Nat) (w : World) (hlong : 3000 < n0) (hT : Tabs w) : Calls Tryd.prog 5 #[.slice a0 n0 cap0] w (OneBool true w) := by
  have K3 := Lib.hid (alive_any w hT)
  have i0 : (3000 : Int) < (n0 : Int) := by omega
  clear hT hlong
  go_enter Tryd.func5, Tryd.ntmps5
  go_wp2_with (go_at_call 12; refine K3.out.mono ?_; rintro e w1 ⟨rfl, hb1⟩)
  go_ret
  exact ⟨rfl, hb1⟩

set_option maxHeartbeats 2000000 in
set_option maxRecDepth 100000 in
theorem walk_on (a0 : Option Addr) (cap0 : Nat) (l0 : List Nat) (w : World) (h0 : Bts w a0 l0) (c0 : l0.length ≤ cap0) (m0 : cap0 ≤ maxLen) (hl0 : l0.length ≤ 3000) (hT : Tabs w) :
    Calls Tryd.prog 5 #[.slice a0 l0.length cap0] w (OneBool true w) := by
  have i0 : ¬ (3000 : Int) < (l0.length : Int) := by omega
  have hx0 := textL_lt h0.1
  obtain ⟨X, hX⟩ : ∃ X, textL l0 = X := ⟨_, rfl⟩
  obtain ⟨N, hN⟩ : ∃ N, (chars l0).length = N := ⟨_, rfl⟩
  rw [hX] at hx0
  have k1 : ∀ W, Below w.heap.size w W → Calls Tryd.prog 18 #[.slice a0 l0.length cap0] W (Txt X W) := fun W hb => by
    have := text_any a0 cap0 l0 W (h0.below hb (Nat.le_refl _)) c0 m0 (by omega) (hT.below hb)
    rw [hX] at this
    exact this
  have k2 : ∀ W, Below w.heap.size w W → Calls Tryd.prog 19 #[.slice a0 l0.length cap0] W (Txt X W) := fun W hb => by
    have := rtext_any a0 cap0 l0 W (h0.below hb (Nat.le_refl _)) c0 m0 (by omega)
    rw [hX] at this
    exact this
  have k3 : ∀ W, Below w.heap.size w W → Calls Tryd.prog 12 #[] W (OneBool true W) := fun W hb => alive_any W (hT.below hb)
  have k4 : ∀ W, Below w.heap.size w W → Calls Tryd.prog 20 #[.slice a0 l0.length cap0] W (Num N W) := fun W hb => by
    have := count_any a0 cap0 l0 W (h0.below hb (Nat.le_refl _)) c0 m0 (by omega) (hT.below hb)
    rw [hN] at this
    exact this
  have k5 : ∀ W, Below w.heap.size w W → Calls Tryd.prog 21 #[.slice a0 l0.length cap0] W (Row N W) := fun W hb =>
    (rchars_any a0 cap0 l0 W (h0.below hb (Nat.le_refl _)) c0 m0 (by omega)).mono fun e W' ⟨v, he, ho, hb'⟩ => by
      rw [← hN]
      rcases ho.2 with ⟨rfl, h1⟩ | ⟨g, cap, cur, rfl, _⟩
      · exact ⟨none, 0, by rw [he, h1], hb'⟩
      · exact ⟨_, _, he, hb'⟩
  have K1 := Lib.hid k1
  have K2 := Lib.hid k2
  have K3 := Lib.hid k3
  have K4 := Lib.hid k4
  have K5 := Lib.hid k5
  have HX0 := Lib.hid hx0
  clear k1 k2 k3 k4 k5 hT h0 hx0 hX hN
  go_enter Tryd.func5, Tryd.ntmps5
  go_wp2
  have hfar : Below w.heap.size w w.drew := (Below.refl _ _).drew
  go_region_with (first
    | (go_at_call 12; refine (K3.out _ hfar).mono ?_; rintro e w5 ⟨rfl, hb⟩; replace hfar := hfar.trans (hb.mono hfar.size); clear hb)
    | (go_at_call 18; refine (K1.out _ hfar).mono ?_; rintro e w6 ⟨v6, rfl, ho6, hb⟩; obtain ⟨a6, c6, rfl, hbt6, _, _, _⟩ := ho6.bts HX0.out; replace hfar := hfar.trans (hb.mono hfar.size); have cvt6 := conv_bts c6 hbt6; have H6 := Lib.hid hbt6; clear hbt6 ho6 hb)
    | (go_at_call 19; refine (K2.out _ hfar).mono ?_; rintro e w7 ⟨v7, rfl, ho7, hb⟩; obtain ⟨a7, c7, rfl, hbt7, _, _, _⟩ := ho7.bts HX0.out; replace hfar := hfar.trans (hb.mono hfar.size); have cvt7 := conv_bts c7 hbt7; have cvt67 := conv_bts c6 (H6.out.below hb (Nat.le_refl _)); clear hbt7 ho7 hb)
    | (go_at_call 20; refine (K4.out _ hfar).mono ?_; rintro e w8 ⟨rfl, hb⟩; replace hfar := hfar.trans (hb.mono hfar.size); clear hb)
    | (go_at_call 21; refine (K5.out _ hfar).mono ?_; rintro e w9 ⟨a9, c9, rfl, hb⟩; replace hfar := hfar.trans (hb.mono hfar.size); clear hb))
  all_goals
    go_wp2
    go_ret
    exact ⟨rfl, hfar⟩

theorem walk (a0 : Option Addr) (cap0 : Nat) (l0 : List Nat) (w : World) (h0 : Bts w a0 l0) (c0 : l0.length ≤ cap0) (m0 : cap0 ≤ maxLen) (z0 : a0 = none → cap0 = 0) (hT : Tabs w) :
    Calls Tryd.prog 5 #[.slice a0 l0.length cap0] w (OneBool true w) := by
  by_cases hlong : 3000 < l0.length
  · exact walk_long a0 cap0 _ w hlong hT
  · exact walk_on a0 cap0 l0 w h0 c0 m0 (by omega) hT

end Go.Proofs.YtgnmjhhfefnmcaaDoor.UtfTexts
