/-
  A screen that is new since a world; row and alive of whispererlaw14.
-/
import Derived.Test.YtdaenaoagejgeaaGreatDoorTell
import Derived.Test.YtdaenaoagejgeaaGreatDoorSeen
namespace Go.Proofs.YtdaenaoagejgeaaGreatDoor
open Go.RowKit Go.Lib
set_option linter.unusedVariables false

theorem Stp.ofB {F F' : List Nat} {w W W' : World} (h : Stp [] w [] W) (hs : Stp F W F' W') (hF : ∀ j ∈ F, w.heap.size ≤ j) : Stp [] w [] W' := Stp.of_below (h.under.trans (hs.below hF h.size))
/-- A screen at s, new since w, in the blocks F, that was fed l. -/
structure Ks (w W : World) (s : Nat) (F : List Nat) (l : List UInt8) : Prop where
  sc : Scn W w.heap.size s F l
  stp : Stp [] w [] W
section
variable {w W W' : World} {s : Nat} {F G G' : List Nat} {l : List UInt8}
theorem Ks.tabs (h : Ks w W s F l) (hT : Tabs w) : Tabs W := hT.stays h.stp
theorem Ks.tb (h : Ks w W s F l) (hT : Tabs w) : Tb W w.heap.size := fun W' hb => hT.stays (Stp.of_below (h.stp.under.trans hb))
theorem Ks.low (h : Ks w W s F l) : ∀ j ∈ F, w.heap.size ≤ j := fun j hj => (h.sc.lt.2.2 j hj).2
theorem Ks.lt (h : Ks w W s F l) : ∀ j ∈ F, j < W.heap.size := fun j hj => (h.sc.lt.2.2 j hj).1
theorem Ks.stays (h : Ks w W s F l) (hs : Stp [] W G' W') : Ks w W' s F l := ⟨h.sc.stays hs, h.stp.trans hs.none⟩
/-- A step in blocks that are new since w, and not the screen's. -/
theorem Ks.other (h : Ks w W s F l) (hs : Stp G W G' W') (hG : ∀ j ∈ G, w.heap.size ≤ j) (hA : ∀ j ∈ F, j ∉ G) : Ks w W' s F l := ⟨h.sc.other hs hA, h.stp.ofB hs hG⟩
/-- What Feed leaves. -/
def Kfed (w W : World) (s : Nat) (F : List Nat) (l : List UInt8) (e : Ending) (w' : World) : Prop := e = .returned (.int .i64 0) ∧ ∃ F', Ks w w' s F' l ∧ Stp F W F' w'
theorem Ks.feed (h : Ks w W s F l) (hT : Tabs w) (a : Option Addr) (n cap : Nat) (b : List UInt8) (hb : Bts W a b) (hn : n = b.length) (ha : a = none → cap = 0) (hl : l.length + b.length ≤ 90000) :
    Calls Tryz.prog 9 #[.pointer (some ⟨s, 0, none⟩), .slice a n cap] W (Kfed w W s F (l ++ b)) := by
  refine (feed_run h.sc h.stp.size a n cap b hb hn ha hl (h.tb hT)).mono ?_
  rintro e w' ⟨rfl, F', h1, h2⟩
  exact ⟨rfl, F', ⟨h1, h.stp.ofB h2 h.low⟩, h2⟩
/-- A new screen. -/
def Knew (w W : World) (e : Ending) (w' : World) : Prop := ∃ s F, e = .returned (.pointer (some ⟨s, 0, none⟩)) ∧ Ks w w' s F [] ∧ (∀ j ∈ F, W.heap.size ≤ j) ∧ Stp [] W [] w'
theorem knew_run (h : Stp [] w [] W) : Calls Tryz.prog 5 #[] W (Knew w W) := by
  refine (new_run W).mono ?_
  rintro e w' ⟨s, F, rfl, h1, h2⟩
  have hF : ∀ j ∈ F, W.heap.size ≤ j := fun j hj => (h1.lt.2.2 j hj).2
  refine ⟨s, F, rfl, ⟨?_, h.trans h2.none⟩, hF, h2.none⟩
  obtain ⟨X, bv, g1, g2, g3, g4⟩ := h1
  exact ⟨X, bv, g1, g2, g3, fun j hj => Nat.le_trans h.size (g4 j hj)⟩
end
/-- Bytes that a text has just laid: a block with a mark behind it. -/
theorem lit_bts (w : World) (L : List UInt8) : Bts (w.alloc (.cells (L.map bval).toArray 5 (L.length, L.length + 1))) (some ⟨w.heap.size, 0, none⟩) L := fun _ => ⟨w.heap.size, 0, rfl, fun i hi => by
  rw [Nat.zero_add, cell_of_row _ _ _ _ _ _ (heap_alloc_new w _), getElem!_pos L i hi]
  simp [hi]⟩
/-- Two screens' blocks. -/
def Ap (F G : List Nat) : Prop := ∀ j ∈ F, j ∉ G
theorem Ap.symm {F G : List Nat} (h : Ap F G) : Ap G F := fun j hj hk => h j hk hj
theorem Ap.fed {F F' G : List Nat} {W W' : World} (h : Ap F G) (hs : Stp F W F' W') (hG : ∀ j ∈ G, j < W.heap.size) : Ap F' G := fun j hj hk => by
  rcases hs.foot j hj with g | g
  · exact h j g hk
  · have := hG j hk
    omega
section
variable {W : World} {B s : Nat} {F : List Nat} {l : List UInt8}
set_option maxRecDepth 100000 in
theorem lrow_run (h : Scn W B s F l) (hl : l.length ≤ 90000) (i : Nat) (hi : i < (rowsL l).length) : Calls Tryz.prog 12 #[.pointer (some ⟨s, 0, none⟩), .int .i64 (i : Int)] W (Tells (.string (st (fl ((rowsL l).getD i [])))) W) := by
  have K := Lib.hid (row_run h hl i hi)
  clear h hi hl
  generalize st (fl ((rowsL l).getD i [])) = x at *
  go_enter Tryz.func12, Tryz.ntmps12
  go_wp2_with fail
  refine K.out.mono ?_
  rintro _ w1 ⟨rfl, s1⟩
  go_wp2_with fail
  go_ret
  exact ⟨rfl, s1⟩
end
theorem seen_lit1 {l : List UInt8} {c : UInt8} (hh : held l = []) (h1 : 32 ≤ c.toNat) (h2 : c.toNat ≤ 126) : seen (l ++ [c]) = { seen l with cur := laid (seen l).cur (seen l).col c.toNat, col := (seen l).col + 1 } ∧ held (l ++ [c]) = [] := by
  have hp : U.prB (c.toNat : Int) = true := by
    unfold U.prB
    simp only [decide_eq_true_eq]
    omega
  have he : enc8 c.toNat = [c] := by
    unfold enc8 U.enc
    rw [if_pos (by omega)]
    simp
  have := seen_chr hh hp
  rw [he] at this
  exact this
/-- The examples. -/
theorem ex_s : seen [97, 98, 99, 13, 120, 27, 91, 75] = ⟨[], [120], 1, 0, false, 0⟩ := by
  have h1 := seen_lit1 (l := []) (c := 97) rfl (by decide) (by decide)
  rw [seen_nil] at h1
  have h2 := seen_lit1 (c := 98) h1.2 (by decide) (by decide)
  rw [h1.1] at h2
  have h3 := seen_lit1 (c := 99) h2.2 (by decide) (by decide)
  rw [h2.1] at h3
  have h4 := seen_back0 h3.2
  rw [h3.1] at h4
  have h5 := seen_lit1 (c := 120) h4.2 (by decide) (by decide)
  rw [h4.1] at h5
  have h6 := seen_S1 h5.2
  rw [h5.1] at h6
  exact h6.1
theorem ex_t : seen [97, 98, 27, 91, 49, 68, 99] = ⟨[], [97, 99], 2, 0, false, 0⟩ := by
  have h1 := seen_lit1 (l := []) (c := 97) rfl (by decide) (by decide)
  rw [seen_nil] at h1
  have h2 := seen_lit1 (c := 98) h1.2 (by decide) (by decide)
  rw [h1.1] at h2
  have h3 := seen_SD (n := 1) h2.2 (by omega) (by omega)
  rw [h2.1] at h3
  have h4 := seen_lit1 (c := 99) h3.2 (by decide) (by decide)
  rw [h3.1] at h4
  have e : SD 1 = [27, 91, 49, 68] := by
    unfold SD
    rw [dig_lt (by omega)]
    rfl
  rw [e] at h4
  exact h4.1
set_option maxHeartbeats 2000000 in
set_option maxRecDepth 100000 in
theorem alive_run (w : World) (hT : Tabs w) : Calls Tryz.prog 6 #[] w (Tells (.bool true) w) := by
  have K1 := Lib.hid (knew_run (Stp.refl [] w))
  have HT : Aside (Tabs w) := hT
  clear hT
  go_enter Tryz.func6, Tryz.ntmps6
  go_wp2_with fail
  refine K1.out.mono ?_
  rintro _ w1 ⟨s, F, rfl, k1, hF, t1⟩
  have H1 : Aside (Ks w w1 s F []) := k1
  have K2 := Lib.hid (knew_run t1)
  clear K1 k1 hF t1
  go_wp2_with fail
  refine K2.out.mono ?_
  rintro _ w2 ⟨t, G, rfl, k2, hG, t2⟩
  have H2 : Aside (Ks w w2 s F [] ∧ Ks w w2 t G [] ∧ Ap F G) := ⟨H1.out.stays t2, k2, fun j hj hk => by have := H1.out.lt j hj; have := hG j hk; omega⟩
  clear K2 H1 k2 hG t2
  have hc1 := Go.Lib.run_convert_bytes_const (P := Tryz.prog) w2 27 5 #[.int .u8 97, .int .u8 98, .int .u8 99, .int .u8 13, .int .u8 120, .int .u8 27, .int .u8 91, .int .u8 75] 8 8 Tryz.underlying27 Tryz.underlying5
  have K3 : Hid (Calls Tryz.prog 9 #[.pointer (some ⟨s, 0, none⟩), .slice (some ⟨w2.heap.size, 0, none⟩) 8 8] (w2.alloc (.cells #[.int .u8 97, .int .u8 98, .int .u8 99, .int .u8 13, .int .u8 120, .int .u8 27, .int .u8 91, .int .u8 75] 5 (8, 9))) (Kfed w (w2.alloc (.cells #[.int .u8 97, .int .u8 98, .int .u8 99, .int .u8 13, .int .u8 120, .int .u8 27, .int .u8 91, .int .u8 75] 5 (8, 9))) s F [97, 98, 99, 13, 120, 27, 91, 75])) :=
    Lib.hid ((H2.out.1.stays (Stp.alloc [] w2 _)).feed HT.out _ 8 8 [97, 98, 99, 13, 120, 27, 91, 75] (lit_bts w2 [97, 98, 99, 13, 120, 27, 91, 75]) rfl (fun h => by cases h) (by simp))
  go_wp2_with fail
  refine K3.out.mono ?_
  rintro _ w3 ⟨rfl, F', k3, t3⟩
  have H3 : Aside (Ks w w3 s F' [97, 98, 99, 13, 120, 27, 91, 75] ∧ Ks w w3 t G [] ∧ Ap F' G) := by
    have g2 := H2.out.2.1.stays (Stp.alloc [] w2 (.cells #[.int .u8 97, .int .u8 98, .int .u8 99, .int .u8 13, .int .u8 120, .int .u8 27, .int .u8 91, .int .u8 75] 5 (8, 9)))
    exact ⟨k3, g2.other t3 H2.out.1.low H2.out.2.2.symm, H2.out.2.2.fed t3 g2.lt⟩
  clear K3 hc1 H2 k3 t3
  have hc1 := Go.Lib.run_convert_bytes_const (P := Tryz.prog) w3 27 5 #[.int .u8 97, .int .u8 98, .int .u8 27, .int .u8 91, .int .u8 49, .int .u8 68, .int .u8 99] 7 7 Tryz.underlying27 Tryz.underlying5
  have K3 : Hid (Calls Tryz.prog 9 #[.pointer (some ⟨t, 0, none⟩), .slice (some ⟨w3.heap.size, 0, none⟩) 7 7] (w3.alloc (.cells #[.int .u8 97, .int .u8 98, .int .u8 27, .int .u8 91, .int .u8 49, .int .u8 68, .int .u8 99] 5 (7, 8))) (Kfed w (w3.alloc (.cells #[.int .u8 97, .int .u8 98, .int .u8 27, .int .u8 91, .int .u8 49, .int .u8 68, .int .u8 99] 5 (7, 8))) t G [97, 98, 27, 91, 49, 68, 99])) :=
    Lib.hid ((H3.out.2.1.stays (Stp.alloc [] w3 _)).feed HT.out _ 7 7 [97, 98, 27, 91, 49, 68, 99] (lit_bts w3 [97, 98, 27, 91, 49, 68, 99]) rfl (fun h => by cases h) (by simp))
  go_wp2_with fail
  refine K3.out.mono ?_
  rintro _ w4 ⟨rfl, G', k4, t4⟩
  have H4 : Aside (Ks w w4 s F' [97, 98, 99, 13, 120, 27, 91, 75] ∧ Ks w w4 t G' [97, 98, 27, 91, 49, 68, 99]) := by
    have g2 := H3.out.1.stays (Stp.alloc [] w3 (.cells #[.int .u8 97, .int .u8 98, .int .u8 27, .int .u8 91, .int .u8 49, .int .u8 68, .int .u8 99] 5 (7, 8)))
    exact ⟨g2.other t4 H3.out.2.1.low H3.out.2.2, k4⟩
  clear K3 hc1 H3 k4 t4
  have K5 : Hid (Calls Tryz.prog 11 #[.pointer (some ⟨s, 0, none⟩)] w4 (Tells (.tuple #[.int .i64 0, .int .i64 1]) w4)) := Lib.hid (by
    have := place_run H4.out.1.sc (by simp)
    rw [ex_s] at this
    exact this)
  go_wp2_with fail
  refine K5.out.mono ?_
  rintro _ w5 ⟨rfl, s5⟩
  have H5 : Aside (Ks w w5 s F' [97, 98, 99, 13, 120, 27, 91, 75] ∧ Ks w w5 t G' [97, 98, 27, 91, 49, 68, 99]) := ⟨H4.out.1.stays s5, H4.out.2.stays s5⟩
  clear K5 H4 s5
  have es : rowsL [97, 98, 99, 13, 120, 27, 91, 75] = [[120]] := by unfold rowsL; rw [ex_s]; rfl
  have et : rowsL [97, 98, 27, 91, 49, 68, 99] = [[97, 99]] := by unfold rowsL; rw [ex_t]; rfl
  have K6 : Hid (Calls Tryz.prog 12 #[.pointer (some ⟨s, 0, none⟩), .int .i64 0] w5 (Tells (.string ⟨#[120]⟩) w5)) := Lib.hid (by
    have := lrow_run H5.out.1.sc (by simp) 0 (by rw [es]; simp)
    rw [es] at this
    exact this)
  clear es
  go_wp2_with fail
  refine K6.out.mono ?_
  rintro _ w6 ⟨rfl, s6⟩
  have H6 : Aside (Ks w w6 t G' [97, 98, 27, 91, 49, 68, 99]) := H5.out.2.stays s6
  clear K6 H5 s6
  have K7 : Hid (Calls Tryz.prog 12 #[.pointer (some ⟨t, 0, none⟩), .int .i64 0] w6 (Tells (.string ⟨#[97, 99]⟩) w6)) := Lib.hid (by
    have := lrow_run H6.out.sc (by simp) 0 (by rw [et]; simp)
    rw [et] at this
    exact this)
  clear et
  go_wp2_with fail
  refine K7.out.mono ?_
  rintro _ w7 ⟨rfl, s7⟩
  have H7 : Aside (Ks w w7 t G' [97, 98, 27, 91, 49, 68, 99]) := H6.out.stays s7
  clear K7 H6 s7
  have K8 : Hid (Calls Tryz.prog 13 #[.pointer (some ⟨t, 0, none⟩)] w7 (Tells (.int .i64 0) w7)) := Lib.hid (by
    have := odd_run H7.out.sc
    rw [ex_t] at this
    exact this)
  go_wp2_with fail
  refine K8.out.mono ?_
  rintro _ w8 ⟨rfl, s8⟩
  go_wp2_with fail
  go_ret
  exact ⟨rfl, H7.out.stp.trans s8⟩
end Go.Proofs.YtdaenaoagejgeaaGreatDoor
