/-
  alive of whispererlaw10: the document's examples.
-/
import Derived.Test.YthffjcacdcipeaaDoorSame
namespace Go.Proofs.YthffjcacdcipeaaDoor
open Go.RowKit Go.Lib
set_option linter.unusedVariables false

/-- A decoder that is new since w. -/
structure Kd (w W : World) (d b g : Nat) (l : List UInt8) (p : Bool) : Prop where
  dc : Dc W d b g 40 l p
  stp : Stp [] w [] W
  new : w.heap.size ≤ d ∧ w.heap.size ≤ b ∧ w.heap.size ≤ g
  hld : fst1 p l = none
section
variable {w W W' : World} {d b g : Nat} {l : List UInt8} {p : Bool}
theorem Kd.tabs (h : Kd w W d b g l p) (hT : U.Tabs w) : U.Tabs W := utabs_other hT h.stp (by simp)
theorem Kd.stays {F : List Nat} (h : Kd w W d b g l p) (hs : Stp [] W F W') : Kd w W' d b g l p := ⟨h.dc.stays hs, h.stp.trans hs.none, h.new, h.hld⟩
/-- A step in blocks that are new since w, and not the decoder's. -/
theorem Kd.other {F F' : List Nat} (h : Kd w W d b g l p) (hs : Stp F W F' W') (hF : ∀ k ∈ F, w.heap.size ≤ k ∧ k ≠ d ∧ k ≠ b ∧ k ≠ g) : Kd w W' d b g l p :=
  ⟨h.dc.other hs (fun e => (hF d e).2.1 rfl) (fun e => (hF b e).2.2.1 rfl) (fun e => (hF g e).2.2.2 rfl), h.stp.into hs (fun i hi => .inr (hF i hi).1) (by simp), h.new, h.hld⟩
/-- The decoder's own step. -/
theorem Kd.turn {F' : List Nat} {l' : List UInt8} {p' : Bool} (h : Kd w W d b g l p) (hs : Stp [d, b, g] W F' W') (hd : Dc W' d b g 40 l' p') (hh : fst1 p' l' = none) : Kd w W' d b g l' p' :=
  ⟨hd, h.stp.into hs (fun i hi => .inr (by have := h.new; simp at hi; omega)) (by simp), h.new, hh⟩
theorem Kd.fed {v : Value} {s : List UInt8} {ks : List Ky} (h : Kd w W d b g l p) (hk : TkAt W d b g 40 v ks (rd p s).h (rd p s).p W') : Kd w W' d b g (rd p s).h (rd p s).p := h.turn hk.stp hk.dc (rd_end p s)
theorem Kd.fin {v : Value} {ks : List Ky} (h : Kd w W d b g l p) (hk : TkAt W d b g 40 v ks [] p W') : Kd w W' d b g [] p := h.turn hk.stp hk.dc rfl
theorem Begun.kd {e : Ending} (h : Begun w e W) : ∃ d b g, e = .returned (.tuple #[.pointer (some ⟨b, 0, none⟩), .pointer (some ⟨d, 0, none⟩)]) ∧ Kd w W d b g [] false := by
  obtain ⟨d, b, g, he, hn, hd, hs⟩ := h
  exact ⟨d, b, g, he, hd, hs, hn, rfl⟩
/-- Feed at bytes that lie apart. -/
theorem feed_kd (h : Kd w W d b g l p) (hT : U.Tabs w) (a : Option Addr) (n cap : Nat) (s : List UInt8) (hb : Bts W a s) (hd : s ≠ [] → ∀ ad, a = some ad → ad.block ≠ d ∧ ad.block ≠ b ∧ ad.block ≠ g) (hn : n = s.length) (hm : n ≤ 800000) :
    Calls Tryd.prog 13 #[.pointer (some ⟨d, 0, none⟩), .slice a n cap] W (Fed W d b g 40 (rd p (l ++ s))) := feed_run h.dc (h.tabs hT) h.hld a n cap s hb hd hn hm
/-- Feed at bytes that have just been laid. -/
theorem feed_lit (h : Kd w W d b g l p) (hT : U.Tabs w) (s : List UInt8) (n : Nat) (hn : n = s.length) (hm : n ≤ 1000) :
    Calls Tryd.prog 13 #[.pointer (some ⟨d, 0, none⟩), .slice (some ⟨W.heap.size, 0, none⟩) n n] (W.alloc (.cells (s.map bval).toArray 5)) (Fed (W.alloc (.cells (s.map bval).toArray 5)) d b g 40 (rd p (l ++ s))) :=
  feed_kd (h.stays (Stp.alloc [] W _)) hT _ n n s (Blk.bts (C := s) (heap_alloc_new W _)) (fun _ ad e => by cases e; have := h.dc.lt; show W.heap.size ≠ d ∧ W.heap.size ≠ b ∧ W.heap.size ≠ g; omega) hn (by omega)
end
theorem ex1 : rd false ([] ++ [27, 91]) = ⟨[], [27, 91], false⟩ := by
  have h : (rd false [27, 91]).ks = [] ∧ (rd false [27, 91]).h = [27, 91] ∧ (rd false [27, 91]).p = false := by decide +kernel
  obtain ⟨h1, h2, h3⟩ := h
  show rd false [27, 91] = _
  generalize rd false [27, 91] = r at *
  cases r
  simp_all
theorem ex2 : rd false ([27, 91] ++ [68, 226, 130]) = ⟨[(4, 0)], [226, 130], false⟩ := by
  have h : (rd false [27, 91, 68, 226, 130]).ks = [(4, 0)] ∧ (rd false [27, 91, 68, 226, 130]).h = [226, 130] ∧ (rd false [27, 91, 68, 226, 130]).p = false := by decide +kernel
  obtain ⟨h1, h2, h3⟩ := h
  show rd false [27, 91, 68, 226, 130] = _
  generalize rd false [27, 91, 68, 226, 130] = r at *
  cases r
  simp_all
theorem ex3 : rd false ([226, 130] ++ [65]) = ⟨[(0, 65533), (0, 65)], [], false⟩ := by
  have h : (rd false [226, 130, 65]).ks = [(0, 65533), (0, 65)] ∧ (rd false [226, 130, 65]).h = [] ∧ (rd false [226, 130, 65]).p = false := by decide +kernel
  obtain ⟨h1, h2, h3⟩ := h
  show rd false [226, 130, 65] = _
  generalize rd false [226, 130, 65] = r at *
  cases r
  simp_all
theorem utabs_size {w : World} (h : U.Tabs w) : 3 ≤ w.heap.size := by
  have h0 := block_lt_of_cell (h.1 0 (by omega))
  have h1 := block_lt_of_cell (h.2 0 (by omega)).1
  simp at h0 h1
  omega
set_option maxHeartbeats 1000000 in
set_option maxRecDepth 100000 in
theorem alive_run (w : World) (hT : U.Tabs w) : Calls Tryd.prog 11 #[] w (Tells (.bool true) w) := by
  have KB := Lib.hid (begin_run w (utabs_size hT))
  have HT : Aside (U.Tabs w) := hT
  clear hT
  go_enter Tryd.func11, Tryd.ntmps11
  go_wp2_with fail
  refine KB.out.mono ?_
  intro e w1 hb
  obtain ⟨d, b, g, rfl, hk⟩ := hb.kd
  clear KB hb
  have H1 : Aside (Kd w w1 d b g [] false) := hk
  have K1 := feed_lit hk HT.out [27, 91] 2 rfl (by omega)
  rw [ex1] at K1
  have K1 : Hid (Calls Tryd.prog 13 #[.pointer (some ⟨d, 0, none⟩), .slice (some ⟨w1.heap.size, 0, none⟩) 2 2] (w1.alloc (.cells #[.int .u8 27, .int .u8 91] 5)) (Fed (w1.alloc (.cells #[.int .u8 27, .int .u8 91] 5)) d b g 40 ⟨[], [27, 91], false⟩)) := Lib.hid K1
  clear hk
  go_wp2_with fail
  refine K1.out.mono ?_
  rintro _ w2 ⟨v2, rfl, h2⟩
  have H2 : Aside (Kd w w2 d b g [27, 91] false) := (H1.out.stays (Stp.alloc [] w1 _)).turn h2.stp h2.dc (by rfl)
  obtain ⟨a2, c2, rfl, _, _, _, _⟩ := h2.row.form
  have K2 := feed_lit H2.out HT.out [68, 226, 130] 3 rfl (by omega)
  rw [ex2] at K2
  have K2 : Hid (Calls Tryd.prog 13 #[.pointer (some ⟨d, 0, none⟩), .slice (some ⟨w2.heap.size, 0, none⟩) 3 3] (w2.alloc (.cells #[.int .u8 68, .int .u8 226, .int .u8 130] 5)) (Fed (w2.alloc (.cells #[.int .u8 68, .int .u8 226, .int .u8 130] 5)) d b g 40 ⟨[(4, 0)], [226, 130], false⟩)) := Lib.hid K2
  clear K1 h2 H1
  go_wp2_with fail
  refine K2.out.mono ?_
  rintro _ w3 ⟨v3, rfl, h3⟩
  have H3 : Aside (Kd w w3 d b g [226, 130] false) := (H2.out.stays (Stp.alloc [] w2 _)).turn h3.stp h3.dc (by rfl)
  obtain ⟨a3, c3, rfl, hk3, _, _, hl3⟩ := h3.row.form
  obtain ⟨g3, o3, rfl, _, _⟩ := hk3.at (i := 0) (by simp)
  have HK3 : Aside (Kts w3 (some ⟨g3, o3, none⟩) [(4, 0)] ∧ g3 ≠ d ∧ g3 ≠ b ∧ g3 ≠ g) := ⟨hk3, by
    have h1 : (w2.alloc (.cells #[.int .u8 68, .int .u8 226, .int .u8 130] 5)).heap.size ≤ g3 := (hl3 ⟨g3, o3, none⟩ rfl).1
    rw [World.size_alloc] at h1
    have := H2.out.dc.lt
    omega⟩
  have K3 := feed_lit H3.out HT.out [65] 1 rfl (by omega)
  rw [ex3] at K3
  have K3 : Hid (Calls Tryd.prog 13 #[.pointer (some ⟨d, 0, none⟩), .slice (some ⟨w3.heap.size, 0, none⟩) 1 1] (w3.alloc (.cells #[.int .u8 65] 5)) (Fed (w3.alloc (.cells #[.int .u8 65] 5)) d b g 40 ⟨[(0, 65533), (0, 65)], [], false⟩)) := Lib.hid K3
  clear K2 h3 H2 hk3 hl3
  go_wp2_with fail
  refine K3.out.mono ?_
  rintro _ w4 ⟨v4, rfl, h4⟩
  have H4 : Aside (Kd w w4 d b g [] false) := (H3.out.stays (Stp.alloc [] w3 _)).turn h4.stp h4.dc (by rfl)
  obtain ⟨a4, c4, rfl, hk4, _, _, _⟩ := h4.row.form
  have HK4 : Aside (Kts w4 a4 [(0, 65533), (0, 65)]) := hk4
  have hk5 : Kts w4 (some ⟨g3, o3, none⟩) [(4, 0)] := (HK3.out.1.stays (Stp.alloc [] w3 _)).other h4.stp (fun _ ad e => by cases e; simp [HK3.out.2])
  obtain ⟨_, _, e5, d0, d1⟩ := hk5.at (i := 0) (by simp)
  cases e5
  simp only [List.getElem_cons_zero, Nat.zero_mul, Nat.add_zero] at d0 d1
  have KS : Hid (Calls Tryd.prog 15 #[.slice a4 2 c4, .slice (some ⟨w4.heap.size, 0, none⟩) 2 2] (w4.alloc (.cells #[.int .i64 0, .int .i64 65533, .int .i64 0, .int .i64 65] 41)) (Tells (.bool true) (w4.alloc (.cells #[.int .i64 0, .int .i64 65533, .int .i64 0, .int .i64 65] 41)))) := Lib.hid (by
    obtain ⟨a6, c6, e6, hk6, _, _, _⟩ := (KOwn.two w4 (0, 65533) (0, 65)).form
    cases e6
    have := same_run a4 (some ⟨w4.heap.size, 0, none⟩) 2 2 c4 2 [(0, 65533), (0, 65)] [(0, 65533), (0, 65)] (w4.alloc (.cells #[.int .i64 0, .int .i64 65533, .int .i64 0, .int .i64 65] 41)) (HK4.out.stays (Stp.alloc [] w4 _)) hk6 rfl rfl (by omega)
    simpa using this)
  clear K3 h4 H3 hk4 HK3 hk5
  go_wp2_with fail
  refine KS.out.mono ?_
  rintro _ w5 ⟨rfl, s5⟩
  have H5 : Aside (Stp [] w [] w5) := H4.out.stp.trans ((Stp.alloc [] w4 _).trans s5)
  clear KS s5
  go_wp2
  go_ret
  exact ⟨rfl, H5.out⟩
end Go.Proofs.YthffjcacdcipeaaDoor
