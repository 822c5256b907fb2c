/-
  The document: Line, where there is one.
-/
import Derived.Test.YthfiilhbgogoaaaGreatDoorRefL
import Derived.Deep.RegionHeld
namespace Go.Proofs.YthfiilhbgogoaaaGreatDoor
open Go.RowKit Go.Lib
set_option linter.unusedVariables false

/-- How it went, as bytes. -/
def okw (b : Bool) : List UInt8 := if b then [111, 107] else [102, 97, 105, 108]
theorem okw_len (b : Bool) : (okw b).length ≤ 4 := by cases b <;> decide
theorem went_tells (b : Bool) (w : World) : Calls Tryz.prog 34 #[.bool b] w (Tells (.string (st (okw b))) w) :=
  (went_run b w).mono fun e w' ⟨h1, h2⟩ => ⟨h1, by rw [h2]; exact Stp.refl [] w⟩
theorem hext_le (l : List UInt8) (h : l.length ≤ 100000) : (hext l).length ≤ 200001 := by
  unfold hext
  split
  · simp
  · show (hexs l).length ≤ 200001
    rw [hexs_len]
    omega
theorem rtext_at {f m t : Nat} (ho : Ok f m t) (w : World) : Calls Tryz.prog 35 #[.agg #[.int .u32 (f : Int), .int .u8 (m : Int), .int .u8 (t : Int)]] w (Tells (.string (st (text f m t))) w) := rtext_run ho w
set_option maxHeartbeats 4000000 in
set_option maxRecDepth 100000 in
theorem rline_ok0 (f m t : Nat) (a : Option Addr) (c : Nat) (ok : Bool) (ho : Ok f m t) (w : World) : Calls Tryz.prog 20 #[.agg #[.int .i64 0, .int .u32 (f : Int), .int .u8 (m : Int), .int .u8 (t : Int), .slice a 0 c, .int .i64 0, .bool ok]] w (Tells (.tuple #[.string (st ([103, 111, 116] ++ wks [.ok, .attrs] ⟨0, f, m, t, a, c, [], 0, ok⟩)), .int .i64 0]) w) := by
  have KD : Hid (∀ W, Calls Tryz.prog 33 #[.int .i64 0, .int .i64 10] W (Tells (.string (st (dig 10 0))) W)) := Lib.hid (fun W => dec_run 0 10 (.inl rfl) (by omega) W)
  have KW : Hid (∀ W, Calls Tryz.prog 34 #[.bool ok] W (Tells (.string (st (okw ok))) W)) := Lib.hid (fun W => went_tells ok W)
  have KT : Hid (∀ W, Calls Tryz.prog 35 #[.agg #[.int .u32 (f : Int), .int .u8 (m : Int), .int .u8 (t : Int)]] W (Tells (.string (st (text f m t))) W)) := Lib.hid (fun W => rtext_at ho W)
  have j0 : (⟨#[103, 111, 116, 32]⟩ : ByteArray) ++ st (okw ok) = st ([103, 111, 116, 32] ++ okw ok) := st_append ([103, 111, 116, 32]) (okw ok)
  have z0 := st_size ([103, 111, 116, 32] ++ okw ok)
  have j1 : st ([103, 111, 116, 32] ++ okw ok) ++ (⟨#[32]⟩ : ByteArray) = st (([103, 111, 116, 32] ++ okw ok) ++ [32]) := st_append ([103, 111, 116, 32] ++ okw ok) ([32])
  have z1 := st_size (([103, 111, 116, 32] ++ okw ok) ++ [32])
  have j2 : st (([103, 111, 116, 32] ++ okw ok) ++ [32]) ++ st (text f m t) = st ((([103, 111, 116, 32] ++ okw ok) ++ [32]) ++ text f m t) := st_append (([103, 111, 116, 32] ++ okw ok) ++ [32]) (text f m t)
  have z2 := st_size ((([103, 111, 116, 32] ++ okw ok) ++ [32]) ++ text f m t)
  have b_okw := okw_len ok
  have b_text := text_len ho
  have HV : Aside (st ([103, 111, 116] ++ wks [.ok, .attrs] ⟨0, f, m, t, a, c, [], 0, ok⟩) = st ((([103, 111, 116, 32] ++ okw ok) ++ [32]) ++ text f m t)) := by
    show st _ = st _
    congr 1
    simp [wks, wt, off, okw]
  generalize st ([103, 111, 116] ++ wks [.ok, .attrs] ⟨0, f, m, t, a, c, [], 0, ok⟩) = SL at *
  have HE : Aside (EAt ((w.alloc (.cells #[.int .i64 0, .int .u32 (f : Int), .int .u8 (m : Int), .int .u8 (t : Int), .slice a 0 c, .int .i64 0, .bool ok] 43)).alloc (.cells #[.int .u32 0, .int .u8 0, .int .u8 0] 41)) w.heap.size 0 f m t (.slice a 0 c) 0 ok ∧ Stp [] w [] ((w.alloc (.cells #[.int .i64 0, .int .u32 (f : Int), .int .u8 (m : Int), .int .u8 (t : Int), .slice a 0 c, .int .i64 0, .bool ok] 43)).alloc (.cells #[.int .u32 0, .int .u8 0, .int .u8 0] 41))) := ⟨EAt.other (heap_alloc_new w _) (Stp.alloc [] _ _) (by simp), (Stp.alloc [] w _).trans (Stp.alloc [] _ _)⟩
  go_enter Tryz.func20, Tryz.ntmps20
  go_wp2_with fail
  refine (KD.out _).mono ?_
  rintro _ w1 ⟨rfl, s1⟩
  have H1 : Aside (EAt w1 w.heap.size 0 f m t (.slice a 0 c) 0 ok ∧ Stp [] w [] w1) := ⟨HE.out.1.other s1 (by simp), HE.out.2.trans s1⟩
  clear s1 HE KD
  generalize w.heap.size = g at *
  have e0 := H1.out.1.c0
  simp only [List.length_append, List.length_cons, List.length_nil] at z0 z1 z2
  have s_okw := st_size (okw ok)
  have s_text := st_size (text f m t)
  have r0 : ¬ 9223372036854775807 < 4 + (st (okw ok)).size := by omega
  have r1 : ¬ 9223372036854775807 < (st ([103, 111, 116, 32] ++ okw ok)).size + 1 := by omega
  have r2 : ¬ 9223372036854775807 < (st (([103, 111, 116, 32] ++ okw ok) ++ [32])).size + (st (text f m t)).size := by omega
  generalize st ((([103, 111, 116, 32] ++ okw ok) ++ [32]) ++ text f m t) = S2 at *
  generalize st (([103, 111, 116, 32] ++ okw ok) ++ [32]) = S1 at *
  generalize st ([103, 111, 116, 32] ++ okw ok) = S0 at *
  generalize hq_okw : st (okw ok) = sokw at *
  generalize hq_text : st (text f m t) = stext at *
  clear z0 z1 z2 s_okw b_okw hq_okw s_text b_text hq_text
  have e6 := H1.out.1.c6
  have e1 := H1.out.1.c1
  have e2 := H1.out.1.c2
  have e3 := H1.out.1.c3
  have hk0 : Aside (∀ W, Stp [] w1 [] W → Stp [] w1 [] W ∧ W.cell? ⟨g, 6, none⟩ = some (.bool ok) ∧ W.cell? ⟨g, 1, none⟩ = some (.int .u32 (f : Int)) ∧ W.cell? ⟨g, 2, none⟩ = some (.int .u8 (m : Int)) ∧ W.cell? ⟨g, 3, none⟩ = some (.int .u8 (t : Int))) := fun W hs => have h := H1.out.1.other hs (by simp); ⟨hs, h.c6, h.c1, h.c2, h.c3⟩
  have hcur : Stp [] w1 [] w1.drew := Stp.drew _ _
  go_wp2_with fail
  go_region_held (fun W => Stp [] w1 [] W ∧ W.cell? ⟨g, 6, none⟩ = some (.bool ok) ∧ W.cell? ⟨g, 1, none⟩ = some (.int .u32 (f : Int)) ∧ W.cell? ⟨g, 2, none⟩ = some (.int .u8 (m : Int)) ∧ W.cell? ⟨g, 3, none⟩ = some (.int .u8 (t : Int))) (first | exact hk0.out _ hcur | assumption)
    (first
      | (go_at_call 34; refine (KW.out _).mono ?_; rintro _ x1 ⟨rfl, s1⟩; replace hcur := hcur.trans s1; clear s1)
      | (go_at_call 35; refine (KT.out _).mono ?_; rintro _ x2 ⟨rfl, s2⟩; replace hcur := hcur.trans s2; clear s2))
  all_goals
    go_wp2
    go_ret2
    exact ⟨by rw [HV.out]; rfl, H1.out.2.trans hcur⟩
set_option maxHeartbeats 4000000 in
set_option maxRecDepth 100000 in
theorem rline_ok1 (f m t : Nat) (a : Option Addr) (c : Nat) (ok : Bool) (ho : Ok f m t) (w : World) : Calls Tryz.prog 20 #[.agg #[.int .i64 1, .int .u32 (f : Int), .int .u8 (m : Int), .int .u8 (t : Int), .slice a 0 c, .int .i64 0, .bool ok]] w (Tells (.tuple #[.string (st ([119, 97, 115] ++ wks [.ok, .attrs] ⟨1, f, m, t, a, c, [], 0, ok⟩)), .int .i64 0]) w) := by
  have KD : Hid (∀ W, Calls Tryz.prog 33 #[.int .i64 0, .int .i64 10] W (Tells (.string (st (dig 10 0))) W)) := Lib.hid (fun W => dec_run 0 10 (.inl rfl) (by omega) W)
  have KW : Hid (∀ W, Calls Tryz.prog 34 #[.bool ok] W (Tells (.string (st (okw ok))) W)) := Lib.hid (fun W => went_tells ok W)
  have KT : Hid (∀ W, Calls Tryz.prog 35 #[.agg #[.int .u32 (f : Int), .int .u8 (m : Int), .int .u8 (t : Int)]] W (Tells (.string (st (text f m t))) W)) := Lib.hid (fun W => rtext_at ho W)
  have j0 : (⟨#[119, 97, 115, 32]⟩ : ByteArray) ++ st (okw ok) = st ([119, 97, 115, 32] ++ okw ok) := st_append ([119, 97, 115, 32]) (okw ok)
  have z0 := st_size ([119, 97, 115, 32] ++ okw ok)
  have j1 : st ([119, 97, 115, 32] ++ okw ok) ++ (⟨#[32]⟩ : ByteArray) = st (([119, 97, 115, 32] ++ okw ok) ++ [32]) := st_append ([119, 97, 115, 32] ++ okw ok) ([32])
  have z1 := st_size (([119, 97, 115, 32] ++ okw ok) ++ [32])
  have j2 : st (([119, 97, 115, 32] ++ okw ok) ++ [32]) ++ st (text f m t) = st ((([119, 97, 115, 32] ++ okw ok) ++ [32]) ++ text f m t) := st_append (([119, 97, 115, 32] ++ okw ok) ++ [32]) (text f m t)
  have z2 := st_size ((([119, 97, 115, 32] ++ okw ok) ++ [32]) ++ text f m t)
  have b_okw := okw_len ok
  have b_text := text_len ho
  have HV : Aside (st ([119, 97, 115] ++ wks [.ok, .attrs] ⟨1, f, m, t, a, c, [], 0, ok⟩) = st ((([119, 97, 115, 32] ++ okw ok) ++ [32]) ++ text f m t)) := by
    show st _ = st _
    congr 1
    simp [wks, wt, off, okw]
  generalize st ([119, 97, 115] ++ wks [.ok, .attrs] ⟨1, f, m, t, a, c, [], 0, ok⟩) = SL at *
  have HE : Aside (EAt ((w.alloc (.cells #[.int .i64 1, .int .u32 (f : Int), .int .u8 (m : Int), .int .u8 (t : Int), .slice a 0 c, .int .i64 0, .bool ok] 43)).alloc (.cells #[.int .u32 0, .int .u8 0, .int .u8 0] 41)) w.heap.size 1 f m t (.slice a 0 c) 0 ok ∧ Stp [] w [] ((w.alloc (.cells #[.int .i64 1, .int .u32 (f : Int), .int .u8 (m : Int), .int .u8 (t : Int), .slice a 0 c, .int .i64 0, .bool ok] 43)).alloc (.cells #[.int .u32 0, .int .u8 0, .int .u8 0] 41))) := ⟨EAt.other (heap_alloc_new w _) (Stp.alloc [] _ _) (by simp), (Stp.alloc [] w _).trans (Stp.alloc [] _ _)⟩
  go_enter Tryz.func20, Tryz.ntmps20
  go_wp2_with fail
  refine (KD.out _).mono ?_
  rintro _ w1 ⟨rfl, s1⟩
  have H1 : Aside (EAt w1 w.heap.size 1 f m t (.slice a 0 c) 0 ok ∧ Stp [] w [] w1) := ⟨HE.out.1.other s1 (by simp), HE.out.2.trans s1⟩
  clear s1 HE KD
  generalize w.heap.size = g at *
  have e0 := H1.out.1.c0
  simp only [List.length_append, List.length_cons, List.length_nil] at z0 z1 z2
  have s_okw := st_size (okw ok)
  have s_text := st_size (text f m t)
  have r0 : ¬ 9223372036854775807 < 4 + (st (okw ok)).size := by omega
  have r1 : ¬ 9223372036854775807 < (st ([119, 97, 115, 32] ++ okw ok)).size + 1 := by omega
  have r2 : ¬ 9223372036854775807 < (st (([119, 97, 115, 32] ++ okw ok) ++ [32])).size + (st (text f m t)).size := by omega
  generalize st ((([119, 97, 115, 32] ++ okw ok) ++ [32]) ++ text f m t) = S2 at *
  generalize st (([119, 97, 115, 32] ++ okw ok) ++ [32]) = S1 at *
  generalize st ([119, 97, 115, 32] ++ okw ok) = S0 at *
  generalize hq_okw : st (okw ok) = sokw at *
  generalize hq_text : st (text f m t) = stext at *
  clear z0 z1 z2 s_okw b_okw hq_okw s_text b_text hq_text
  have e6 := H1.out.1.c6
  have e1 := H1.out.1.c1
  have e2 := H1.out.1.c2
  have e3 := H1.out.1.c3
  have hk0 : Aside (∀ W, Stp [] w1 [] W → Stp [] w1 [] W ∧ W.cell? ⟨g, 6, none⟩ = some (.bool ok) ∧ W.cell? ⟨g, 1, none⟩ = some (.int .u32 (f : Int)) ∧ W.cell? ⟨g, 2, none⟩ = some (.int .u8 (m : Int)) ∧ W.cell? ⟨g, 3, none⟩ = some (.int .u8 (t : Int))) := fun W hs => have h := H1.out.1.other hs (by simp); ⟨hs, h.c6, h.c1, h.c2, h.c3⟩
  have hcur : Stp [] w1 [] w1.drew := Stp.drew _ _
  go_wp2_with fail
  go_region_held (fun W => Stp [] w1 [] W ∧ W.cell? ⟨g, 6, none⟩ = some (.bool ok) ∧ W.cell? ⟨g, 1, none⟩ = some (.int .u32 (f : Int)) ∧ W.cell? ⟨g, 2, none⟩ = some (.int .u8 (m : Int)) ∧ W.cell? ⟨g, 3, none⟩ = some (.int .u8 (t : Int))) (first | exact hk0.out _ hcur | assumption)
    (first
      | (go_at_call 34; refine (KW.out _).mono ?_; rintro _ x1 ⟨rfl, s1⟩; replace hcur := hcur.trans s1; clear s1)
      | (go_at_call 35; refine (KT.out _).mono ?_; rintro _ x2 ⟨rfl, s2⟩; replace hcur := hcur.trans s2; clear s2))
  all_goals
    go_wp2
    go_ret2
    exact ⟨by rw [HV.out]; rfl, H1.out.2.trans hcur⟩
set_option maxHeartbeats 4000000 in
set_option maxRecDepth 100000 in
theorem rline_ok2 (a : Option Addr) (c : Nat) (l : List UInt8) (n : Nat) (ok : Bool) (hl : l.length ≤ 100000) (hn : n < 9223372036854775808) (w : World) (hb : Bts w a l) : Calls Tryz.prog 20 #[.agg #[.int .i64 2, .int .u32 0, .int .u8 0, .int .u8 0, .slice a l.length c, .int .i64 (n : Int), .bool ok]] w (Tells (.tuple #[.string (st ([119, 114, 111, 116, 101] ++ wks [.ok, .data, .num] ⟨2, 0, 0, 0, a, c, l, (n : Int), ok⟩)), .int .i64 0]) w) := by
  have KD : Hid (∀ W, Calls Tryz.prog 33 #[.int .i64 (n : Int), .int .i64 10] W (Tells (.string (st (dig 10 n))) W)) := Lib.hid (fun W => dec_run n 10 (.inl rfl) (by omega) W)
  have KW : Hid (∀ W, Calls Tryz.prog 34 #[.bool ok] W (Tells (.string (st (okw ok))) W)) := Lib.hid (fun W => went_tells ok W)
  have j0 : (⟨#[119, 114, 111, 116, 101, 32]⟩ : ByteArray) ++ st (okw ok) = st ([119, 114, 111, 116, 101, 32] ++ okw ok) := st_append ([119, 114, 111, 116, 101, 32]) (okw ok)
  have z0 := st_size ([119, 114, 111, 116, 101, 32] ++ okw ok)
  have j1 : st ([119, 114, 111, 116, 101, 32] ++ okw ok) ++ (⟨#[32]⟩ : ByteArray) = st (([119, 114, 111, 116, 101, 32] ++ okw ok) ++ [32]) := st_append ([119, 114, 111, 116, 101, 32] ++ okw ok) ([32])
  have z1 := st_size (([119, 114, 111, 116, 101, 32] ++ okw ok) ++ [32])
  have j2 : st (([119, 114, 111, 116, 101, 32] ++ okw ok) ++ [32]) ++ st (hext l) = st ((([119, 114, 111, 116, 101, 32] ++ okw ok) ++ [32]) ++ hext l) := st_append (([119, 114, 111, 116, 101, 32] ++ okw ok) ++ [32]) (hext l)
  have z2 := st_size ((([119, 114, 111, 116, 101, 32] ++ okw ok) ++ [32]) ++ hext l)
  have j3 : st ((([119, 114, 111, 116, 101, 32] ++ okw ok) ++ [32]) ++ hext l) ++ (⟨#[32]⟩ : ByteArray) = st (((([119, 114, 111, 116, 101, 32] ++ okw ok) ++ [32]) ++ hext l) ++ [32]) := st_append ((([119, 114, 111, 116, 101, 32] ++ okw ok) ++ [32]) ++ hext l) ([32])
  have z3 := st_size (((([119, 114, 111, 116, 101, 32] ++ okw ok) ++ [32]) ++ hext l) ++ [32])
  have j4 : st (((([119, 114, 111, 116, 101, 32] ++ okw ok) ++ [32]) ++ hext l) ++ [32]) ++ st (dig 10 n) = st ((((([119, 114, 111, 116, 101, 32] ++ okw ok) ++ [32]) ++ hext l) ++ [32]) ++ dig 10 n) := st_append (((([119, 114, 111, 116, 101, 32] ++ okw ok) ++ [32]) ++ hext l) ++ [32]) (dig 10 n)
  have z4 := st_size ((((([119, 114, 111, 116, 101, 32] ++ okw ok) ++ [32]) ++ hext l) ++ [32]) ++ dig 10 n)
  have b_okw := okw_len ok
  have b_hext := hext_le l hl
  have b_dig := dig_len (b := 10) (by omega) 19 n (by omega)
  have HV : Aside (st ([119, 114, 111, 116, 101] ++ wks [.ok, .data, .num] ⟨2, 0, 0, 0, a, c, l, (n : Int), ok⟩) = st ((((([119, 114, 111, 116, 101, 32] ++ okw ok) ++ [32]) ++ hext l) ++ [32]) ++ dig 10 n)) := by
    show st _ = st _
    congr 1
    simp [wks, wt, off, okw]
  generalize st ([119, 114, 111, 116, 101] ++ wks [.ok, .data, .num] ⟨2, 0, 0, 0, a, c, l, (n : Int), ok⟩) = SL at *
  have HE : Aside (EAt ((w.alloc (.cells #[.int .i64 2, .int .u32 0, .int .u8 0, .int .u8 0, .slice a l.length c, .int .i64 (n : Int), .bool ok] 43)).alloc (.cells #[.int .u32 0, .int .u8 0, .int .u8 0] 41)) w.heap.size 2 0 0 0 (.slice a l.length c) (n : Int) ok ∧ Stp [] w [] ((w.alloc (.cells #[.int .i64 2, .int .u32 0, .int .u8 0, .int .u8 0, .slice a l.length c, .int .i64 (n : Int), .bool ok] 43)).alloc (.cells #[.int .u32 0, .int .u8 0, .int .u8 0] 41))) := ⟨EAt.other (heap_alloc_new w _) (Stp.alloc [] _ _) (by simp), (Stp.alloc [] w _).trans (Stp.alloc [] _ _)⟩
  have HBt : Aside (Bts w a l) := hb
  go_enter Tryz.func20, Tryz.ntmps20
  go_wp2_with fail
  refine (KD.out _).mono ?_
  rintro _ w1 ⟨rfl, s1⟩
  have H1 : Aside (EAt w1 w.heap.size 2 0 0 0 (.slice a l.length c) (n : Int) ok ∧ Stp [] w [] w1) := ⟨HE.out.1.other s1 (by simp), HE.out.2.trans s1⟩
  clear s1 HE KD
  generalize w.heap.size = g at *
  have e0 := H1.out.1.c0
  simp only [List.length_append, List.length_cons, List.length_nil] at z0 z1 z2 z3 z4
  have s_okw := st_size (okw ok)
  have s_hext := st_size (hext l)
  have s_dig := st_size (dig 10 n)
  have r0 : ¬ 9223372036854775807 < 6 + (st (okw ok)).size := by omega
  have r1 : ¬ 9223372036854775807 < (st ([119, 114, 111, 116, 101, 32] ++ okw ok)).size + 1 := by omega
  have r2 : ¬ 9223372036854775807 < (st (([119, 114, 111, 116, 101, 32] ++ okw ok) ++ [32])).size + (st (hext l)).size := by omega
  have r3 : ¬ 9223372036854775807 < (st ((([119, 114, 111, 116, 101, 32] ++ okw ok) ++ [32]) ++ hext l)).size + 1 := by omega
  have r4 : ¬ 9223372036854775807 < (st (((([119, 114, 111, 116, 101, 32] ++ okw ok) ++ [32]) ++ hext l) ++ [32])).size + (st (dig 10 n)).size := by omega
  generalize st ((((([119, 114, 111, 116, 101, 32] ++ okw ok) ++ [32]) ++ hext l) ++ [32]) ++ dig 10 n) = S4 at *
  generalize st (((([119, 114, 111, 116, 101, 32] ++ okw ok) ++ [32]) ++ hext l) ++ [32]) = S3 at *
  generalize st ((([119, 114, 111, 116, 101, 32] ++ okw ok) ++ [32]) ++ hext l) = S2 at *
  generalize st (([119, 114, 111, 116, 101, 32] ++ okw ok) ++ [32]) = S1 at *
  generalize st ([119, 114, 111, 116, 101, 32] ++ okw ok) = S0 at *
  generalize hq_okw : st (okw ok) = sokw at *
  generalize hq_hext : st (hext l) = shext at *
  generalize hq_dig : st (dig 10 n) = sdig at *
  clear z0 z1 z2 z3 z4 s_okw b_okw hq_okw s_hext b_hext s_dig b_dig hq_dig
  have e6 := H1.out.1.c6
  have e4 := H1.out.1.c4
  have KH : Hid (∀ W, Stp [] w1 [] W → Calls Tryz.prog 36 #[.slice a l.length c] W (Tells (.string shext) W)) := Lib.hid (fun W hs => by rw [← hq_hext]; exact rhex_run a c l hl W ((HBt.out.stays H1.out.2).stays hs))
  have hk0 : Aside (∀ W, Stp [] w1 [] W → Stp [] w1 [] W ∧ W.cell? ⟨g, 6, none⟩ = some (.bool ok) ∧ W.cell? ⟨g, 4, none⟩ = some (.slice a l.length c)) := fun W hs => have h := H1.out.1.other hs (by simp); ⟨hs, h.c6, h.c4⟩
  have hcur : Stp [] w1 [] w1.drew := Stp.drew _ _
  go_wp2_with fail
  go_region_held (fun W => Stp [] w1 [] W ∧ W.cell? ⟨g, 6, none⟩ = some (.bool ok) ∧ W.cell? ⟨g, 4, none⟩ = some (.slice a l.length c)) (first | exact hk0.out _ hcur | assumption)
    (first
      | (go_at_call 34; refine (KW.out _).mono ?_; rintro _ x1 ⟨rfl, s1⟩; replace hcur := hcur.trans s1; clear s1)
      | (go_at_call 36; refine (KH.out _ hcur).mono ?_; rintro _ x2 ⟨rfl, s2⟩; replace hcur := hcur.trans s2; clear s2))
  all_goals
    go_wp2
    go_ret2
    exact ⟨by rw [HV.out]; rfl, H1.out.2.trans hcur⟩
set_option maxHeartbeats 4000000 in
set_option maxRecDepth 100000 in
theorem rline_ok3 (a : Option Addr) (c : Nat) (n : Nat) (ok : Bool) (hn : n < 9223372036854775808) (w : World) : Calls Tryz.prog 20 #[.agg #[.int .i64 3, .int .u32 0, .int .u8 0, .int .u8 0, .slice a 0 c, .int .i64 (n : Int), .bool ok]] w (Tells (.tuple #[.string (st ([114, 101, 97, 100] ++ wks [.ok, .num] ⟨3, 0, 0, 0, a, c, [], (n : Int), ok⟩)), .int .i64 0]) w) := by
  have KD : Hid (∀ W, Calls Tryz.prog 33 #[.int .i64 (n : Int), .int .i64 10] W (Tells (.string (st (dig 10 n))) W)) := Lib.hid (fun W => dec_run n 10 (.inl rfl) (by omega) W)
  have KW : Hid (∀ W, Calls Tryz.prog 34 #[.bool ok] W (Tells (.string (st (okw ok))) W)) := Lib.hid (fun W => went_tells ok W)
  have j0 : (⟨#[114, 101, 97, 100, 32]⟩ : ByteArray) ++ st (okw ok) = st ([114, 101, 97, 100, 32] ++ okw ok) := st_append ([114, 101, 97, 100, 32]) (okw ok)
  have z0 := st_size ([114, 101, 97, 100, 32] ++ okw ok)
  have j1 : st ([114, 101, 97, 100, 32] ++ okw ok) ++ (⟨#[32]⟩ : ByteArray) = st (([114, 101, 97, 100, 32] ++ okw ok) ++ [32]) := st_append ([114, 101, 97, 100, 32] ++ okw ok) ([32])
  have z1 := st_size (([114, 101, 97, 100, 32] ++ okw ok) ++ [32])
  have j2 : st (([114, 101, 97, 100, 32] ++ okw ok) ++ [32]) ++ st (dig 10 n) = st ((([114, 101, 97, 100, 32] ++ okw ok) ++ [32]) ++ dig 10 n) := st_append (([114, 101, 97, 100, 32] ++ okw ok) ++ [32]) (dig 10 n)
  have z2 := st_size ((([114, 101, 97, 100, 32] ++ okw ok) ++ [32]) ++ dig 10 n)
  have b_okw := okw_len ok
  have b_dig := dig_len (b := 10) (by omega) 19 n (by omega)
  have HV : Aside (st ([114, 101, 97, 100] ++ wks [.ok, .num] ⟨3, 0, 0, 0, a, c, [], (n : Int), ok⟩) = st ((([114, 101, 97, 100, 32] ++ okw ok) ++ [32]) ++ dig 10 n)) := by
    show st _ = st _
    congr 1
    simp [wks, wt, off, okw]
  generalize st ([114, 101, 97, 100] ++ wks [.ok, .num] ⟨3, 0, 0, 0, a, c, [], (n : Int), ok⟩) = SL at *
  have HE : Aside (EAt ((w.alloc (.cells #[.int .i64 3, .int .u32 0, .int .u8 0, .int .u8 0, .slice a 0 c, .int .i64 (n : Int), .bool ok] 43)).alloc (.cells #[.int .u32 0, .int .u8 0, .int .u8 0] 41)) w.heap.size 3 0 0 0 (.slice a 0 c) (n : Int) ok ∧ Stp [] w [] ((w.alloc (.cells #[.int .i64 3, .int .u32 0, .int .u8 0, .int .u8 0, .slice a 0 c, .int .i64 (n : Int), .bool ok] 43)).alloc (.cells #[.int .u32 0, .int .u8 0, .int .u8 0] 41))) := ⟨EAt.other (heap_alloc_new w _) (Stp.alloc [] _ _) (by simp), (Stp.alloc [] w _).trans (Stp.alloc [] _ _)⟩
  go_enter Tryz.func20, Tryz.ntmps20
  go_wp2_with fail
  refine (KD.out _).mono ?_
  rintro _ w1 ⟨rfl, s1⟩
  have H1 : Aside (EAt w1 w.heap.size 3 0 0 0 (.slice a 0 c) (n : Int) ok ∧ Stp [] w [] w1) := ⟨HE.out.1.other s1 (by simp), HE.out.2.trans s1⟩
  clear s1 HE KD
  generalize w.heap.size = g at *
  have e0 := H1.out.1.c0
  simp only [List.length_append, List.length_cons, List.length_nil] at z0 z1 z2
  have s_okw := st_size (okw ok)
  have s_dig := st_size (dig 10 n)
  have r0 : ¬ 9223372036854775807 < 5 + (st (okw ok)).size := by omega
  have r1 : ¬ 9223372036854775807 < (st ([114, 101, 97, 100, 32] ++ okw ok)).size + 1 := by omega
  have r2 : ¬ 9223372036854775807 < (st (([114, 101, 97, 100, 32] ++ okw ok) ++ [32])).size + (st (dig 10 n)).size := by omega
  generalize st ((([114, 101, 97, 100, 32] ++ okw ok) ++ [32]) ++ dig 10 n) = S2 at *
  generalize st (([114, 101, 97, 100, 32] ++ okw ok) ++ [32]) = S1 at *
  generalize st ([114, 101, 97, 100, 32] ++ okw ok) = S0 at *
  generalize hq_okw : st (okw ok) = sokw at *
  generalize hq_dig : st (dig 10 n) = sdig at *
  clear z0 z1 z2 s_okw b_okw hq_okw s_dig b_dig hq_dig
  have e6 := H1.out.1.c6
  go_wp2_with fail
  refine (KW.out _).mono ?_
  rintro _ w2 ⟨rfl, s2⟩
  go_wp2
  go_ret2
  exact ⟨by rw [HV.out]; rfl, H1.out.2.trans s2⟩
set_option maxHeartbeats 4000000 in
set_option maxRecDepth 100000 in
theorem rline_ok4 (a : Option Addr) (c : Nat) (n : Nat) (hn : n < 9223372036854775808) (w : World) : Calls Tryz.prog 20 #[.agg #[.int .i64 4, .int .u32 0, .int .u8 0, .int .u8 0, .slice a 0 c, .int .i64 (n : Int), .bool false]] w (Tells (.tuple #[.string (st ([115, 105, 103, 110, 97, 108] ++ wks [.num] ⟨4, 0, 0, 0, a, c, [], (n : Int), false⟩)), .int .i64 0]) w) := by
  have KD : Hid (∀ W, Calls Tryz.prog 33 #[.int .i64 (n : Int), .int .i64 10] W (Tells (.string (st (dig 10 n))) W)) := Lib.hid (fun W => dec_run n 10 (.inl rfl) (by omega) W)
  have j0 : (⟨#[115, 105, 103, 110, 97, 108, 32]⟩ : ByteArray) ++ st (dig 10 n) = st ([115, 105, 103, 110, 97, 108, 32] ++ dig 10 n) := st_append ([115, 105, 103, 110, 97, 108, 32]) (dig 10 n)
  have z0 := st_size ([115, 105, 103, 110, 97, 108, 32] ++ dig 10 n)
  have b_dig := dig_len (b := 10) (by omega) 19 n (by omega)
  have HV : Aside (st ([115, 105, 103, 110, 97, 108] ++ wks [.num] ⟨4, 0, 0, 0, a, c, [], (n : Int), false⟩) = st ([115, 105, 103, 110, 97, 108, 32] ++ dig 10 n)) := by
    show st _ = st _
    congr 1
    simp [wks, wt]
  generalize st ([115, 105, 103, 110, 97, 108] ++ wks [.num] ⟨4, 0, 0, 0, a, c, [], (n : Int), false⟩) = SL at *
  have HE : Aside (EAt ((w.alloc (.cells #[.int .i64 4, .int .u32 0, .int .u8 0, .int .u8 0, .slice a 0 c, .int .i64 (n : Int), .bool false] 43)).alloc (.cells #[.int .u32 0, .int .u8 0, .int .u8 0] 41)) w.heap.size 4 0 0 0 (.slice a 0 c) (n : Int) false ∧ Stp [] w [] ((w.alloc (.cells #[.int .i64 4, .int .u32 0, .int .u8 0, .int .u8 0, .slice a 0 c, .int .i64 (n : Int), .bool false] 43)).alloc (.cells #[.int .u32 0, .int .u8 0, .int .u8 0] 41))) := ⟨EAt.other (heap_alloc_new w _) (Stp.alloc [] _ _) (by simp), (Stp.alloc [] w _).trans (Stp.alloc [] _ _)⟩
  go_enter Tryz.func20, Tryz.ntmps20
  go_wp2_with fail
  refine (KD.out _).mono ?_
  rintro _ w1 ⟨rfl, s1⟩
  have H1 : Aside (EAt w1 w.heap.size 4 0 0 0 (.slice a 0 c) (n : Int) false ∧ Stp [] w [] w1) := ⟨HE.out.1.other s1 (by simp), HE.out.2.trans s1⟩
  clear s1 HE KD
  generalize w.heap.size = g at *
  have e0 := H1.out.1.c0
  simp only [List.length_append, List.length_cons, List.length_nil] at z0
  have s_dig := st_size (dig 10 n)
  have r0 : ¬ 9223372036854775807 < 7 + (st (dig 10 n)).size := by omega
  generalize st ([115, 105, 103, 110, 97, 108, 32] ++ dig 10 n) = S0 at *
  generalize hq_dig : st (dig 10 n) = sdig at *
  clear z0 s_dig b_dig hq_dig
  go_wp2
  go_ret2
  exact ⟨by rw [HV.out]; rfl, H1.out.2⟩
set_option maxHeartbeats 4000000 in
set_option maxRecDepth 100000 in
theorem rline_ok5 (a : Option Addr) (c : Nat) (w : World) : Calls Tryz.prog 20 #[.agg #[.int .i64 5, .int .u32 0, .int .u8 0, .int .u8 0, .slice a 0 c, .int .i64 0, .bool false]] w (Tells (.tuple #[.string (st ([101, 110, 100] ++ wks [] ⟨5, 0, 0, 0, a, c, [], 0, false⟩)), .int .i64 0]) w) := by
  have KD : Hid (∀ W, Calls Tryz.prog 33 #[.int .i64 0, .int .i64 10] W (Tells (.string (st (dig 10 0))) W)) := Lib.hid (fun W => dec_run 0 10 (.inl rfl) (by omega) W)
  have HE : Aside (EAt ((w.alloc (.cells #[.int .i64 5, .int .u32 0, .int .u8 0, .int .u8 0, .slice a 0 c, .int .i64 0, .bool false] 43)).alloc (.cells #[.int .u32 0, .int .u8 0, .int .u8 0] 41)) w.heap.size 5 0 0 0 (.slice a 0 c) 0 false ∧ Stp [] w [] ((w.alloc (.cells #[.int .i64 5, .int .u32 0, .int .u8 0, .int .u8 0, .slice a 0 c, .int .i64 0, .bool false] 43)).alloc (.cells #[.int .u32 0, .int .u8 0, .int .u8 0] 41))) := ⟨EAt.other (heap_alloc_new w _) (Stp.alloc [] _ _) (by simp), (Stp.alloc [] w _).trans (Stp.alloc [] _ _)⟩
  go_enter Tryz.func20, Tryz.ntmps20
  go_wp2_with fail
  refine (KD.out _).mono ?_
  rintro _ w1 ⟨rfl, s1⟩
  have H1 : Aside (EAt w1 w.heap.size 5 0 0 0 (.slice a 0 c) 0 false ∧ Stp [] w [] w1) := ⟨HE.out.1.other s1 (by simp), HE.out.2.trans s1⟩
  clear s1 HE KD
  generalize w.heap.size = g at *
  have e0 := H1.out.1.c0
  go_wp2
  go_ret2
  exact ⟨rfl, H1.out.2⟩
set_option maxHeartbeats 4000000 in
set_option maxRecDepth 100000 in
theorem rline_ok6 (a : Option Addr) (c : Nat) (w : World) : Calls Tryz.prog 20 #[.agg #[.int .i64 6, .int .u32 0, .int .u8 0, .int .u8 0, .slice a 0 c, .int .i64 0, .bool false]] w (Tells (.tuple #[.string (st ([104, 105, 115, 116, 111, 114, 121] ++ wks [] ⟨6, 0, 0, 0, a, c, [], 0, false⟩)), .int .i64 0]) w) := by
  have KD : Hid (∀ W, Calls Tryz.prog 33 #[.int .i64 0, .int .i64 10] W (Tells (.string (st (dig 10 0))) W)) := Lib.hid (fun W => dec_run 0 10 (.inl rfl) (by omega) W)
  have HE : Aside (EAt ((w.alloc (.cells #[.int .i64 6, .int .u32 0, .int .u8 0, .int .u8 0, .slice a 0 c, .int .i64 0, .bool false] 43)).alloc (.cells #[.int .u32 0, .int .u8 0, .int .u8 0] 41)) w.heap.size 6 0 0 0 (.slice a 0 c) 0 false ∧ Stp [] w [] ((w.alloc (.cells #[.int .i64 6, .int .u32 0, .int .u8 0, .int .u8 0, .slice a 0 c, .int .i64 0, .bool false] 43)).alloc (.cells #[.int .u32 0, .int .u8 0, .int .u8 0] 41))) := ⟨EAt.other (heap_alloc_new w _) (Stp.alloc [] _ _) (by simp), (Stp.alloc [] w _).trans (Stp.alloc [] _ _)⟩
  go_enter Tryz.func20, Tryz.ntmps20
  go_wp2_with fail
  refine (KD.out _).mono ?_
  rintro _ w1 ⟨rfl, s1⟩
  have H1 : Aside (EAt w1 w.heap.size 6 0 0 0 (.slice a 0 c) 0 false ∧ Stp [] w [] w1) := ⟨HE.out.1.other s1 (by simp), HE.out.2.trans s1⟩
  clear s1 HE KD
  generalize w.heap.size = g at *
  have e0 := H1.out.1.c0
  go_wp2
  go_ret2
  exact ⟨rfl, H1.out.2⟩
end Go.Proofs.YthfiilhbgogoaaaGreatDoor
