/-
  The walk of ViewSigns.
-/
import Derived.Test.YtjenbhaaahpliaaDoorAlV
namespace Go.Proofs.YtjenbhaaahpliaaDoor
open Go.RowKit Go.Lib
set_option linter.unusedVariables false

/-- Bytes that a text has laid: a block with a mark behind it. -/
def Lb (W : World) (g : Nat) (zs : List Int) : Prop := W.heap[g]? = some (.cells (zs.map (Value.int .u8)).toArray 5 (zs.length, zs.length + 1))
def zl (L : List UInt8) : List Int := L.map fun x => (x.toNat : Int)
theorem zl_len (L : List UInt8) : (zl L).length = L.length := by simp [zl]
theorem Lb.lt {W : World} {g : Nat} {zs : List Int} (h : Lb W g zs) : g < W.heap.size := (Array.getElem?_eq_some_iff.1 h).1
theorem Lb.other {W W' : World} {g : Nat} {zs : List Int} {F F' : List Nat} (h : Lb W g zs) (hs : Stp F W F' W') (hF : g ∉ F) : Lb W' g zs := (hs.block g h.lt hF).trans h
theorem Lb.cell {W : World} {g : Nat} {zs : List Int} (h : Lb W g zs) {i : Nat} (hi : i < zs.length) : W.cell? ⟨g, i, none⟩ = some (.int .u8 (zs[i]'hi)) := by
  rw [cell_of_row W g i _ _ _ h]
  simp [hi]
theorem Lb.fz {W : World} {g : Nat} {zs : List Int} (h : Lb W g zs) {i : Nat} (hi : i < zs.length) : W.frozen? ⟨g, i, none⟩ = false := by
  have h' : W.heap[g]? = some (.cells (zs.map (Value.int .u8)).toArray 5 (zs.length, zs.length + 1)) := h
  simp [World.frozen?, h']
  omega
theorem Lb.set {W : World} {g : Nat} {zs : List Int} (h : Lb W g zs) (i : Nat) (z : Int) : Lb (W.setCell ⟨g, i, none⟩ (.int .u8 z)) g (zs.set i z) := by
  have := Go.Joins.block_setCell (i := i) h (.int .u8 z)
  unfold Lb
  rw [this, List.length_set, List.map_set]
  simp
theorem Lb.bts {W : World} {g : Nat} {L : List UInt8} (h : Lb W g (zl L)) : Bts W (some ⟨g, 0, none⟩) L := fun _ => ⟨g, 0, rfl, fun i hi => by
  rw [Nat.zero_add, h.cell (by rw [zl_len]; exact hi), getElem!_pos L i hi]
  simp [zl, bval]⟩
/-- What a sign's call answers: its bytes in one new block. -/
def Sign (L : List UInt8) (w : World) (e : Ending) (w' : World) : Prop := e = .returned (.slice (some ⟨w.heap.size, 0, none⟩) L.length L.length) ∧ w' = w.alloc (.cells ((zl L).map (Value.int .u8)).toArray 5 (L.length, L.length + 1))
set_option maxRecDepth 100000 in
theorem bell_run (w : World) : Calls Tryd.prog 17 #[] w (Sign [7] w) := by
  have hc := Go.Lib.run_convert_bytes_const (P := Tryd.prog) w 25 5 #[.int .u8 7] 1 1 Tryd.underlying25 Tryd.underlying5
  go_enter Tryd.func17, Tryd.ntmps17
  go_wp2
  go_ret
  exact ⟨rfl, rfl⟩
set_option maxRecDepth 100000 in
theorem start_run (w : World) : Calls Tryd.prog 18 #[] w (Sign [27, 91, 63, 50, 48, 48, 52, 104] w) := by
  have hc := Go.Lib.run_convert_bytes_const (P := Tryd.prog) w 25 5 #[.int .u8 27, .int .u8 91, .int .u8 63, .int .u8 50, .int .u8 48, .int .u8 48, .int .u8 52, .int .u8 104] 8 8 Tryd.underlying25 Tryd.underlying5
  go_enter Tryd.func18, Tryd.ntmps18
  go_wp2
  go_ret
  exact ⟨rfl, rfl⟩
set_option maxRecDepth 100000 in
theorem stop_run (w : World) : Calls Tryd.prog 19 #[] w (Sign [27, 91, 63, 50, 48, 48, 52, 108] w) := by
  have hc := Go.Lib.run_convert_bytes_const (P := Tryd.prog) w 25 5 #[.int .u8 27, .int .u8 91, .int .u8 63, .int .u8 50, .int .u8 48, .int .u8 48, .int .u8 52, .int .u8 108] 8 8 Tryd.underlying25 Tryd.underlying5
  go_enter Tryd.func19, Tryd.ntmps19
  go_wp2
  go_ret
  exact ⟨rfl, rfl⟩
set_option maxRecDepth 100000 in
theorem close_run (w : World) : Calls Tryd.prog 20 #[] w (Sign [13, 10] w) := by
  have hc := Go.Lib.run_convert_bytes_const (P := Tryd.prog) w 25 5 #[.int .u8 13, .int .u8 10] 2 2 Tryd.underlying25 Tryd.underlying5
  go_enter Tryd.func20, Tryd.ntmps20
  go_wp2
  go_ret
  exact ⟨rfl, rfl⟩
/-- The four signs. -/
def sgL : List (List UInt8) := [[7], [27, 91, 63, 50, 48, 48, 52, 104], [27, 91, 63, 50, 48, 48, 52, 108], [13, 10]]
/-- The row of the four, from the place j on as they were made. -/
structure Sg (W : World) (B j : Nat) : Prop where
  bl : ∀ (i : Nat) L, j ≤ i → sgL[i]? = some L → Lb W (B + i) (zl L)
  c0 : ∀ (i : Nat) L, sgL[i]? = some L → W.cell? ⟨B + 4, i * 2, none⟩ = some (.slice (some ⟨B + i, 0, none⟩) L.length L.length)
  c1 : ∀ (i : Nat) L, sgL[i]? = some L → W.cell? ⟨B + 4, i * 2 + 1, none⟩ = some (.string (st L))
  lt : B + 4 < W.heap.size
theorem sg_new (w : World) : Sg (((((w.alloc (.cells ((zl [7]).map (Value.int .u8)).toArray 5 (1, 2))).alloc (.cells ((zl [27, 91, 63, 50, 48, 48, 52, 104]).map (Value.int .u8)).toArray 5 (8, 9))).alloc (.cells ((zl [27, 91, 63, 50, 48, 48, 52, 108]).map (Value.int .u8)).toArray 5 (8, 9))).alloc (.cells ((zl [13, 10]).map (Value.int .u8)).toArray 5 (2, 3))).alloc
    (.cells #[.slice (some ⟨w.heap.size, 0, none⟩) 1 1, .string ⟨#[7]⟩, .slice (some ⟨w.heap.size + 1, 0, none⟩) 8 8, .string ⟨#[27, 91, 63, 50, 48, 48, 52, 104]⟩, .slice (some ⟨w.heap.size + 1 + 1, 0, none⟩) 8 8, .string ⟨#[27, 91, 63, 50, 48, 48, 52, 108]⟩, .slice (some ⟨w.heap.size + 1 + 1 + 1, 0, none⟩) 2 2, .string ⟨#[13, 10]⟩] 37)) w.heap.size 0 := by
  obtain ⟨W1, h1⟩ : ∃ W, W = w.alloc (.cells ((zl [7]).map (Value.int .u8)).toArray 5 (1, 2)) := ⟨_, rfl⟩
  obtain ⟨W2, h2⟩ : ∃ W, W = W1.alloc (.cells ((zl [27, 91, 63, 50, 48, 48, 52, 104]).map (Value.int .u8)).toArray 5 (8, 9)) := ⟨_, rfl⟩
  obtain ⟨W3, h3⟩ : ∃ W, W = W2.alloc (.cells ((zl [27, 91, 63, 50, 48, 48, 52, 108]).map (Value.int .u8)).toArray 5 (8, 9)) := ⟨_, rfl⟩
  obtain ⟨W4, h4⟩ : ∃ W, W = W3.alloc (.cells ((zl [13, 10]).map (Value.int .u8)).toArray 5 (2, 3)) := ⟨_, rfl⟩
  have z1 : W1.heap.size = w.heap.size + 1 := by rw [h1]; simp
  have z2 : W2.heap.size = w.heap.size + 2 := by rw [h2]; simp [z1]
  have z3 : W3.heap.size = w.heap.size + 3 := by rw [h3]; simp [z2]
  have z4 : W4.heap.size = w.heap.size + 4 := by rw [h4]; simp [z3]
  have b0 : Lb W1 w.heap.size (zl [7]) := by rw [h1]; exact heap_alloc_new _ _
  have b1 : Lb W2 (w.heap.size + 1) (zl [27, 91, 63, 50, 48, 48, 52, 104]) := by rw [h2, ← z1]; exact heap_alloc_new _ _
  have b2 : Lb W3 (w.heap.size + 2) (zl [27, 91, 63, 50, 48, 48, 52, 108]) := by rw [h3, ← z2]; exact heap_alloc_new _ _
  have b3 : Lb W4 (w.heap.size + 3) (zl [13, 10]) := by rw [h4, ← z3]; exact heap_alloc_new _ _
  have s2 : Stp [] W1 [] W2 := by rw [h2]; exact Stp.alloc _ _ _
  have s3 : Stp [] W2 [] W3 := by rw [h3]; exact Stp.alloc _ _ _
  have s4 : Stp [] W3 [] W4 := by rw [h4]; exact Stp.alloc _ _ _
  rw [← h1, ← h2, ← h3, ← h4]
  generalize hX : (#[Value.slice (some ⟨w.heap.size, 0, none⟩) 1 1, .string ⟨#[7]⟩, .slice (some ⟨w.heap.size + 1, 0, none⟩) 8 8, .string ⟨#[27, 91, 63, 50, 48, 48, 52, 104]⟩, .slice (some ⟨w.heap.size + 1 + 1, 0, none⟩) 8 8, .string ⟨#[27, 91, 63, 50, 48, 48, 52, 108]⟩, .slice (some ⟨w.heap.size + 1 + 1 + 1, 0, none⟩) 2 2, .string ⟨#[13, 10]⟩] : Array Value) = X
  have s5 : Stp [] W4 [] (W4.alloc (.cells X 37)) := Stp.alloc _ _ _
  have hb : (W4.alloc (.cells X 37)).heap[w.heap.size + 4]? = some (.cells X 37) := by rw [← z4]; exact heap_alloc_new _ _
  have z5 : (W4.alloc (.cells X 37)).heap.size = w.heap.size + 5 := by simp [z4]
  generalize W4.alloc (.cells X 37) = W5 at *
  have key : ∀ (i : Nat) L, sgL[i]? = some L → Lb W5 (w.heap.size + i) (zl L) ∧ X[i * 2]? = some (.slice (some ⟨w.heap.size + i, 0, none⟩) L.length L.length) ∧ X[i * 2 + 1]? = some (.string (st L)) := by
    intro i L h
    match i, h with
    | 0, h => cases h; exact ⟨b0.other (((s2.trans s3).trans s4).trans s5) (by simp), by rw [← hX]; rfl, by rw [← hX]; rfl⟩
    | 1, h => cases h; exact ⟨b1.other ((s3.trans s4).trans s5) (by simp), by rw [← hX]; rfl, by rw [← hX]; rfl⟩
    | 2, h => cases h; exact ⟨b2.other (s4.trans s5) (by simp), by rw [← hX]; rfl, by rw [← hX]; rfl⟩
    | 3, h => cases h; exact ⟨b3.other s5 (by simp), by rw [← hX]; rfl, by rw [← hX]; rfl⟩
    | i + 4, h => simp [sgL] at h
  refine ⟨fun i L _ h => (key i L h).1, fun i L h => ?_, fun i L h => ?_, by omega⟩
  · rw [cell_of_row W5 _ _ _ _ _ hb]
    exact (key i L h).2.1
  · rw [cell_of_row W5 _ _ _ _ _ hb]
    exact (key i L h).2.2
theorem Sg.next {W0 W5 W : World} {B j : Nat} (h : Sg W0 B j) (s : Stp [] W0 [] W5) (t : Stp [B + j] W5 [B + j] W) (hj : j < 4) : Sg W B (j + 1) := by
  have hlt : B + 4 < W5.heap.size := Nat.lt_of_lt_of_le h.lt s.size
  refine ⟨fun i L hi hL => ((h.bl i L (by omega) hL).other s (by simp)).other t (by simp; omega), fun i L hL => ?_, fun i L hL => ?_, Nat.lt_of_lt_of_le hlt t.size⟩
  · rw [t.cell (a := ⟨B + 4, i * 2, none⟩) hlt (by simp; omega)]
    exact s.keeps rfl (h.c0 i L hL)
  · rw [t.cell (a := ⟨B + 4, i * 2 + 1, none⟩) hlt (by simp; omega)]
    exact s.keeps rfl (h.c1 i L hL)
theorem wlet {P : Program} {C : Code} {Q : Exit → Act → World → Prop} {a : Act} {W : World} (h : ∀ w2, w2 = W → C.wp P Q a w2) : C.wp P Q a W := h W rfl
theorem sgL_len {i : Nat} (h : i < 4) : ∃ L, sgL[i]? = some L ∧ L.length ≤ 8 := by
  match i, h with
  | 0, _ => exact ⟨_, rfl, by simp⟩
  | 1, _ => exact ⟨_, rfl, by simp⟩
  | 2, _ => exact ⟨_, rfl, by simp⟩
  | 3, _ => exact ⟨_, rfl, by simp⟩
set_option maxHeartbeats 2000000 in
set_option maxRecDepth 100000 in
theorem signs_walk (c : Nat) (w : World) (hc : c < 256) (hT : Tabs w) : Calls Tryd.prog 4 #[.int .u8 (c : Int)] w (Truth w) := by
  have KA : Hid (∀ W, Stp [] w [] W → Calls Tryd.prog 8 #[] W (Tells (.bool true) W)) := Lib.hid fun W hs => alive_run W (hT.stays hs)
  have K1 := Lib.hid bell_run
  have K2 := Lib.hid start_run
  have K3 := Lib.hid stop_run
  have K4 := Lib.hid close_run
  clear hT
  go_enter Tryd.func4, Tryd.ntmps4
  go_wp2
  go_loopg [6] 3 (fun gk v6 wr => ∃ i : Nat, v6 = .int .i64 (i : Int) ∧ i ≤ 2 ∧ 2 - i < gk ∧ Aside (Stp [] w [] wr))
  case atStart => exact ⟨0, rfl, by omega, by omega, Stp.refl _ _⟩
  case round =>
    obtain ⟨i, rfl, hi, hg, HS⟩ := hrel
    by_cases hlt : i < 2
    · have hltz : (i : Int) < 2 := by omega
      go_wp2_with fail
      refine (K1.out _).mono ?_
      rintro _ _ ⟨rfl, rfl⟩
      go_wp2_with fail
      refine (K2.out _).mono ?_
      rintro _ _ ⟨rfl, rfl⟩
      go_wp2_with fail
      refine (K3.out _).mono ?_
      rintro _ _ ⟨rfl, rfl⟩
      go_wp2_with fail
      refine (K4.out _).mono ?_
      rintro _ _ ⟨rfl, rfl⟩
      go_wp2_with fail
      refine wlet fun w1 hw1 => ?_
      have hSg : Sg w1 wr.heap.size 0 := by rw [hw1]; exact sg_new wr
      have s1 : Stp [] wr [] w1 := by rw [hw1]; exact ((((Stp.alloc [] _ _).trans (Stp.alloc [] _ _)).trans (Stp.alloc [] _ _)).trans (Stp.alloc [] _ _)).trans (Stp.alloc [] _ _)
      clear hw1
      have hB : w.heap.size ≤ wr.heap.size := HS.out.size
      have H0 : Aside (Sg w1 wr.heap.size 0 ∧ Stp [] w [] w1) := ⟨hSg, HS.out.trans s1⟩
      clear hSg s1
      generalize wr.heap.size = B at *
      go_loopg [18] 5 (fun gk v18 wx => ∃ j : Nat, v18 = .int .i64 (j : Int) ∧ j ≤ 4 ∧ 4 - j < gk ∧ Aside (Sg wx B j ∧ Stp [] w [] wx))
      case atStart => exact ⟨0, rfl, by omega, by omega, H0⟩
      case round =>
        obtain ⟨j, rfl, hj, hgj, HJ⟩ := hrel
        by_cases hlj : j < 4
        · have hljz : (j : Int) < 4 := by omega
          obtain ⟨L, hL, hL8⟩ := sgL_len hlj
          have c0 := HJ.out.1.c0 j L hL
          have c1 := HJ.out.1.c1 j L hL
          obtain ⟨n, hn⟩ : ∃ n, n = L.length := ⟨_, rfl⟩
          rw [← hn] at c0
          have hX : B + 4 < wr.heap.size := HJ.out.1.lt
          have hb := heap_alloc_new wr (.cells #[.slice (some ⟨B + j, 0, none⟩) n n, .string (st L)] 37)
          have s5 : Stp [] wr [] (wr.alloc (.cells #[.slice (some ⟨B + j, 0, none⟩) n n, .string (st L)] 37)) := Stp.alloc _ _ _
          have hbl := (HJ.out.1.bl j L (Nat.le_refl _) hL).other s5 (by simp)
          have hcv := conv_bts n n hbl.bts hn
          have hne : ((st L).toList != (st L).toList) = false := by simp
          have H5 := Lib.hid (And.intro s5 (And.intro hb (And.intro hbl (And.intro hn hL))))
          clear s5 hb hbl hL hn
          go_wp2_with fail
          refine wlet fun w5 hw5 => ?_
          rw [← hw5] at H5
          clear hcv hne c0 c1 hw5
          generalize wr.heap.size = X at *
          have HN := Lib.hid H5.out.2.2.2.1
          have hn8 : n ≤ 8 := by rw [HN.out]; exact hL8
          have HX := Lib.hid hX
          go_loopg [31] (n + 1) (fun gk v31 wy => ∃ (q : Nat) (zs : List Int), v31 = .int .i64 (q : Int) ∧ q ≤ n ∧ n - q < gk ∧ zs.length = n ∧ Aside (Lb wy (B + j) zs ∧ Stp [B + j] w5 [B + j] wy))
          case atStart => exact ⟨0, zl L, rfl, by omega, by omega, by rw [zl_len]; exact HN.out.symm, H5.out.2.2.1, Stp.refl _ _⟩
          case round =>
            obtain ⟨q, zs, rfl, hq, hgq, hzs, HQ⟩ := hrel
            by_cases hlq : q < n
            · have hlqz : (q : Int) < (n : Int) := by omega
              have hq2 : q < zs.length := by omega
              have hcz := HQ.out.1.cell hq2
              have hfz := HQ.out.1.fz hq2
              obtain ⟨z, hz⟩ : ∃ z, z = zs[q]'hq2 := ⟨_, rfl⟩
              rw [← hz] at hcz
              have hbX := (HQ.out.2.block X (Array.getElem?_eq_some_iff.1 H5.out.2.1).1 (by have := HX.out; simp; omega)).trans H5.out.2.1
              have c0 := cell_of_row _ X 0 _ _ _ hbX
              simp only [List.getElem?_toArray, List.getElem?_cons_zero] at c0
              have HZ := Lib.hid hzs
              clear hz hbX hzs hq2
              go_wp2_with fail
              go_roundg (n - (q + 1) + 1)
              case measure => omega
              case rel => exact ⟨q + 1, zs.set q _, by go_num, by omega, by omega, by rw [List.length_set]; exact HZ.out, HQ.out.1.set q _, HQ.out.2.trans (Stp.setCell (a := ⟨B + j, q, none⟩) _ _ (by simp))⟩
            · have hlqz : ¬ (q : Int) < (n : Int) := by omega
              go_wp2_with fail
              go_roundg (4 - (j + 1) + 1)
              case measure => omega
              case rel =>
                have hs : Stp [] w [] wr := ((HJ.out.2.trans H5.out.1).fresh HQ.out.2 (by simp; omega)).none
                exact ⟨j + 1, by go_num, by omega, by omega, HJ.out.1.next H5.out.1 HQ.out.2 hlj, hs⟩
        · have hljz : ¬ (j : Int) < 4 := by omega
          go_wp2_with fail
          go_roundg (2 - (i + 1) + 1)
          case measure => omega
          case rel => exact ⟨i + 1, by go_num, by omega, by omega, HJ.out.2⟩
    · have hltz : ¬ (i : Int) < 2 := by omega
      go_wp2_with fail
      refine (KA.out _ HS.out).mono ?_
      rintro _ w1 ⟨rfl, s1⟩
      go_wp2
      go_ret
      exact ⟨rfl, (HS.out.trans s1).under⟩
end Go.Proofs.YtjenbhaaahpliaaDoor
