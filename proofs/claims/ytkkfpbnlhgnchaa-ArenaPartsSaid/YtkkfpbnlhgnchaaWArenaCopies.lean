/-
  ArenaCopies returns true for every bytes and number.
-/
import Derived.Test.YtkkfpbnlhgnchaaCells
import Derived.Deep.RegionHeld
namespace Go.Proofs.Ytkkfpbnlhgnchaa
open Go.RowKit Go.Lib
set_option linter.unusedVariables false

/-- The first m cells of a block are bytes. -/
def Cw (w : World) (g m : Nat) : Prop := ∃ cur, w.heap[g]? = some (.cells cur 5 (0, 0)) ∧ ∀ k, k < m → ∃ z, cur[k]? = some (.int .u8 z)
theorem Cw.cell {w : World} {g m k : Nat} (h : Cw w g m) (hk : k < m) : ∃ z, w.cell? ⟨g, k, none⟩ = some (.int .u8 z) ∧ w.frozen? ⟨g, k, none⟩ = false := by
  obtain ⟨cur, h1, h2⟩ := h
  obtain ⟨z, hz⟩ := h2 k hk
  exact ⟨z, by rw [cell_of_row w g k _ _ _ h1]; exact hz, frozen_of_row w g k _ _ h1⟩
theorem Cw.set {w : World} {g m : Nat} (h : Cw w g m) (k : Nat) (z : Int) : Cw (w.setCell ⟨g, k, none⟩ (.int .u8 z)) g m := by
  obtain ⟨cur, h1, h2⟩ := h
  refine ⟨_, heap_setCell_same w g k _ _ _ h1, fun i hi => ?_⟩
  obtain ⟨y, hy⟩ := h2 i hi
  by_cases e : k = i
  · subst e
    exact ⟨z, by rw [Array.getElem?_setIfInBounds_self, if_pos (Array.getElem?_eq_some_iff.1 hy).1]⟩
  · exact ⟨y, by rw [Array.getElem?_setIfInBounds_ne e]; exact hy⟩
/-- A row of the call's own by its block. -/
theorem Own.cw {w : World} {base : Nat} {v : Value} {l : List UInt8} (h : Own w base v l) : ∃ a cap, v = .slice a l.length cap ∧ Bts w a l ∧ (∀ ad, a = some ad → base ≤ ad.block) ∧ (0 < l.length → ∃ g, a = some ⟨g, 0, none⟩ ∧ base ≤ g ∧ g < w.heap.size ∧ Cw w g l.length) := by
  obtain ⟨a, c, e, hb, _, _, hbb⟩ := h.bts
  refine ⟨a, c, e, hb, fun ad h => (hbb ad h).1, fun h0 => ?_⟩
  rcases h.2 with ⟨_, h1⟩ | ⟨g, cap, cur, hv, hg, hh, hnc, hm, hcur, htake⟩
  · omega
  · rw [hv] at e
    cases e
    refine ⟨g, rfl, hg, (Array.getElem?_eq_some_iff.1 hh).1, ⟨cur, hh, fun k hk => ?_⟩⟩
    have h2 := congrArg (·[k]?) htake
    simp only [Nat.mul_one, List.getElem?_take, hk, if_true, List.getElem?_map] at h2
    rw [← Array.getElem?_toList, h2]
    exact ⟨(l[k].toNat : Int), by simp [bval, hk]⟩
theorem bits_u8 (z : Int) : ∃ y, bits .xor .u8 z 255 = y := ⟨_, rfl⟩
theorem fill_step (n k : Nat) (h : k < n) : (List.replicate k (77 : UInt8) ++ List.replicate (n - k) 0).set k 77 = List.replicate (k + 1) 77 ++ List.replicate (n - (k + 1)) 0 := by
  rw [List.set_append_right _ _ (by simp)]
  rw [show n - k = (n - (k + 1)) + 1 by omega, List.replicate_succ, List.length_replicate, Nat.sub_self, List.set_cons_zero, List.replicate_succ', List.append_assoc]
  rfl

set_option maxHeartbeats 4000000 in
set_option maxRecDepth 100000 in
theorem copies_at (a0 : Option Addr) (cap0 n0 m n c : Nat) (x : List UInt8) (w : World) (hx : Bts w a0 x) (hm : x.length = m) (hm2 : m ≤ cap0) (hmt : m ≤ 200) (hz : a0 = none → cap0 = 0) (hn : n < 256) (hc : c = min m n)
    (hmin : ∀ (w : World) (ts : Array TypeId) (t : TypeId), (Builtin.min_ ts t #[.int .i64 (n0 : Int), .int .i64 200]).run Try.prog w = .ok (.int .i64 (m : Int)) w)
    (hmin2 : ∀ (w : World) (ts : Array TypeId) (t : TypeId), (Builtin.min_ ts t #[.int .i64 (m : Int), .int .i64 (n : Int)]).run Try.prog w = .ok (.int .i64 (c : Int)) w) :
    Calls Try.prog 7 #[.slice a0 n0 cap0, .int .u8 (n : Int)] w (Truth w) := by
  have KN : Hid (∀ W, Calls Try.prog 9 #[.int .i64 200] W (Newed W 200)) := Lib.hid (fun W => new_run 200 W (by omega) (by omega))
  have KA := Lib.hid alive_tells
  have s1 := cut_h a0 n0 cap0 m hm2
  have HX := Lib.hid (And.intro hx (And.intro hm (And.intro hz hc)))
  clear hx hm hz hc
  go_enter Try.func7, Try.ntmps7
  go_wp2_with fail
  refine (KN.out _).mono ?_
  rintro _ w1 ⟨b, g, rfl, hb, hg, h, s⟩
  have H1 : Aside (Ar w1 b g 200 [] ∧ Stp [] w [b, g] w1 ∧ w.heap.size ≤ b ∧ w.heap.size ≤ g ∧ b < w1.heap.size ∧ g < w1.heap.size) := ⟨h, s, hb, hg, Cl.lt h, h.row.lt⟩
  clear h s hb hg KN
  go_wp2_with fail
  refine (KA.out _).mono ?_
  rintro _ w2 ⟨rfl, s⟩
  have H2 : Aside (Ar w2 b g 200 [] ∧ Stp [] w [b, g] w2 ∧ w.heap.size ≤ b ∧ w.heap.size ≤ g ∧ b < w2.heap.size ∧ g < w2.heap.size) := ⟨H1.out.1.stays s, H1.out.2.1.trans (s.widen (fun k h => .inl h)), H1.out.2.2.1, H1.out.2.2.2.1, Nat.lt_of_lt_of_le H1.out.2.2.2.2.1 s.size, Nat.lt_of_lt_of_le H1.out.2.2.2.2.2 s.size⟩
  clear s KA H1
  have HB := Lib.hid (Own.new w2)
  go_wp2_with (first
    | (at_builtin
       refine wpList_app rfl (.tmp 34) (.tmp 35) rfl w2.heap.size (.slice (some ⟨w2.heap.size, 0, none⟩) 0 0) [] rfl HB.out a0 cap0 m x HX.out.2.1.symm rfl (HX.out.1.stays (H2.out.2.1.trans (Stp.alloc _ _ _))) HX.out.2.2.1 (by have := HX.out.2.1; simp; omega) (by simp) ?_
       intro v3 w3 ho3 hg3
       have H3 : Aside (Own w3 w2.heap.size v3 x ∧ Stp [] w2 [] w3) := ⟨ho3, (Stp.alloc [] w2 _).app hg3 (fun q hq => by simp [Value.ownBlock] at hq; omega)⟩
       clear ho3 hg3))
  obtain ⟨a3, c3, e3, bt3, ab3, cw3⟩ := H3.out.1.cw
  rw [HX.out.2.1] at e3 cw3
  subst e3
  have K4 := Lib.hid (insert_run (H2.out.1.stays H3.out.2) 0 a3 x m c3 bt3 (fun _ ad e => by have := ab3 ad e; have := H2.out.2.2.2.2.2; omega) HX.out.2.1.symm (Nat.le_refl _) (by simpa using hmt))
  have H3 : Aside (Stp [] w [b, g] w3 ∧ (0 < m → ∃ q, a3 = some ⟨q, 0, none⟩ ∧ w2.heap.size ≤ q ∧ q < w3.heap.size ∧ Cw w3 q m)) := ⟨H2.out.2.1.trans (H3.out.2.widen (fun k h => .inl h)), cw3⟩
  clear bt3 ab3 cw3 HB
  go_wp2_with fail
  refine K4.out.mono ?_
  rintro _ w4 ⟨rfl, h, s⟩
  replace h := ar_first h
  have H4 : Aside (Ar w4 b g 200 x ∧ Stp [] w [b, g] w4 ∧ (0 < m → ∃ q, a3 = some ⟨q, 0, none⟩ ∧ q ≠ b ∧ q ≠ g ∧ w.heap.size ≤ q ∧ Cw w4 q m)) := by
    refine ⟨h, H3.out.1.trans s, fun h0 => ?_⟩
    obtain ⟨q, h1, h2, h3, cur, h4, h5⟩ := H3.out.2 h0
    have h6 := H2.out.2.2.2.2
    have h7 := H2.out.2.1.size
    exact ⟨q, h1, by omega, by omega, by omega, cur, (s.block q h3 (by simp; omega)).trans h4, h5⟩
  clear K4 h s H3
  go_wp2
  go_loopg [43] m (fun gk vi wr => ∃ k : Nat, vi = .int .i64 (k : Int) ∧ k ≤ m ∧ m - k ≤ gk ∧ Aside (Ar wr b g 200 x ∧ Stp [] w [] wr ∧ (0 < m → ∃ q, a3 = some ⟨q, 0, none⟩ ∧ q ≠ b ∧ q ≠ g ∧ w.heap.size ≤ q ∧ Cw wr q m)))
  case atStart => exact ⟨0, rfl, by omega, by omega, H4.out.1, H4.out.2.1.none, H4.out.2.2⟩
  case round =>
    clear H4
    obtain ⟨k, rfl, hk, hgk, HS⟩ := hrel
    by_cases hlt : k < m
    · have hltz : (k : Int) < (m : Int) := by omega
      obtain ⟨q, rfl, hqb, hqg, hqw, hcw⟩ := HS.out.2.2 (by omega)
      obtain ⟨z, hc1, hf1⟩ := hcw.cell hlt
      have H5 : Aside (∀ y : Int, Ar (wr.setCell ⟨q, k, none⟩ (.int .u8 y)) b g 200 x ∧ Stp [] w [] (wr.setCell ⟨q, k, none⟩ (.int .u8 y)) ∧ Cw (wr.setCell ⟨q, k, none⟩ (.int .u8 y)) q m) := fun y => by
        have st : Stp [q] wr [q] (wr.setCell ⟨q, k, none⟩ (.int .u8 y)) := Stp.setCell wr _ (by simp)
        refine ⟨HS.out.1.other st (by simp; omega) (by simp; omega), (HS.out.2.1.fresh st (fun i hi => ?_)).none, hcw.set k y⟩
        simp at hi
        omega
      have HQ : Aside (q ≠ b ∧ q ≠ g ∧ w.heap.size ≤ q) := ⟨hqb, hqg, hqw⟩
      clear HS hcw hqb hqg hqw
      go_wp2
      go_roundg (m - (k + 1))
      case measure => omega
      case rel => exact ⟨k + 1, by go_num, by omega, by omega, (H5.out _).1, (H5.out _).2.1, fun _ => ⟨q, rfl, HQ.out.1, HQ.out.2.1, HQ.out.2.2, (H5.out _).2.2⟩⟩
    · have hltz : ¬ (k : Int) < (m : Int) := by omega
      have H5 : Aside (Ar wr b g 200 x ∧ Stp [] w [] wr) := ⟨HS.out.1, HS.out.2.1⟩
      obtain ⟨o, ho, hmk⟩ := make_obj n (by omega)
      have H6 : Aside (Ar (wr.alloc o) b g 200 x ∧ Stp [] w [] (wr.alloc o) ∧ Blk (wr.alloc o) wr.heap.size (List.replicate n 0) ∧ wr.heap.size ≠ b ∧ wr.heap.size ≠ g ∧ w.heap.size ≤ wr.heap.size) :=
        ⟨H5.out.1.stays (Stp.alloc [] wr o), H5.out.2.trans (Stp.alloc [] wr o), new_blk wr ho, by have := Cl.lt H5.out.1; omega, by have := H5.out.1.row.lt; omega, H5.out.2.size⟩
      clear HS ho H5
      go_wp2
      clear hmk
      generalize wr.heap.size = T at *
      generalize wr.alloc o = wr1 at *
      have HT : Aside (T ≠ b ∧ T ≠ g ∧ w.heap.size ≤ T) := H6.out.2.2.2
      go_loopg [57] n (fun gk vi wr => ∃ k : Nat, vi = .int .i64 (k : Int) ∧ k ≤ n ∧ n - k ≤ gk ∧ Aside (Ar wr b g 200 x ∧ Stp [] w [] wr ∧ Blk wr T (List.replicate k 77 ++ List.replicate (n - k) 0)))
      case atStart => exact ⟨0, rfl, by omega, by omega, H6.out.1, H6.out.2.1, by simpa using H6.out.2.2.1⟩
      case round =>
        clear H6
        obtain ⟨j, rfl, hj, hgj, HS⟩ := hrel
        by_cases hlj : j < n
        · have hljz : (j : Int) < (n : Int) := by omega
          have hc1 := HS.out.2.2.cell (i := j) (by simp; omega)
          have hf1 := HS.out.2.2.fz j
          have H7 : Aside (Ar (wr.setCell ⟨T, j, none⟩ (.int .u8 77)) b g 200 x ∧ Stp [] w [] (wr.setCell ⟨T, j, none⟩ (.int .u8 77)) ∧ Blk (wr.setCell ⟨T, j, none⟩ (.int .u8 77)) T (List.replicate (j + 1) 77 ++ List.replicate (n - (j + 1)) 0)) := by
            have st : Stp [T] wr [T] (wr.setCell ⟨T, j, none⟩ (.int .u8 77)) := Stp.setCell wr _ (by simp)
            have ht := HT.out
            refine ⟨HS.out.1.other st (by simp; omega) (by simp; omega), (HS.out.2.1.fresh st (fun i hi => ?_)).none, ?_⟩
            · simp at hi
              omega
            · have := HS.out.2.2.set j 77
              rw [fill_step n j hlj] at this
              exact this
          generalize bval ((List.replicate j (77 : UInt8) ++ List.replicate (n - j) 0)[j]!) = z at *
          clear HS
          go_wp2
          go_roundg (n - (j + 1))
          case measure => omega
          case rel => exact ⟨j + 1, by go_num, by omega, by omega, H7⟩
        · have hljz : ¬ (j : Int) < (n : Int) := by omega
          obtain rfl : j = n := by omega
          have hBT : Blk wr T (List.replicate j 77) := by simpa using HS.out.2.2
          have K7 := Lib.hid (copy_run HS.out.1 T j j (List.replicate j 77) hBT (by simp) HT.out.2.1)
          rw [HX.out.2.1, ← HX.out.2.2.2] at K7
          clear hBT
          go_wp2_with fail
          refine K7.out.mono ?_
          rintro _ w7 ⟨rfl, hB7, s7⟩
          have H8 : Aside (Ar w7 b g 200 x ∧ Stp [] w [] w7 ∧ Blk w7 T (x.take c ++ List.replicate (j - c) 77)) := by
            have ht := HT.out
            refine ⟨HS.out.1.other s7 (by simp; omega) (by simp; omega), (HS.out.2.1.fresh s7 (fun i hi => ?_)).none, ?_⟩
            · simp at hi
              omega
            · have e : lay (List.replicate j 77) 0 (x.take j) = x.take c ++ List.replicate (j - c) 77 := by
                have h1 := HX.out.2.1
                have h2 := HX.out.2.2.2
                have e1 : x.take j = x.take c := by
                  by_cases h : j ≤ m
                  · rw [show c = j by omega]
                  · rw [show c = m by omega, List.take_of_length_le (by omega), List.take_of_length_le (by omega)]
                rw [e1]
                unfold lay
                simp only [List.take_zero, List.nil_append, List.drop_replicate, List.length_take]
                congr 2
                omega
              rw [e] at hB7
              exact hB7
          have hcj : c ≤ j := by have := HX.out.2.2.2; omega
          have hcm : c ≤ m := by have := HX.out.2.2.2; omega
          have s2 := cut_h (some ⟨T, 0, none⟩) j j c hcj
          have s3 := cut_h a0 m cap0 c (by omega)
          have cv1 : ∀ q, (convert 31 9 (.slice (some ⟨T, 0, none⟩) c j)).run Try.prog (w7.drewN q) = .ok (.string (str (x.take c))) (w7.drewN q) := fun q =>
            conv_bts j c ((H8.out.2.2.other (Stp.drewN [] w7 q) (fun h => by cases h)).bts.head) (by have := HX.out.2.1; rw [List.length_take]; omega)
          have cv2 : ∀ q, (convert 31 9 (.slice a0 c cap0)).run Try.prog (w7.drewN q) = .ok (.string (str (x.take c))) (w7.drewN q) := fun q =>
            conv_bts cap0 c (Bts.head (M' := x.drop c) (by rw [List.take_append_drop]; exact (HX.out.1.stays H8.out.2.1).stays (Stp.drewN [] w7 q))) (by have := HX.out.2.1; rw [List.length_take]; omega)
          generalize str (x.take c) = tx at *
          clear K7 hB7 s7 HS
          go_wp2_with fail
          go_quiet (fail)
          clear cv1 cv2
          have H9 : Aside (Ar (w7.drewN nq) b g 200 x ∧ Stp [] w [] (w7.drewN nq) ∧ Blk (w7.drewN nq) T (x.take c ++ List.replicate (j - c) 77)) :=
            ⟨H8.out.1.stays (Stp.drewN [] w7 nq), H8.out.2.1.trans (Stp.drewN [] w7 nq), H8.out.2.2.other (Stp.drewN [] w7 nq) (fun h => by cases h)⟩
          clear H8
          generalize w7.drewN nq = w8 at *
          obtain ⟨ap, hap⟩ : ∃ ap, ap = cutp (some ⟨T, 0, none⟩) c j := ⟨_, rfl⟩
          obtain ⟨d, hd⟩ : ∃ d, d = j - c := ⟨_, rfl⟩
          have s4 := cut_l (some ⟨T, 0, none⟩) j j c hcj
          rw [← hap, ← hd] at s4
          have H10 : Aside (Bts w8 ap (List.replicate d 77)) := by
            have e1 : (x.take c ++ List.replicate (j - c) 77).length = j := by have := HX.out.2.1; simp; omega
            have := H9.out.2.2.bts.cut (i := c) (j := j) (N := j) hcj (by omega) (by omega)
            rw [List.drop_left' (by have := HX.out.2.1; simp; omega), List.take_of_length_le (by simp), ← hap, ← hd] at this
            exact this
          have hdj : d ≤ j := by omega
          clear hap hd
          go_wp2
          go_loopg [97] d (fun gk vi wr => ∃ i : Nat, vi = .int .i64 (i : Int) ∧ i ≤ d ∧ d - i ≤ gk ∧ Aside (wr = w8))
          case atStart => exact ⟨0, rfl, by omega, by omega, rfl⟩
          case round =>
            obtain ⟨i, rfl, hi, hgi, HS⟩ := hrel
            obtain rfl : wr = w8 := HS.out
            by_cases hli : i < d
            · have hliz : (i : Int) < (d : Int) := by omega
              obtain ⟨tb, off, rfl, hc1⟩ := H10.out.at (i := i) (by simpa using hli)
              have e : bval ((List.replicate d (77 : UInt8))[i]!) = .int .u8 77 := by
                rw [getElem!_pos _ i (by simpa using hli)]
                simp [bval]
              rw [e] at hc1
              clear e
              go_wp2
              go_roundg (d - (i + 1))
              case measure => omega
              case rel => exact ⟨i + 1, by go_num, by omega, by omega, rfl⟩
            · have hliz : ¬ (i : Int) < (d : Int) := by omega
              have KT := Lib.hid (text_run (H9.out.1.stays (Stp.drew [] wr)))
              have cv : ∀ W, Stp [] wr [] W → Sem.run Try.prog (convert 31 9 (.slice a0 m cap0)) W = .ok (.string (str x)) W := fun W hs => conv_bts cap0 m ((HX.out.1.stays H9.out.2.1).stays hs) HX.out.2.1.symm
              have hcur : Stp [] wr [] wr.drew := Stp.drew [] wr
              go_wp2_with fail
              go_region_held (fun W => Stp [] wr [] W) (first | exact hcur | assumption)
                (first | (go_at_call 21; refine KT.out.mono ?_; rintro _ w9 ⟨rfl, s9⟩; replace hcur := hcur.trans s9; clear s9))
              all_goals
                go_wp2
                go_ret
                exact ⟨rfl, (H9.out.2.1.trans hcur).under⟩
theorem min_any (a b c : Nat) (h : c = min a b) : ∀ (w : World) (ts : Array TypeId) (t : TypeId), (Builtin.min_ ts t #[.int .i64 (a : Int), .int .i64 (b : Int)]).run Try.prog w = .ok (.int .i64 (c : Int)) w := fun w ts t => by
  rw [run_min_int2]
  by_cases h1 : (b : Int) < (a : Int)
  · rw [if_pos h1, show c = b by omega]
  · rw [if_neg h1, show c = a by omega]
theorem copies_walk (a0 : Option Addr) (cap0 : Nat) (l0 : List UInt8) (n : Nat) (w : World) (hx : Bts w a0 l0) (hc : l0.length ≤ cap0) (hz : a0 = none → cap0 = 0) (hn : n < 256) :
    Calls Try.prog 7 #[.slice a0 l0.length cap0, .int .u8 (n : Int)] w (Truth w) :=
  copies_at a0 cap0 l0.length (min l0.length 200) n (min (min l0.length 200) n) (l0.take (min l0.length 200)) w (Bts.head (M' := l0.drop (min l0.length 200)) (by rw [List.take_append_drop]; exact hx)) (by rw [List.length_take]; omega) (by omega) (by omega) hz hn rfl
    (min_any l0.length 200 _ rfl) (min_any _ n _ rfl)
end Go.Proofs.Ytkkfpbnlhgnchaa
