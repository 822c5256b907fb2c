/-
  The walk of EscseqLong.
-/
import Derived.Test.YtndofkjmbipagaaApp2
import Derived.Deep.DeepCutAuto
import Derived.Deep.CutBlock
namespace Go.Proofs.Ytndofkjmbipagaa
open Go.RowKit Go.Lib
set_option linter.unusedVariables false

theorem min_any (a b c : Nat) (h : c = min a b) : ∀ (w : World) (ts : Array TypeId) (t : TypeId), (Builtin.min_ ts t #[.int .i64 (a : Int), .int .i64 (b : Int)]).run Try.prog w = .ok (.int .i64 (c : Int)) w := fun w ts t => by
  rw [run_min_int2]
  by_cases h1 : (b : Int) < (a : Int)
  · rw [if_pos h1, show c = b by omega]
  · rw [if_neg h1, show c = a by omega]
theorem Own.form {w : World} {base : Nat} {v : Value} {l : List UInt8} (h : Own w base v l) (hl : l ≠ []) : ∃ g cap, v = .slice (some ⟨g, 0, none⟩) l.length cap ∧ base ≤ g := by
  rcases h.2 with ⟨_, h0⟩ | ⟨g, cap, cur, rfl, hg, _⟩
  · exact absurd (List.length_eq_zero_iff.1 h0) hl
  · exact ⟨g, cap, rfl, hg⟩
theorem bts_one {W : World} {x : UInt8} {z : Int} (h : bval x = .int .u8 z) : Bts (W.alloc (.cells #[.int .u8 z] 5)) (some ⟨W.heap.size, 0, none⟩) [x] := by
  rw [← h]
  exact one_new W x
set_option maxHeartbeats 1000000 in
set_option maxRecDepth 100000 in
theorem long_walk (n u c : Nat) (hn : n < 256) (hu : u < 256) (hc : c < 256) (w : World) : Calls Try.prog 6 #[.int .u8 (n : Int), .int .u8 (u : Int), .int .u8 (c : Int)] w (Truth w) := by
  have KA := Lib.hid alive_run
  obtain ⟨k, hk⟩ : ∃ k, k = n % 50 := ⟨_, rfl⟩
  obtain ⟨u2, hu2⟩ : ∃ k, k = u % 50 := ⟨_, rfl⟩
  obtain ⟨d, hd⟩ : ∃ k, k = c % 16 := ⟨_, rfl⟩
  obtain ⟨o, ho⟩ : ∃ o, o = min u2 k := ⟨_, rfl⟩
  have er1 : (n : Int).tmod 50 = (k : Int) := by rw [Int.tmod_eq_emod_of_nonneg (by omega)]; omega
  have er2 : (u : Int).tmod 50 = (u2 : Int) := by rw [Int.tmod_eq_emod_of_nonneg (by omega)]; omega
  have er3 : (c : Int).tmod 16 = (d : Int) := by rw [Int.tmod_eq_emod_of_nonneg (by omega)]; omega
  have hk50 : k < 50 := by omega
  have hok : o ≤ k := by omega
  have hd16 : d < 16 := by omega
  have hu50 : u2 < 50 := by omega
  have hmin := min_any u2 k o ho
  have HL : Aside (48 ≤ (UInt8.ofNat (48 + d)).toNat ∧ (UInt8.ofNat (48 + d)).toNat < 64 ∧ 32 ≤ (UInt8.ofNat (32 + d)).toNat ∧ (UInt8.ofNat (32 + d)).toNat < 48) := by
    show _ ∧ _
    rw [UInt8.toNat_ofNat_of_lt' (show 48 + d < 256 by omega), UInt8.toNat_ofNat_of_lt' (show 32 + d < 256 by omega)]
    omega
  have hbp : Aside (bval (UInt8.ofNat (48 + d)) = .int .u8 (48 + (d : Int)) ∧ bval (UInt8.ofNat (32 + d)) = .int .u8 (32 + (d : Int))) := by
    show _ ∧ _
    unfold bval
    rw [UInt8.toNat_ofNat_of_lt' (show 48 + d < 256 by omega), UInt8.toNat_ofNat_of_lt' (show 32 + d < 256 by omega)]
    exact ⟨rfl, rfl⟩
  generalize UInt8.ofNat (48 + d) = p at *
  generalize UInt8.ofNat (32 + d) = q at *
  clear ho hk hu2 hd
  go_enter Try.func6, Try.ntmps6
  go_upto_region 4 with fail
  have H0 : Aside (Own (w.alloc (.cells #[.int .u8 27, .int .u8 91] 5)) w.heap.size (.slice (some ⟨w.heap.size, 0, none⟩) 2 2) (lg p q k o 0) ∧ Stp [] w [] (w.alloc (.cells #[.int .u8 27, .int .u8 91] 5))) :=
    ⟨by rw [show lg p q k o 0 = [27, 91] by simp [lg]]; exact Own.lit w [27, 91] (by decide), Stp.alloc [] w _⟩
  generalize w.alloc (.cells #[.int .u8 27, .int .u8 91] 5) = w0 at *
  generalize hg : w.heap.size = g at *
  have HGW : Aside (g = w.heap.size) := hg.symm
  clear hg
  go_wp2
  go_loopg [9, 27] k (fun gk v9 v27 wr => ∃ i : Nat, v27 = .int .i64 (i : Int) ∧ i ≤ k ∧ k - i ≤ gk ∧ Aside (Own wr g v9 (lg p q k o i) ∧ Stp [] w [] wr))
  case atStart => exact ⟨0, rfl, by omega, by omega, H0⟩
  case round =>
    clear H0
    obtain ⟨i, rfl, hi, hgk, HS⟩ := hrel
    by_cases hlt : i < k
    · have hltz : (i : Int) < (k : Int) := by omega
      have HX : Aside (g ≤ wr.heap.size ∧ (lg p q k o i).length ≤ 60) := ⟨by rw [HGW.out]; exact HS.out.2.size, by rw [lg_len]; omega⟩
      by_cases h2 : i < k - o
      · have h2z : (i : Int) < (k : Int) - (o : Int) := by omega
        have HP : Aside (lg p q k o i ++ [p] = lg p q k o (i + 1)) := lg_p h2
        go_wp2_with (first
          | (at_builtin
             refine wpList_app rfl (.tmp 35) (.tmp 39) rfl g u9 (lg p q k o i) rfl (HS.out.1.other (Stp.alloc [] _ _) (by simp)) (some ⟨wr.heap.size, 0, none⟩) 1 1 [p] rfl rfl (bts_one hbp.out.1) (fun h => by cases h) (by have := HX.out.2; simp; omega) (by have := HX.out.1; rw [World.size_alloc]; omega) ?_
             intro v2 w2 ho2 hg2
             have H2 : Aside (Own w2 g v2 (lg p q k o (i + 1)) ∧ Stp [] w [] w2) := ⟨by rw [← HP.out]; exact ho2, (HS.out.2.trans (Stp.alloc [] _ _)).app hg2 (fun j hj => by rw [← HGW.out]; exact (HS.out.1.lt j hj).1)⟩
             clear ho2 hg2))
        go_roundg (k - (i + 1))
        case measure => omega
        case rel => exact ⟨i + 1, by go_num, by omega, by omega, H2⟩
      · have h2z : decide ((i : Int) < (k : Int) - (o : Int)) = false := decide_eq_false (by omega)
        have h2y : ¬ (i : Int) < (k : Int) - (o : Int) := by omega
        have HP : Aside (lg p q k o i ++ [q] = lg p q k o (i + 1)) := lg_q h2
        go_wp2_with (first
          | (at_builtin
             refine wpList_app rfl (.tmp 41) (.tmp 45) rfl g u9 (lg p q k o i) rfl (HS.out.1.other (Stp.alloc [] _ _) (by simp)) (some ⟨wr.heap.size, 0, none⟩) 1 1 [q] rfl rfl (bts_one hbp.out.2) (fun h => by cases h) (by have := HX.out.2; simp; omega) (by have := HX.out.1; rw [World.size_alloc]; omega) ?_
             intro v2 w2 ho2 hg2
             have H2 : Aside (Own w2 g v2 (lg p q k o (i + 1)) ∧ Stp [] w [] w2) := ⟨by rw [← HP.out]; exact ho2, (HS.out.2.trans (Stp.alloc [] _ _)).app hg2 (fun j hj => by rw [← HGW.out]; exact (HS.out.1.lt j hj).1)⟩
             clear ho2 hg2))
        go_roundg (k - (i + 1))
        case measure => omega
        case rel => exact ⟨i + 1, by go_num, by omega, by omega, H2⟩
    · have hltz : decide ((i : Int) < (k : Int)) = false := decide_eq_false (by omega)
      obtain rfl : i = k := by omega
      obtain ⟨g9, c9, rfl, hg9⟩ := HS.out.1.form (by simp [lg])
      obtain ⟨a9, c9', ev, hb9, _, hle9, _⟩ := HS.out.1.bts
      injection ev with ea _ ec
      subst ea ec
      rw [lg_len] at hle9
      have HX : Aside (g ≤ wr.heap.size ∧ (lg p q i o i).length ≤ 60 ∧ Own wr g (.slice (some ⟨g9, 0, none⟩) (lg p q i o i).length c9) (lg p q i o i) ∧ Stp [] w [] wr ∧ g ≤ g9 ∧ Bts wr (some ⟨g9, 0, none⟩) (lg p q i o i)) := ⟨by rw [HGW.out]; exact HS.out.2.size, by rw [lg_len]; omega, HS.out.1, HS.out.2, hg9, hb9⟩
      have KN : Hid (∀ W a' c', Bts W a' (lg p q i o i ++ [67]) → (lg p q i o i ++ [67]).length ≤ c' → Calls Try.prog 9 #[.slice a' (lg p q i o i ++ [67]).length c'] W (Tells (nxv (nx (lg p q i o i ++ [67]))) W)) :=
        Lib.hid (fun W a' c' h hc => next_run a' _ c' _ W h rfl hc (by rw [List.length_append, lg_len]; simp; omega))
      have KB : Hid (∀ W, Bts W (some ⟨g9, 0, none⟩) (lg p q i o i) → Calls Try.prog 11 #[.slice (some ⟨g9, 0, none⟩) (i + 2) c9] W (Tells (.bool ((nx (lg p q i o i)).e == 7)) W)) :=
        Lib.hid (fun W h => begins_run _ _ _ _ W h (by rw [lg_len]) hle9 (by rw [lg_len]; omega))
      obtain ⟨L2, HL2⟩ : ∃ L2, Aside (lg p q i o i ++ [67] = L2) := ⟨lg p q i o i ++ [67], show lg p q i o i ++ [67] = lg p q i o i ++ [67] from rfl⟩
      rw [lg_len]
      by_cases h32 : 32 < i
      · have h32z : (32 : Int) < (i : Int) := by omega
        obtain ⟨e1, e2⟩ := lg_over HL.out.1 HL.out.2.1 HL.out.2.2.1 HL.out.2.2.2 (o := o) h32
        rw [e2] at KN
        rw [HL2.out] at KN
        rw [e1] at KB
        have KB : Hid (∀ W, Bts W (some ⟨g9, 0, none⟩) (lg p q i o i) → Calls Try.prog 11 #[.slice (some ⟨g9, 0, none⟩) (i + 2) c9] W (Tells (.bool false) W)) := KB
        unfold nxv kv at KN
        simp only at KN
        clear e1 e2 hle9 hb9 HS hbp hmin er1 er2 er3
        go_wp2_with (first
          | (at_builtin
             refine wpList_app2 rfl (.tmp 51) (.tmp 52) rfl g g9 c9 (lg p q i o i) (by rw [lg_len]; rfl) (HX.out.2.2.1.other (Stp.alloc [] _ _) (by simp)) ⟨wr.heap.size, 0, none⟩ 1 1 [67] rfl rfl (bts_one (z := 67) rfl) (by have := HX.out.2.1; simp; omega) (by have := HX.out.1; rw [World.size_alloc]; omega) ?_
             intro v2 w2 ho2 hb2 hg2
             rw [HL2.out] at ho2
             obtain ⟨a3, c3, rfl, hb3, _, hle3, _⟩ := ho2.bts
             have H2 : Aside (Bts w2 a3 L2 ∧ L2.length ≤ c3 ∧ Bts w2 (some ⟨g9, 0, none⟩) (lg p q i o i) ∧ Stp [] w [] w2) :=
               ⟨hb3, hle3, hb2, (Stp.app (v := .slice (some ⟨g9, 0, none⟩) 0 0) (HX.out.2.2.2.1.trans (Stp.alloc [] wr _)) hg2 (fun j hj => by cases hj; rw [← HGW.out]; exact HX.out.2.2.2.2.1)).none⟩
             clear ho2 hb2 hg2 hb3 hle3))
        refine (KN.out _ _ _ H2.out.1 H2.out.2.1).mono ?_
        rintro _ w3 ⟨rfl, s3⟩
        have H3 : Aside (Bts w3 (some ⟨g9, 0, none⟩) (lg p q i o i) ∧ Stp [] w [] w3) := ⟨H2.out.2.2.1.stays s3, H2.out.2.2.2.trans s3⟩
        clear s3 KN
        go_wp2_with fail
        refine (KA.out _).mono ?_
        rintro _ w4 ⟨rfl, s4⟩
        have H4 : Aside (Bts w4 (some ⟨g9, 0, none⟩) (lg p q i o i) ∧ Stp [] w [] w4 ∧ At2 w4 w3.heap.size 15 0) := ⟨(H3.out.1.stays (Stp.alloc [] _ _)).stays s4, H3.out.2.trans ((Stp.alloc [] w3 _).trans s4), (At2.new w3 15 0).stays s4⟩
        clear s4
        generalize w3.heap.size = g3 at *
        obtain ⟨x0, x1, y0, y1⟩ := H4.out.2.2.cells
        go_wp2_with fail
        refine (KB.out _ H4.out.1).mono ?_
        rintro _ w5 ⟨rfl, s5⟩
        go_wp2
        go_ret
        exact ⟨rfl, (H4.out.2.1.trans s5).under⟩
      · have h32z : decide ((32 : Int) < (i : Int)) = false := decide_eq_false (by omega)
        obtain ⟨e1, e2, e3, e4⟩ := lg_short HL.out.1 HL.out.2.1 HL.out.2.2.1 HL.out.2.2.2 (k := i) (o := o) (by omega)
        obtain ⟨kx, mx, ex, hx⟩ : ∃ k m e, nx (lg p q i o i ++ [67]) = ⟨k, m, e⟩ := ⟨_, _, _, rfl⟩
        rw [hx] at KN e2 e3 e4
        rw [HL2.out] at KN
        simp only at e2 e3 e4
        subst e2 e3
        rw [e1] at KB
        have KB : Hid (∀ W, Bts W (some ⟨g9, 0, none⟩) (lg p q i o i) → Calls Try.prog 11 #[.slice (some ⟨g9, 0, none⟩) (i + 2) c9] W (Tells (.bool true) W)) := KB
        have hbb : ∃ bb : Bool, (kx == 5) = bb ∧ ((i : Int) == 0) = bb := by
          by_cases h0 : i = 0
          · exact ⟨true, beq_iff_eq.2 (e4.2 h0), beq_iff_eq.2 (by omega)⟩
          · exact ⟨false, beq_eq_false_iff_ne.2 (fun h => h0 (e4.1 h)), beq_eq_false_iff_ne.2 (by omega)⟩
        obtain ⟨bb, hb1, hb2⟩ := hbb
        unfold nxv kv at KN
        simp only at KN
        clear e1 e4 hx hle9 hb9 HS hbp hmin er1 er2 er3
        go_wp2_with (first
          | (at_builtin
             refine wpList_app rfl (.tmp 78) (.tmp 79) rfl wr.heap.size (.slice (some ⟨wr.heap.size, 0, none⟩) 0 0) [] rfl (Own.new wr) (some ⟨g9, 0, none⟩) c9 (i + 2) (lg p q i o i) (by rw [lg_len]) rfl (HX.out.2.2.2.2.2.stays (Stp.alloc [] _ _)) (fun h => by cases h) (by have := HX.out.2.1; simp; omega) (by simp) ?_
             intro v2 w2 ho2 hg2
             have H2 : Aside (Own w2 wr.heap.size v2 ([] ++ lg p q i o i) ∧ Stp [] wr [] w2) := ⟨ho2, (Stp.alloc [] wr _).app hg2 (fun j hj => by cases hj; exact Nat.le_refl _)⟩
             clear ho2 hg2)
          | (at_builtin
             refine wpList_app rfl (.tmp 80) (.tmp 81) rfl wr.heap.size v2 ([] ++ lg p q i o i) rfl (H2.out.1.other (Stp.alloc [] _ _) (by simp)) (some ⟨w2.heap.size, 0, none⟩) 1 1 [67] rfl rfl (bts_one (z := 67) rfl) (fun h => by cases h) (by have := HX.out.2.1; simp; omega) (by have := H2.out.2.size; rw [World.size_alloc]; omega) ?_
             intro v3 w3 ho3 hg3
             rw [List.nil_append, HL2.out] at ho3
             obtain ⟨a3, c3, rfl, hb3, _, hle3, _⟩ := ho3.bts
             have hs3 : Stp [] wr [] w3 := (H2.out.2.trans (Stp.alloc [] _ _)).app hg3 (fun j hj => (H2.out.1.lt j hj).1)
             have H3 : Aside (Bts w3 a3 L2 ∧ L2.length ≤ c3 ∧ Bts w3 (some ⟨g9, 0, none⟩) (lg p q i o i) ∧ Stp [] w [] w3) :=
               ⟨hb3, hle3, HX.out.2.2.2.2.2.stays hs3, HX.out.2.2.2.1.trans hs3⟩
             clear ho3 hg3 hb3 hle3 hs3))
        refine (KN.out _ _ _ H3.out.1 H3.out.2.1).mono ?_
        rintro _ w4 ⟨rfl, s4⟩
        have H4 : Aside (Bts w4 (some ⟨g9, 0, none⟩) (lg p q i o i) ∧ Stp [] w [] w4) := ⟨H3.out.2.2.1.stays s4, H3.out.2.2.2.trans s4⟩
        clear s4 KN
        go_wp2_with fail
        refine (KA.out _).mono ?_
        rintro _ w5 ⟨rfl, s5⟩
        have H5 : Aside (Bts w5 (some ⟨g9, 0, none⟩) (lg p q i o i) ∧ Stp [] w [] w5 ∧ At2 w5 w4.heap.size kx 0) := ⟨(H4.out.1.stays (Stp.alloc [] _ _)).stays s5, H4.out.2.trans ((Stp.alloc [] w4 _).trans s5), (At2.new w4 kx 0).stays s5⟩
        clear s5
        generalize w4.heap.size = g4 at *
        obtain ⟨x0, x1, y0, y1⟩ := H5.out.2.2.cells
        go_wp2_with fail
        refine (KB.out _ H5.out.1).mono ?_
        rintro _ w6 ⟨rfl, s6⟩
        go_wp2
        go_ret
        exact ⟨rfl, (H5.out.2.1.trans s6).under⟩
end Go.Proofs.Ytndofkjmbipagaa
