/-
  The walk of KeydecCounts: there are never more keys than bytes; each byte is in one key, or held.
-/
import Derived.Test.YthffjcacdcipeaaDoorAliveK
namespace Go.Proofs.YthffjcacdcipeaaDoor
open Go.RowKit Go.Lib
set_option linter.unusedVariables false

theorem lastk_le (h : List UInt8) : (lastk h).length ≤ h.length := by
  rcases h with _ | ⟨c, r⟩
  · simp [lastk]
  · have := lastk_len (c :: r)
    simp only [List.length_cons]
    omega
theorem tells_truth {w w' : World} {e : Ending} (h : Tells (.bool true) w e w') : Truth w e w' := ⟨h.1, h.2.under⟩
set_option maxHeartbeats 1000000 in
set_option maxRecDepth 100000 in
theorem counts_walk (a0 : Option Addr) (cap0 n : Nat) (l : List UInt8) (w : World) (hb : Bts w a0 l) (hn : n = l.length) (hT : U.Tabs w) :
    Calls Tryd.prog 9 #[.slice a0 n cap0] w (Tells (.bool true) w) := by
  have KB := Lib.hid (begin_run w (utabs_size hT))
  have HT : Aside (U.Tabs w ∧ Bts w a0 l ∧ n = l.length) := ⟨hT, hb, hn⟩
  clear hT hb hn
  by_cases hz : 1500 < n
  · have hzz : (1500 : Int) < (n : Int) := by omega
    go_enter Tryd.func9, Tryd.ntmps9
    go_wp2_with fail
    refine KB.out.mono ?_
    intro e w1 hb
    obtain ⟨d, b, g, rfl, hk⟩ := hb.kd
    clear KB hb
    have H1 : Aside (Kd w w1 d b g [] false) := hk
    clear hk
    go_wp2_with fail
    refine (alive_run w1 (H1.out.tabs HT.out.1)).mono ?_
    rintro _ w2 ⟨rfl, s2⟩
    have H2 : Aside (Kd w w2 d b g [] false) := H1.out.stays s2
    clear H1 s2
    go_wp2_with fail
    refine (alive_run w2 (H2.out.tabs HT.out.1)).mono ?_
    rintro _ w3 ⟨rfl, s3⟩
    have H3 : Aside (Stp [] w [] w3) := H2.out.stp.trans s3
    clear H2 s3
    go_wp2
    go_ret
    exact ⟨rfl, H3.out⟩
  · have hzz : ¬ (1500 : Int) < (n : Int) := by omega
    go_enter Tryd.func9, Tryd.ntmps9
    go_wp2_with fail
    refine KB.out.mono ?_
    intro e w1 hb
    obtain ⟨d, b, g, rfl, hk⟩ := hb.kd
    clear KB hb
    have H1 : Aside (Kd w w1 d b g [] false) := hk
    clear hk
    go_wp2_with fail
    refine (alive_run w1 (H1.out.tabs HT.out.1)).mono ?_
    rintro _ w2 ⟨rfl, s2⟩
    have H2 : Aside (Kd w w2 d b g [] false) := H1.out.stays s2
    clear H1 s2
    go_wp2_with fail
    go_loopg [5, 30] n (fun gk v5 vi wr => ∃ k : Nat, vi = .int .i64 (k : Int) ∧ v5 = .int .i64 ((rd false (l.take k)).ks.length : Int) ∧ k ≤ n ∧ n - k ≤ gk ∧ Aside (Kd w wr d b g (rd false (l.take k)).h (rd false (l.take k)).p))
    case atStart => exact ⟨0, rfl, rfl, by omega, by omega, H2.out⟩
    case round =>
      obtain ⟨k, rfl, rfl, hk, hg, HS⟩ := hrel
      by_cases hlt : k < n
      · have hltz : (k : Int) < (n : Int) := by omega
        have hks : k < l.length := by rw [← HT.out.2.2]; exact hlt
        obtain ⟨bb, off, rfl, hc0⟩ := (HT.out.2.1.stays HS.out.stp).at hks
        have HN : Aside (rd false (l.take (k + 1)) = ⟨(rd false (l.take k)).ks ++ (rd (rd false (l.take k)).p ((rd false (l.take k)).h ++ [l[k]!])).ks, (rd (rd false (l.take k)).p ((rd false (l.take k)).h ++ [l[k]!])).h, (rd (rd false (l.take k)).p ((rd false (l.take k)).h ++ [l[k]!])).p⟩) := by
          show rd false ([] ++ l.take (k + 1)) = _
          rw [rd_snoc false [] l k hks]
          rfl
        have hle := rd_len false (l.take (k + 1))
        have hne := rd_ne (p := (rd false (l.take k)).p) (l := (rd false (l.take k)).h ++ [l[k]!]) (by simp)
        rw [HN.out] at hle
        have hlt2 : (l.take (k + 1)).length = k + 1 := by rw [List.length_take]; omega
        rw [hlt2] at hle
        generalize rd false (l.take k) = Q at *
        generalize l[k]! = c at *
        have KF := feed_lit HS.out HT.out.1 [c] 1 rfl (by omega)
        have HE := rd_end Q.p (Q.h ++ [c])
        generalize rd Q.p (Q.h ++ [c]) = q at *
        have KF2 : Hid (Calls Tryd.prog 13 #[.pointer (some ⟨d, 0, none⟩), .slice (some ⟨wr.heap.size, 0, none⟩) 1 1] (wr.alloc (.cells #[.int .u8 (c.toNat : Int)] 5)) (Fed (wr.alloc (.cells #[.int .u8 (c.toNat : Int)] 5)) d b g 40 q)) := Lib.hid KF
        clear KF
        unfold bval at hc0
        have HE := Lib.hid HE
        simp only [List.length_append] at hle
        obtain ⟨A, hA⟩ : ∃ A, A = Q.ks.length := ⟨_, rfl⟩
        obtain ⟨B, hB⟩ : ∃ B, B = q.ks.length := ⟨_, rfl⟩
        obtain ⟨C, hC⟩ : ∃ C, C = q.h.length := ⟨_, rfl⟩
        have hne2 : B ≠ 0 ∨ C ≠ 0 := by
          rcases hne with e | e
          · exact .inl (by rw [hB]; exact fun g => e (List.length_eq_zero_iff.1 g))
          · exact .inr (by rw [hC]; exact fun g => e (List.length_eq_zero_iff.1 g))
        rw [← hA, ← hB, ← hC] at hle
        rw [← hA]
        have HZ := Lib.hid (And.intro hA (And.intro hB hC))
        clear hA hB hC hne hks hlt2
        generalize ((c.toNat : Nat) : Int) = z at *
        have i1 : IntKind.i64.wrap ((A : Int) + (B : Int)) = (A : Int) + (B : Int) := by rw [IntKind.wrap_i64]; omega
        have i2 : decide ((k : Int) + 1 < (A : Int) + (B : Int)) = false := decide_eq_false (by omega)
        have i3 : decide ((k : Int) + 1 < (C : Int)) = false := decide_eq_false (by omega)
        have i4 : IntKind.i64.wrap ((k : Int) + 1) = (k : Int) + 1 := by rw [IntKind.wrap_i64]; omega
        have i5 : (((B : Int) == 0) = true ∧ ((C : Int) == 0) = false) ∨ ((B : Int) == 0) = false := by
          by_cases e : B = 0
          · exact .inl ⟨by rw [e]; rfl, beq_eq_false_iff_ne.2 (by omega)⟩
          · exact .inr (beq_eq_false_iff_ne.2 (by omega))
        have HM : Aside (k + 1 ≤ n ∧ n - (k + 1) ≤ gk - 1) := ⟨by omega, by omega⟩
        clear hne2 hle
        rcases i5 with ⟨i5, i6⟩ | i5
        all_goals
          go_wp2_with fail
          refine KF2.out.mono ?_
          rintro _ w3 ⟨v3, rfl, h3⟩
          have H3 : Aside (Kd w w3 d b g q.h q.p) := (HS.out.stays (Stp.alloc [] wr _)).turn h3.stp h3.dc HE.out
          obtain ⟨a3, c3, ev, _, _, _, _⟩ := h3.row.form
          rw [← HZ.out.2.1] at ev
          subst ev
          have KH : Hid (Calls Tryd.prog 16 #[.pointer (some ⟨d, 0, none⟩)] w3 (Gives (.int .i64 (C : Int)) w3)) := Lib.hid (by rw [HZ.out.2.2]; exact held_run H3.out.dc)
          have KL : Hid (Calls Tryd.prog 30 #[.pointer (some ⟨b, 0, none⟩)] w3 (Gives (.int .i64 (C : Int)) w3)) := Lib.hid (by rw [HZ.out.2.2]; exact len_cl H3.out.dc.ar)
          clear h3 KF2 HS hc0
          go_wp2_with (first
            | (go_at_call 16; refine KH.out.mono ?_; rintro _ w3 ⟨rfl, rfl⟩)
            | (go_at_call 30; refine KL.out.mono ?_; rintro _ w3 ⟨rfl, rfl⟩))
          go_roundg (gk - 1)
          case measure => omega
          case rel =>
            refine ⟨k + 1, by go_num, ?_, HM.out.1, HM.out.2, ?_⟩
            · rw [HN.out, List.length_append, ← HZ.out.1, ← HZ.out.2.1]
              go_num
            · show Kd _ _ _ _ _ _ _
              rw [HN.out]
              exact H3.out
      · have hltz : ¬ (k : Int) < (n : Int) := by omega
        obtain rfl : k = n := by omega
        have el : l.take k = l := List.take_of_length_le (by rw [HT.out.2.2]; exact Nat.le_refl _)
        rw [el] at HS
        rw [el]
        have hle := rd_len false l
        have hl2 := lastk_le (rd false l).h
        have hl3 := lastk_len (rd false l).h
        rw [← HT.out.2.2] at hle
        have KF := finish_run HS.out.dc
        generalize lastk (rd false l).h = ls at *
        generalize rd false l = Q at *
        obtain ⟨A, hA⟩ : ∃ A, A = Q.ks.length := ⟨_, rfl⟩
        obtain ⟨B, hB⟩ : ∃ B, B = ls.length := ⟨_, rfl⟩
        have KF0 := Lib.hid KF
        clear KF
        have HZ := Lib.hid (And.intro hA hB)
        have i1 : IntKind.i64.wrap ((A : Int) + (B : Int)) = (A : Int) + (B : Int) := by rw [IntKind.wrap_i64]; omega
        have i2 : decide ((A : Int) + (B : Int) ≤ (k : Int)) = true := decide_eq_true (by omega)
        have i3 : decide ((B : Int) ≤ 1) = true := decide_eq_true (by omega)
        rw [← hA]
        clear hA hB hle hl2 hl3
        go_wp2_with fail
        refine KF0.out.mono ?_
        rintro _ w3 ⟨v3, rfl, h3⟩
        obtain ⟨a3, c3, ev, _, _, _, _⟩ := h3.row.form
        rw [← HZ.out.2] at ev
        subst ev
        have H3 : Aside (Stp [] w [] w3) := (HS.out.fin h3).stp
        clear h3 KF0
        go_wp2
        go_ret
        exact ⟨rfl, H3.out⟩
end Go.Proofs.YthffjcacdcipeaaDoor
