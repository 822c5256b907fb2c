/-
  whispererref09.Next, at any bytes.
-/
import Derived.Test.YtdaenaoagejgeaaDoorRefNy
namespace Go.Proofs.YtdaenaoagejgeaaDoor
open Go.RowKit Go.Lib
set_option linter.unusedVariables false

set_option maxHeartbeats 8000000 in
set_option maxRecDepth 100000 in
theorem rnext_run (a : Option Addr) (n cap : Nat) (l : List UInt8) (w : World) (hb : Bts w a l) (hn : n = l.length) (hc : n ≤ cap) (hm : cap ≤ maxLen) (hl : l.length ≤ 1000000) :
    Calls Tryd.prog 31 #[.slice a n cap] w (Tells (nxv (nx l)) w) := by
  have H2 : Aside (Two w w.heap.size (w.heap.size + 1) ((w.alloc (.cells #[.int .i64 0, .int .i64 0] 61)).alloc (.cells #[.int .i64 15, .int .i64 0] 61))) := two_new w
  unfold nxv kv
  rcases l with _ | ⟨c0, r⟩
  · obtain rfl : n = 0 := hn
    rw [nx_nil]
    clear hb
    go_enter Tryd.func31, Tryd.ntmps31
    go_upto_region 2 with fail
    generalize ((w.alloc (.cells #[.int .i64 0, .int .i64 0] 61)).alloc (.cells #[.int .i64 15, .int .i64 0] 61)) = w0 at *
    generalize w.heap.size + 1 = g1 at *
    generalize w.heap.size = g0 at *
    obtain ⟨ca0, ca1, fa0, fa1⟩ := H2.out.1.cells
    have hlt := H2.out.1.lt
    go_wp2
    refine bodyPost_ret (res_key3 rfl _ _ g0 0 0 rfl (H2.out.1.set 0 0)) rfl ?_
    exact ⟨rfl, H2.out.none _ _⟩
  · have hn1 : ((n : Int) == 0) = false := beq_eq_false_iff_ne.2 (by subst hn; simp only [List.length_cons]; omega)
    have hn2 : (0 : Int) < (n : Int) := by subst hn; simp only [List.length_cons]; omega
    obtain ⟨b, off, rfl, hcell⟩ := hb (by simp)
    have hx0 := H2.out.2.2.1.keeps rfl (hcell 0 (by simp))
    rw [Nat.add_zero] at hx0
    have e1 : (c0 :: r)[0]! = c0 := rfl
    rw [e1] at hx0
    unfold bval at hx0
    clear e1
    by_cases h27 : c0 = 27
    · subst h27
      rw [show (UInt8.toNat 27 : Int) = 27 from rfl] at hx0
      rcases r with _ | ⟨c1, r⟩
      · obtain rfl : n = 1 := hn
        rw [nx_short (r := []) rfl]
        show Calls Tryd.prog 31 #[.slice (some ⟨b, off, none⟩) 1 cap] w (Tells (.tuple #[.agg #[.int .i64 0, .int .i64 0], .int .i64 1, .int .i64 7]) w)
        clear hcell hb hn1 hn2
        go_enter Tryd.func31, Tryd.ntmps31
        go_upto_region 2 with fail
        generalize ((w.alloc (.cells #[.int .i64 0, .int .i64 0] 61)).alloc (.cells #[.int .i64 15, .int .i64 0] 61)) = w0 at *
        generalize w.heap.size + 1 = g1 at *
        generalize w.heap.size = g0 at *
        obtain ⟨ca0, ca1, fa0, fa1⟩ := H2.out.1.cells
        have hlt := H2.out.1.lt
        go_wp2
        refine bodyPost_ret (res_key3 rfl _ _ g0 0 0 rfl (H2.out.1.set 0 0)) rfl ?_
        exact ⟨rfl, H2.out.none _ _⟩
      · have hn3 : ((n : Int) == 1) = false := beq_eq_false_iff_ne.2 (by subst hn; simp only [List.length_cons]; omega)
        have hn4 : (1 : Int) < (n : Int) := by subst hn; simp only [List.length_cons]; omega
        have hx1 := H2.out.2.2.1.keeps rfl (hcell 1 (by simp))
        have e1 : ((27 : UInt8) :: c1 :: r)[1]! = c1 := rfl
        rw [e1] at hx1
        unfold bval at hx1
        clear e1
        cases e : rm c1 with
        | none =>
          have hz1 : (((c1.toNat : Nat) : Int) != 91) = true := bne_iff_ne.2 (u8_ne (n := 91) (by omega) (fun h => by subst h; cases e))
          have hz2 : (((c1.toNat : Nat) : Int) != 79) = true := bne_iff_ne.2 (u8_ne (n := 79) (by omega) (fun h => by subst h; cases e))
          have hln := ln_none 27 r e
          rw [nx_over (by rw [hln]), hln]
          show Calls Tryd.prog 31 #[.slice (some ⟨b, off, none⟩) n cap] w (Tells (.tuple #[.agg #[.int .i64 15, .int .i64 0], .int .i64 1, .int .i64 0]) w)
          clear hcell hb hn hln e
          generalize ((c1.toNat : Nat) : Int) = z at *
          go_enter Tryd.func31, Tryd.ntmps31
          go_upto_region 2 with fail
          generalize ((w.alloc (.cells #[.int .i64 0, .int .i64 0] 61)).alloc (.cells #[.int .i64 15, .int .i64 0] 61)) = w0 at *
          generalize w.heap.size + 1 = g1 at *
          generalize w.heap.size = g0 at *
          obtain ⟨ca0, ca1, fa0, fa1⟩ := H2.out.1.cells
          obtain ⟨cb0, cb1, fb0, fb1⟩ := H2.out.2.1.cells
          have hlt := H2.out.1.lt
          go_wp2
          refine bodyPost_ret (res_key3 rfl _ _ g0 15 0 rfl (H2.out.1.set 15 0)) rfl ?_
          exact ⟨rfl, H2.out.none _ _⟩
        | some m =>
          have HL := Lib.hid (ln_some 27 r e)
          have HN : Aside (n = (27 :: c1 :: r).length) := hn
          have HBT : Aside (Bts w (some ⟨b, off, none⟩) (27 :: c1 :: r)) := hb
          have HC : Aside (∀ i, i < (27 :: c1 :: r).length → w.cell? ⟨b, off + i, none⟩ = some (bval ((27 :: c1 :: r)[i]!))) := hcell
          have hn6 : n ≤ 1000000 := by rw [hn]; exact hl
          unfold maxLen at hm
          clear hcell hb hl hn
          by_cases h79 : c1 = 79
          · subst h79
            rw [show (UInt8.toNat 79 : Int) = 79 from rfl] at hx1
            cases e
            rcases r with _ | ⟨c2, r⟩
            · have HR : Aside (ln [27, 79] = (2, false)) := HL.out
              obtain rfl : n = 2 := HN.out
              go_enter Tryd.func31, Tryd.ntmps31
              go_upto_region 2 with fail
              generalize ((w.alloc (.cells #[.int .i64 0, .int .i64 0] 61)).alloc (.cells #[.int .i64 15, .int .i64 0] 61)) = w0 at *
              generalize w.heap.size + 1 = g1 at *
              generalize w.heap.size = g0 at *
              obtain ⟨ca0, ca1, fa0, fa1⟩ := H2.out.1.cells
              obtain ⟨cb0, cb1, fb0, fb1⟩ := H2.out.2.1.cells
              have hlt := H2.out.1.lt
              go_wp2
              go_loopg [6] 1 (fun gk v6 wr => v6 = .int .i64 2 ∧ w0 = wr)
              case atStart => exact ⟨rfl, rfl⟩
              case round =>
                obtain ⟨rfl, hw⟩ := hrel
                subst hw
                go_wp2
                go_loopg [6] 1 (fun gk v6 wx => v6 = .int .i64 2 ∧ w0 = wx)
                case atStart => exact ⟨rfl, rfl⟩
                case round =>
                  obtain ⟨rfl, hw⟩ := hrel
                  subst hw
                  go_wp2
                  refine bodyPost_ret (res_key3 rfl _ _ g0 0 0 rfl (H2.out.1.set 0 0)) rfl ?_
                  exact ⟨by rw [nx_short (by rw [HR.out]), HR.out]; rfl, H2.out.none _ _⟩
            · have hx2 := H2.out.2.2.1.keeps rfl (HC.out 2 (by simp))
              have e1 : ((27 : UInt8) :: 79 :: c2 :: r)[2]! = c2 := rfl
              rw [e1] at hx2
              unfold bval at hx2
              clear e1
              have hn5 : ((n : Int) == 2) = false := beq_eq_false_iff_ne.2 (by have := HN.out; simp only [List.length_cons] at this; omega)
              have hn7 : (2 : Int) < (n : Int) := by have := HN.out; simp only [List.length_cons] at this; omega
              have hn8 : 3 ≤ n := by omega
              obtain ⟨q, hq⟩ : ∃ q, q = c2.toNat := ⟨_, rfl⟩
              rw [← hq] at hx2
              by_cases g1 : 64 ≤ q ∧ q ≤ 126
              · have HR : Aside (ln (27 :: 79 :: c2 :: r) = (3, true)) := by
                  show _ = _
                  rw [HL.out, bd_end _ _ _ (by rw [← hq]; exact g1)]
                have z1 : ¬ (q : Int) < 64 := by omega
                have z2 : ¬ 126 < (q : Int) := by omega
                clear g1 hq
                generalize ((q : Nat) : Int) = z at *
                go_enter Tryd.func31, Tryd.ntmps31
                go_upto_region 2 with fail
                generalize ((w.alloc (.cells #[.int .i64 0, .int .i64 0] 61)).alloc (.cells #[.int .i64 15, .int .i64 0] 61)) = w0 at *
                generalize w.heap.size + 1 = g1 at *
                generalize w.heap.size = g0 at *
                obtain ⟨ca0, ca1, fa0, fa1⟩ := H2.out.1.cells
                obtain ⟨cb0, cb1, fb0, fb1⟩ := H2.out.2.1.cells
                have hlt := H2.out.1.lt
                go_wp2
                go_loopg [6] 1 (fun gk v6 wr => v6 = .int .i64 2 ∧ w0 = wr)
                case atStart => exact ⟨rfl, rfl⟩
                case round =>
                  obtain ⟨rfl, hw⟩ := hrel
                  subst hw
                  go_wp2
                  go_loopg [6] 1 (fun gk v6 wx => v6 = .int .i64 2 ∧ w0 = wx)
                  case atStart => exact ⟨rfl, rfl⟩
                  case round =>
                    obtain ⟨rfl, hw⟩ := hrel
                    subst hw
                    have hcut : ∀ W, (Instr.slice 25 (.slice (some ⟨b, off, none⟩) n cap) (some (.int .i64 1)) (some (.int .i64 (3))) none).run Tryd.prog W = .ok (.slice (some ⟨b, off + 1, none⟩) 2 (cap - 1)) W := fun W => by
                      have h := cut_lh (some ⟨b, off, none⟩) n cap 1 (2 + 1) (by omega) (by omega) W
                      rw [cutp_of (by omega), Nat.add_sub_cancel] at h
                      exact h
                    have hcv : (convert 25 9 (.slice (some ⟨b, off + 1, none⟩) 2 (cap - 1))).run Tryd.prog w0 = .ok (.string (st (((27 :: 79 :: c2 :: r).drop 1).take 2))) w0 := by
                      have h := (HBT.out.stays H2.out.2.2.1).cut (i := 1) (j := 2 + 1) (N := cap) (by omega) (by rw [← HN.out]; omega) (by rw [← HN.out]; omega)
                      rw [cutp_of (by omega), Nat.add_sub_cancel] at h
                      exact conv_bts (cap - 1) 2 h (by simp only [List.length_take, List.length_drop]; rw [← HN.out]; omega)
                    have HK2 : Aside (kk (27 :: ((27 :: 79 :: c2 :: r).drop 1).take 2) = kk ((27 :: 79 :: c2 :: r).take (2 + 1))) := rfl
                    have KY := Lib.hid (key_run (((27 :: 79 :: c2 :: r).drop 1).take 2) w0)
                    generalize ((27 :: 79 :: c2 :: r).drop 1).take 2 = sq at *
                    go_wp2_with fail
                    refine KY.out.mono ?_
                    rintro _ w1 ⟨rfl, s1⟩
                    have HX : Aside (Two w g0 g1 w1) := ⟨H2.out.1.stays s1, H2.out.2.1.stays s1, H2.out.2.2.1.trans s1, H2.out.2.2.2⟩
                    obtain ⟨da0, da1, ea0, ea1⟩ := HX.out.1.cells
                    have hlt1 := HX.out.1.lt
                    unfold kv
                    go_wp2
                    refine bodyPost_ret (res_key3 rfl _ _ g0 _ 0 rfl (HX.out.1.set _ 0)) rfl ?_
                    exact ⟨by rw [nx_over (by rw [HR.out]), HR.out, HK2.out]; rfl, HX.out.none _ _⟩
              · have HR : Aside (ln (27 :: 79 :: c2 :: r) = (2, true)) := by
                  show _ = _
                  rw [HL.out, bd_brk _ _ _ (by rw [← hq]; exact g1) (.inl rfl)]
                have z1 : (q : Int) < 64 ∨ ¬ (q : Int) < 64 ∧ 126 < (q : Int) := by omega
                clear g1 hq
                generalize ((q : Nat) : Int) = z at *
                go_enter Tryd.func31, Tryd.ntmps31
                go_upto_region 2 with fail
                generalize ((w.alloc (.cells #[.int .i64 0, .int .i64 0] 61)).alloc (.cells #[.int .i64 15, .int .i64 0] 61)) = w0 at *
                generalize w.heap.size + 1 = g1 at *
                generalize w.heap.size = g0 at *
                obtain ⟨ca0, ca1, fa0, fa1⟩ := H2.out.1.cells
                obtain ⟨cb0, cb1, fb0, fb1⟩ := H2.out.2.1.cells
                have hlt := H2.out.1.lt
                go_wp2
                go_loopg [6] 1 (fun gk v6 wr => v6 = .int .i64 2 ∧ w0 = wr)
                case atStart => exact ⟨rfl, rfl⟩
                case round =>
                  obtain ⟨rfl, hw⟩ := hrel
                  subst hw
                  go_wp2
                  go_loopg [6] 1 (fun gk v6 wx => v6 = .int .i64 2 ∧ w0 = wx)
                  case atStart => exact ⟨rfl, rfl⟩
                  case round =>
                    obtain ⟨rfl, hw⟩ := hrel
                    subst hw
                    rcases z1 with z1 | ⟨z1, z2⟩
                    all_goals
                      go_wp2
                      refine bodyPost_ret (res_key3 rfl _ _ g0 15 0 rfl (H2.out.1.set 15 0)) rfl ?_
                      exact ⟨by rw [nx_over (by rw [HR.out]), HR.out, kk_brk (l := 27 :: 79 :: c2 :: r) (k := 2) (by rw [← HN.out]; omega) (by omega) (.inl rfl)]; rfl, H2.out.none _ _⟩
          · have h91 : c1 = 91 := by
              unfold rm at e
              by_cases h : c1 = 91
              · exact h
              · rw [if_neg h, if_neg h79] at e; cases e
            subst h91
            rw [show (UInt8.toNat 91 : Int) = 91 from rfl] at hx1
            exact r91 n cap b off r w H2 HN HBT HC hc (by unfold maxLen; omega) hn6 hx0 hx1
    · have hz : ¬ ((c0.toNat : Nat) : Int) = 27 := u8_ne (n := 27) (by omega) h27
      rw [nx_form h27]
      clear hcell hb h27 hn
      generalize ((c0.toNat : Nat) : Int) = z at *
      go_enter Tryd.func31, Tryd.ntmps31
      go_upto_region 2 with fail
      generalize ((w.alloc (.cells #[.int .i64 0, .int .i64 0] 61)).alloc (.cells #[.int .i64 15, .int .i64 0] 61)) = w0 at *
      generalize w.heap.size + 1 = g1 at *
      generalize w.heap.size = g0 at *
      obtain ⟨ca0, ca1, fa0, fa1⟩ := H2.out.1.cells
      have hlt := H2.out.1.lt
      go_wp2
      refine bodyPost_ret (res_key3 rfl _ _ g0 0 0 rfl (H2.out.1.set 0 0)) rfl ?_
      exact ⟨rfl, H2.out.none _ _⟩
end Go.Proofs.YtdaenaoagejgeaaDoor
