/-
  whispererref09.Next.
-/
import Derived.Test.YtdaenaoagejgeaaDoorRefK
import Derived.Deep.DeepCutAuto
import Derived.Deep.CutBlock
namespace Go.Proofs.YtdaenaoagejgeaaDoor
open Go.RowKit Go.Lib
set_option linter.unusedVariables false

theorem kns_all : ∀ p ∈ kns, 3 ≤ p.1.length ∧ 64 ≤ (p.1.getLast?.getD 0).toNat := by decide
theorem kk_len {s : List UInt8} (h : s.length ≤ 2) : kk s = 15 := by
  rcases kk_cases s with ⟨_, e⟩ | ⟨z, _, _, hm⟩
  · exact e
  · have h3 : 3 ≤ s.length := (kns_all _ hm).1
    omega
theorem kk_last {s : List UInt8} (h : (s.getLast?.getD 0).toNat < 64) : kk s = 15 := by
  rcases kk_cases s with ⟨_, e⟩ | ⟨z, _, _, hm⟩
  · exact e
  · have h3 : 64 ≤ (s.getLast?.getD 0).toNat := (kns_all _ hm).2
    omega
/-- A beginning is no whole sequence. -/
theorem kk_brk {l : List UInt8} {k : Nat} (hk : k ≤ l.length) (h2 : 2 ≤ k) (h : k = 2 ∨ (l[k - 1]!).toNat < 64) : kk (l.take k) = 15 := by
  rcases h with rfl | h
  · exact kk_len (by simp; omega)
  · apply kk_last
    rw [List.getLast?_eq_getElem?]
    have e : (l.take k).length - 1 = k - 1 := by simp; omega
    rw [e, List.getElem?_take, if_pos (by omega), List.getElem?_eq_getElem (by omega)]
    rw [getElem!_pos l (k - 1) (by omega)] at h
    exact h
/-- How the first loop is left. -/
def Ex1 (k n q : Nat) : Prop := (¬ k < n) ∨ (k < n ∧ ¬ k < 34) ∨ (k < n ∧ k < 34 ∧ ¬ 48 ≤ q) ∨ (k < n ∧ k < 34 ∧ 48 ≤ q ∧ ¬ q ≤ 63)
/-- What stands at a place of the second loop. -/
def Ex2 (k n q : Nat) : Prop := (¬ k < n) ∨ (k < n ∧ ((k < 34 ∧ 32 ≤ q ∧ q ≤ 47) ∨ ¬ (k < 34 ∧ 32 ≤ q ∧ q ≤ 47)))
/-- The two blocks that are laid first: the answer's, and the key of what breaks off. -/
def Two (w : World) (g0 g1 : Nat) (w0 : World) : Prop := At2 w0 g0 0 0 ∧ At2 w0 g1 15 0 ∧ Stp [] w [] w0 ∧ g0 < g1 ∧ w.heap.size ≤ g0
theorem two_new (w : World) : Two w w.heap.size (w.heap.size + 1) ((w.alloc (.cells #[.int .i64 0, .int .i64 0] 61)).alloc (.cells #[.int .i64 15, .int .i64 0] 61)) :=
  ⟨(At2.new w 0 0).stays (Stp.alloc [] _ _), heap_alloc2_new w _ _, (Stp.alloc [] w _).trans (Stp.alloc [] _ _), by omega, Nat.le_refl _⟩
theorem Two.none {w w0 : World} {g0 g1 : Nat} (h : Two w g0 g1 w0) (a b : Value) : Stp [] w [] ((w0.setCell ⟨g0, 0, none⟩ a).setCell ⟨g0, 1, none⟩ b) :=
  (h.2.2.1.fresh (At2.stp _ _ _ _) (fun i hi => by rw [List.mem_singleton.1 hi]; exact h.2.2.2.2)).none

set_option maxHeartbeats 16000000 in
set_option maxRecDepth 100000 in
theorem r91 (n cap b off : Nat) (r : List UInt8) (w : World) (H2 : Aside (Two w w.heap.size (w.heap.size + 1) ((w.alloc (.cells #[.int .i64 0, .int .i64 0] 61)).alloc (.cells #[.int .i64 15, .int .i64 0] 61)))) (HN : Aside (n = (27 :: 91 :: r).length)) (HBT : Aside (Bts w (some ⟨b, off, none⟩) (27 :: 91 :: r)))
    (HC : Aside (∀ i, i < (27 :: 91 :: r).length → w.cell? ⟨b, off + i, none⟩ = some (bval ((27 :: 91 :: r)[i]!)))) (hc : n ≤ cap) (hm : cap ≤ maxLen) (hn6 : n ≤ 1000000)
    (hx0 : ((w.alloc (.cells #[.int .i64 0, .int .i64 0] 61)).alloc (.cells #[.int .i64 15, .int .i64 0] 61)).cell? ⟨b, off, none⟩ = some (.int .u8 27)) (hx1 : ((w.alloc (.cells #[.int .i64 0, .int .i64 0] 61)).alloc (.cells #[.int .i64 15, .int .i64 0] 61)).cell? ⟨b, off + 1, none⟩ = some (.int .u8 91)) :
    Calls Tryd.prog 31 #[.slice (some ⟨b, off, none⟩) n cap] w (Tells (.tuple #[.agg #[.int .i64 (nx (27 :: 91 :: r)).k, .int .i64 0], .int .i64 ((nx (27 :: 91 :: r)).n : Int), .int .i64 (nx (27 :: 91 :: r)).e]) w) := by
  have hn1 : ((n : Int) == 0) = false := beq_eq_false_iff_ne.2 (by have := HN.out; simp only [List.length_cons] at this; omega)
  have hn2 : (0 : Int) < (n : Int) := by have := HN.out; simp only [List.length_cons] at this; omega
  have hn3 : ((n : Int) == 1) = false := beq_eq_false_iff_ne.2 (by have := HN.out; simp only [List.length_cons] at this; omega)
  have hn4 : (1 : Int) < (n : Int) := by have := HN.out; simp only [List.length_cons] at this; omega
  have HL := Lib.hid (ln_some (c := 91) (m := 32) 27 r rfl)
  unfold maxLen at hm
  go_enter Tryd.func31, Tryd.ntmps31
  go_upto_region 2 with fail
  generalize ((w.alloc (.cells #[.int .i64 0, .int .i64 0] 61)).alloc (.cells #[.int .i64 15, .int .i64 0] 61)) = w0 at *
  generalize w.heap.size + 1 = g1 at *
  generalize w.heap.size = g0 at *
  obtain ⟨ca0, ca1, fa0, fa1⟩ := H2.out.1.cells
  obtain ⟨cb0, cb1, fb0, fb1⟩ := H2.out.2.1.cells
  have hlt := H2.out.1.lt
  go_wp2
  go_loopg [6] n (fun gk v6 wr => ∃ k : Nat, v6 = .int .i64 (k : Int) ∧ w0 = wr ∧ 2 ≤ k ∧ k ≤ n ∧ k ≤ 34 ∧ n - k ≤ gk ∧ Aside (ln (27 :: 91 :: r) = (k + (bd (34 - k) 64 ((27 :: 91 :: r).drop k)).1, (bd (34 - k) 64 ((27 :: 91 :: r).drop k)).2)) ∧ Aside (k = 2 ∨ ((27 :: 91 :: r)[k - 1]!).toNat < 64))
  case atStart =>
    refine ⟨2, rfl, rfl, by omega, by omega, by omega, by omega, ?_, .inl rfl⟩
    show _ = _
    rw [HL.out]
    exact Prod.ext (Nat.add_comm _ _) rfl
  case round =>
    obtain ⟨k, rfl, hw, hk2, hkn, hk34, hg, HK, HB⟩ := hrel
    subst hw
    -- what the second loop starts with
    have HD : k < n → Aside ((27 :: 91 :: r).drop k = (27 :: 91 :: r)[k]! :: (27 :: 91 :: r).drop (k + 1)) := fun hkl => by
      show _ = _
      have hkl2 : k < ((27 : UInt8) :: 91 :: r).length := by rw [← HN.out]; exact hkl
      rw [getElem!_pos _ k hkl2, List.drop_eq_getElem_cons hkl2]
    by_cases hA : k < n ∧ k < 34 ∧ 48 ≤ ((27 :: 91 :: r)[k]!).toNat ∧ ((27 :: 91 :: r)[k]!).toNat ≤ 63
    · obtain ⟨h1, h2, h3, h4⟩ := hA
      have hxk := H2.out.2.2.1.keeps rfl (HC.out k (by rw [← HN.out]; exact h1))
      unfold bval at hxk
      have HR : Aside (ln (27 :: 91 :: r) = (k + 1 + (bd (34 - (k + 1)) 64 ((27 :: 91 :: r).drop (k + 1))).1, (bd (34 - (k + 1)) 64 ((27 :: 91 :: r).drop (k + 1))).2)) := by
        show _ = _
        rw [HK.out, (HD h1).out, bd_go _ _ _ (by omega) (by omega), if_neg (by omega), show 34 - k - 1 = 34 - (k + 1) from by omega]
        exact Prod.ext (show k + (_ + 1) = k + 1 + _ by omega) rfl
      have HB2 : Aside (k + 1 = 2 ∨ ((27 :: 91 :: r)[k + 1 - 1]!).toNat < 64) := .inr (by rw [Nat.add_sub_cancel]; omega)
      generalize (((27 :: 91 :: r)[k]!).toNat) = q at *
      have y1 : (k : Int) < (n : Int) := by omega
      have y2 : (k : Int) < 34 := by omega
      have y3 : (48 : Int) ≤ (q : Int) := by omega
      have y4 : (q : Int) ≤ 63 := by omega
      clear HD HK HB h3 h4
      generalize ((q : Nat) : Int) = z at *
      go_wp2
      go_roundg (n - (k + 1))
      case measure => omega
      case rel => exact ⟨k + 1, by go_num, rfl, by omega, by omega, by omega, by omega, HR, HB2⟩
    · have hE : Ex1 k n ((27 :: 91 :: r)[k]!).toNat := by unfold Ex1; omega
      have HS : Aside (k = n ∨ k = 34 ∨ ¬ (48 ≤ ((27 :: 91 :: r)[k]!).toNat ∧ ((27 :: 91 :: r)[k]!).toNat ≤ 63)) := by show _ ∨ _; omega
      have hxk : k < n → w0.cell? ⟨b, off + k, none⟩ = some (.int .u8 ((((27 :: 91 :: r)[k]!).toNat : Nat) : Int)) := fun h1 => H2.out.2.2.1.keeps rfl (HC.out k (by rw [← HN.out]; exact h1))
      clear HD hA
      rcases hE with h1 | ⟨h1, h2⟩ | ⟨h1, h2, h3⟩ | ⟨h1, h2, h3, h4⟩
      · have y1 : decide ((k : Int) < (n : Int)) = false := decide_eq_false (by omega)
        clear hxk
        go_wp2
        clear hg
        try clear h1
        try clear h2
        try clear y1
        try clear y2
        try clear y3
        try clear y4
        try clear hxk
        go_loopg [6] n (fun gk v6 wr => ∃ i hi : Nat, v6 = .int .i64 (i : Int) ∧ w0 = wr ∧ 2 ≤ i ∧ i ≤ n ∧ i ≤ 34 ∧ (hi = 48 ∨ hi = 64) ∧ n - i ≤ gk ∧ Aside (ln (27 :: 91 :: r) = (i + (bd (34 - i) hi ((27 :: 91 :: r).drop i)).1, (bd (34 - i) hi ((27 :: 91 :: r).drop i)).2)) ∧ Aside (i = 2 ∨ ((27 :: 91 :: r)[i - 1]!).toNat < 64) ∧ Aside (hi = 64 → i = n ∨ i = 34 ∨ ¬ (48 ≤ ((27 :: 91 :: r)[i]!).toNat ∧ ((27 :: 91 :: r)[i]!).toNat ≤ 63)))
        case atStart => exact ⟨k, 64, rfl, rfl, hk2, hkn, hk34, .inr rfl, by omega, HK, HB, fun _ => HS.out⟩
        case round =>
          clear HK HB HS hk2 hkn hk34
          obtain ⟨i, hi, rfl, hw, hk2, hkn, hk34, hhi, hg, HK, HB, HS⟩ := hrel
          subst hw
          have HD : i < n → Aside ((27 :: 91 :: r).drop i = (27 :: 91 :: r)[i]! :: (27 :: 91 :: r).drop (i + 1)) := fun hkl => by
            show _ = _
            have hkl2 : i < ((27 : UInt8) :: 91 :: r).length := by rw [← HN.out]; exact hkl
            rw [getElem!_pos _ i hkl2, List.drop_eq_getElem_cons hkl2]
          have hxk : i < n → w0.cell? ⟨b, off + i, none⟩ = some (.int .u8 ((((27 :: 91 :: r)[i]!).toNat : Nat) : Int)) := fun h1 => H2.out.2.2.1.keeps rfl (HC.out i (by rw [← HN.out]; exact h1))
          have hE : Ex2 i n ((27 :: 91 :: r)[i]!).toNat := by unfold Ex2; omega
          rcases hE with h1 | ⟨h1, hW⟩
          · have HR : Aside (ln (27 :: 91 :: r) = (i, false)) := by
              show _ = _
              rw [HK.out, List.drop_eq_nil_of_le (by rw [← HN.out]; omega)]
              rfl
            obtain rfl : i = n := by omega
            clear HK HB HS HD hxk hhi h1
            go_wp2
            refine bodyPost_ret (res_key3 rfl _ _ g0 0 0 rfl (H2.out.1.set 0 0)) rfl ?_
            exact ⟨by rw [nx_short (by rw [HR.out]), HR.out]; rfl, H2.out.none _ _⟩
          · replace hxk := hxk h1
            replace HD := HD h1
            have y0 : ((i : Int) == (n : Int)) = false := beq_eq_false_iff_ne.2 (by omega)
            have y1 : (i : Int) < (n : Int) := by omega
            rcases hW with ⟨h2, h3, h4⟩ | hW
            · have HR : Aside (ln (27 :: 91 :: r) = (i + 1 + (bd (34 - (i + 1)) 48 ((27 :: 91 :: r).drop (i + 1))).1, (bd (34 - (i + 1)) 48 ((27 :: 91 :: r).drop (i + 1))).2)) := by
                show _ = _
                rw [HK.out, HD.out, bd_go _ _ _ (by omega) (by omega), if_pos (by omega), show 34 - i - 1 = 34 - (i + 1) from by omega]
                exact Prod.ext (show i + (_ + 1) = i + 1 + _ by omega) rfl
              have HB2 : Aside (i + 1 = 2 ∨ ((27 :: 91 :: r)[i + 1 - 1]!).toNat < 64) := .inr (by rw [Nat.add_sub_cancel]; omega)
              have y2 : (i : Int) < 34 := by omega
              clear HK HB HS HD hhi
              generalize (((27 :: 91 :: r)[i]!).toNat) = q at *
              have y3 : (32 : Int) ≤ (q : Int) := by omega
              have y4 : (q : Int) ≤ 47 := by omega
              clear h3 h4
              generalize ((q : Nat) : Int) = z at *
              go_wp2
              go_roundg (n - (i + 1))
              case measure => omega
              case rel => exact ⟨i + 1, 48, by go_num, rfl, by omega, by omega, by omega, .inl rfl, by omega, HR, HB2, fun h => absurd h (by decide)⟩
            · by_cases hEnd : 64 ≤ ((27 :: 91 :: r)[i]!).toNat ∧ ((27 :: 91 :: r)[i]!).toNat ≤ 126
              · have HR : Aside (ln (27 :: 91 :: r) = (i + 1, true)) := by
                  show _ = _
                  rw [HK.out, HD.out, bd_end _ _ _ hEnd]
                clear HK HB HS HD hhi
                generalize (((27 :: 91 :: r)[i]!).toNat) = q at *
                have y3 : (32 : Int) ≤ (q : Int) := by omega
                have y4 : decide ((q : Int) ≤ 47) = false := decide_eq_false (by omega)
                have y5 : decide ((q : Int) < 64) = false := decide_eq_false (by omega)
                have y6 : decide (126 < (q : Int)) = false := decide_eq_false (by omega)
                have y7 : (i : Int) < 34 ∨ decide ((i : Int) < 34) = false := (Classical.em ((i : Int) < 34)).imp id decide_eq_false
                clear hW hEnd
                generalize ((q : Nat) : Int) = z at *
                rcases y7 with y7 | y7
                all_goals
                  have hcut : ∀ W, (Instr.slice 25 (.slice (some ⟨b, off, none⟩) n cap) (some (.int .i64 1)) (some (.int .i64 ((i : Int) + 1))) none).run Tryd.prog W = .ok (.slice (some ⟨b, off + 1, none⟩) i (cap - 1)) W := fun W => by
                    have h := cut_lh (some ⟨b, off, none⟩) n cap 1 (i + 1) (by omega) (by omega) W
                    rw [cutp_of (by omega), Nat.add_sub_cancel] at h
                    exact h
                  have hcv : (convert 25 9 (.slice (some ⟨b, off + 1, none⟩) i (cap - 1))).run Tryd.prog w0 = .ok (.string (st (((27 :: 91 :: r).drop 1).take i))) w0 := by
                    have h := (HBT.out.stays H2.out.2.2.1).cut (i := 1) (j := i + 1) (N := cap) (by omega) (by rw [← HN.out]; omega) (by rw [← HN.out]; omega)
                    rw [cutp_of (by omega), Nat.add_sub_cancel] at h
                    exact conv_bts (cap - 1) i h (by simp only [List.length_take, List.length_drop]; rw [← HN.out]; omega)
                  have HK2 : Aside (kk (27 :: ((27 :: 91 :: r).drop 1).take i) = kk ((27 :: 91 :: r).take (i + 1))) := rfl
                  have KY := Lib.hid (key_run (((27 :: 91 :: r).drop 1).take i) w0)
                  generalize ((27 :: 91 :: r).drop 1).take i = sq at *
                  go_wp2_with fail
                  refine KY.out.mono ?_
                  rintro _ w1 ⟨rfl, s1⟩
                  have HX : Aside (Two w g0 g1 w1) := ⟨H2.out.1.stays s1, H2.out.2.1.stays s1, H2.out.2.2.1.trans s1, H2.out.2.2.2⟩
                  obtain ⟨da0, da1, ea0, ea1⟩ := HX.out.1.cells
                  have hlt1 := HX.out.1.lt
                  unfold kv
                  go_wp2
                  refine bodyPost_ret (res_key3 rfl _ _ g0 _ 0 rfl (HX.out.1.set _ 0)) rfl ?_
                  exact ⟨by rw [nx_over (by rw [HR.out]), HR.out, HK2.out]; go_num, HX.out.none _ _⟩
              · have HR : Aside (ln (27 :: 91 :: r) = (i, true)) := by
                  have hs := HS.out
                  show _ = _
                  rw [HK.out, HD.out, bd_brk _ _ _ hEnd (by omega)]
                  rfl
                clear HK HS HD hhi
                generalize (((27 :: 91 :: r)[i]!).toNat) = q at *
                have y3 : (decide ((i : Int) < 34) = false ∧ (q : Int) < 64) ∨ (decide ((i : Int) < 34) = false ∧ decide ((q : Int) < 64) = false ∧ 126 < (q : Int)) ∨ ((i : Int) < 34 ∧ decide ((32 : Int) ≤ (q : Int)) = false ∧ (q : Int) < 64) ∨ ((i : Int) < 34 ∧ (32 : Int) ≤ (q : Int) ∧ decide ((q : Int) ≤ 47) = false ∧ (q : Int) < 64) ∨ ((i : Int) < 34 ∧ (32 : Int) ≤ (q : Int) ∧ decide ((q : Int) ≤ 47) = false ∧ decide ((q : Int) < 64) = false ∧ 126 < (q : Int)) := by simp only [decide_eq_false_iff_not]; omega
                clear hW hEnd
                generalize ((q : Nat) : Int) = z at *
                rcases y3 with ⟨y3, y4⟩ | ⟨y3, y4, y5⟩ | ⟨y3, y4, y5⟩ | ⟨y3, y4, y5, y6⟩ | ⟨y3, y4, y5, y6, y7⟩
                all_goals
                  go_wp2
                  refine bodyPost_ret (res_key3 rfl _ _ g0 15 0 rfl (H2.out.1.set 15 0)) rfl ?_
                  exact ⟨by rw [nx_over (by rw [HR.out]), HR.out, kk_brk (l := 27 :: 91 :: r) (k := i) (by rw [← HN.out]; omega) (by omega) HB.out]; rfl, H2.out.none _ _⟩
      · have y1 : (k : Int) < (n : Int) := by omega
        have y2 : decide ((k : Int) < 34) = false := decide_eq_false (by omega)
        clear hxk
        go_wp2
        clear hg
        try clear h1
        try clear h2
        try clear y1
        try clear y2
        try clear y3
        try clear y4
        try clear hxk
        go_loopg [6] n (fun gk v6 wr => ∃ i hi : Nat, v6 = .int .i64 (i : Int) ∧ w0 = wr ∧ 2 ≤ i ∧ i ≤ n ∧ i ≤ 34 ∧ (hi = 48 ∨ hi = 64) ∧ n - i ≤ gk ∧ Aside (ln (27 :: 91 :: r) = (i + (bd (34 - i) hi ((27 :: 91 :: r).drop i)).1, (bd (34 - i) hi ((27 :: 91 :: r).drop i)).2)) ∧ Aside (i = 2 ∨ ((27 :: 91 :: r)[i - 1]!).toNat < 64) ∧ Aside (hi = 64 → i = n ∨ i = 34 ∨ ¬ (48 ≤ ((27 :: 91 :: r)[i]!).toNat ∧ ((27 :: 91 :: r)[i]!).toNat ≤ 63)))
        case atStart => exact ⟨k, 64, rfl, rfl, hk2, hkn, hk34, .inr rfl, by omega, HK, HB, fun _ => HS.out⟩
        case round =>
          clear HK HB HS hk2 hkn hk34
          obtain ⟨i, hi, rfl, hw, hk2, hkn, hk34, hhi, hg, HK, HB, HS⟩ := hrel
          subst hw
          have HD : i < n → Aside ((27 :: 91 :: r).drop i = (27 :: 91 :: r)[i]! :: (27 :: 91 :: r).drop (i + 1)) := fun hkl => by
            show _ = _
            have hkl2 : i < ((27 : UInt8) :: 91 :: r).length := by rw [← HN.out]; exact hkl
            rw [getElem!_pos _ i hkl2, List.drop_eq_getElem_cons hkl2]
          have hxk : i < n → w0.cell? ⟨b, off + i, none⟩ = some (.int .u8 ((((27 :: 91 :: r)[i]!).toNat : Nat) : Int)) := fun h1 => H2.out.2.2.1.keeps rfl (HC.out i (by rw [← HN.out]; exact h1))
          have hE : Ex2 i n ((27 :: 91 :: r)[i]!).toNat := by unfold Ex2; omega
          rcases hE with h1 | ⟨h1, hW⟩
          · have HR : Aside (ln (27 :: 91 :: r) = (i, false)) := by
              show _ = _
              rw [HK.out, List.drop_eq_nil_of_le (by rw [← HN.out]; omega)]
              rfl
            obtain rfl : i = n := by omega
            clear HK HB HS HD hxk hhi h1
            go_wp2
            refine bodyPost_ret (res_key3 rfl _ _ g0 0 0 rfl (H2.out.1.set 0 0)) rfl ?_
            exact ⟨by rw [nx_short (by rw [HR.out]), HR.out]; rfl, H2.out.none _ _⟩
          · replace hxk := hxk h1
            replace HD := HD h1
            have y0 : ((i : Int) == (n : Int)) = false := beq_eq_false_iff_ne.2 (by omega)
            have y1 : (i : Int) < (n : Int) := by omega
            rcases hW with ⟨h2, h3, h4⟩ | hW
            · have HR : Aside (ln (27 :: 91 :: r) = (i + 1 + (bd (34 - (i + 1)) 48 ((27 :: 91 :: r).drop (i + 1))).1, (bd (34 - (i + 1)) 48 ((27 :: 91 :: r).drop (i + 1))).2)) := by
                show _ = _
                rw [HK.out, HD.out, bd_go _ _ _ (by omega) (by omega), if_pos (by omega), show 34 - i - 1 = 34 - (i + 1) from by omega]
                exact Prod.ext (show i + (_ + 1) = i + 1 + _ by omega) rfl
              have HB2 : Aside (i + 1 = 2 ∨ ((27 :: 91 :: r)[i + 1 - 1]!).toNat < 64) := .inr (by rw [Nat.add_sub_cancel]; omega)
              have y2 : (i : Int) < 34 := by omega
              clear HK HB HS HD hhi
              generalize (((27 :: 91 :: r)[i]!).toNat) = q at *
              have y3 : (32 : Int) ≤ (q : Int) := by omega
              have y4 : (q : Int) ≤ 47 := by omega
              clear h3 h4
              generalize ((q : Nat) : Int) = z at *
              go_wp2
              go_roundg (n - (i + 1))
              case measure => omega
              case rel => exact ⟨i + 1, 48, by go_num, rfl, by omega, by omega, by omega, .inl rfl, by omega, HR, HB2, fun h => absurd h (by decide)⟩
            · by_cases hEnd : 64 ≤ ((27 :: 91 :: r)[i]!).toNat ∧ ((27 :: 91 :: r)[i]!).toNat ≤ 126
              · have HR : Aside (ln (27 :: 91 :: r) = (i + 1, true)) := by
                  show _ = _
                  rw [HK.out, HD.out, bd_end _ _ _ hEnd]
                clear HK HB HS HD hhi
                generalize (((27 :: 91 :: r)[i]!).toNat) = q at *
                have y3 : (32 : Int) ≤ (q : Int) := by omega
                have y4 : decide ((q : Int) ≤ 47) = false := decide_eq_false (by omega)
                have y5 : decide ((q : Int) < 64) = false := decide_eq_false (by omega)
                have y6 : decide (126 < (q : Int)) = false := decide_eq_false (by omega)
                have y7 : (i : Int) < 34 ∨ decide ((i : Int) < 34) = false := (Classical.em ((i : Int) < 34)).imp id decide_eq_false
                clear hW hEnd
                generalize ((q : Nat) : Int) = z at *
                rcases y7 with y7 | y7
                all_goals
                  have hcut : ∀ W, (Instr.slice 25 (.slice (some ⟨b, off, none⟩) n cap) (some (.int .i64 1)) (some (.int .i64 ((i : Int) + 1))) none).run Tryd.prog W = .ok (.slice (some ⟨b, off + 1, none⟩) i (cap - 1)) W := fun W => by
                    have h := cut_lh (some ⟨b, off, none⟩) n cap 1 (i + 1) (by omega) (by omega) W
                    rw [cutp_of (by omega), Nat.add_sub_cancel] at h
                    exact h
                  have hcv : (convert 25 9 (.slice (some ⟨b, off + 1, none⟩) i (cap - 1))).run Tryd.prog w0 = .ok (.string (st (((27 :: 91 :: r).drop 1).take i))) w0 := by
                    have h := (HBT.out.stays H2.out.2.2.1).cut (i := 1) (j := i + 1) (N := cap) (by omega) (by rw [← HN.out]; omega) (by rw [← HN.out]; omega)
                    rw [cutp_of (by omega), Nat.add_sub_cancel] at h
                    exact conv_bts (cap - 1) i h (by simp only [List.length_take, List.length_drop]; rw [← HN.out]; omega)
                  have HK2 : Aside (kk (27 :: ((27 :: 91 :: r).drop 1).take i) = kk ((27 :: 91 :: r).take (i + 1))) := rfl
                  have KY := Lib.hid (key_run (((27 :: 91 :: r).drop 1).take i) w0)
                  generalize ((27 :: 91 :: r).drop 1).take i = sq at *
                  go_wp2_with fail
                  refine KY.out.mono ?_
                  rintro _ w1 ⟨rfl, s1⟩
                  have HX : Aside (Two w g0 g1 w1) := ⟨H2.out.1.stays s1, H2.out.2.1.stays s1, H2.out.2.2.1.trans s1, H2.out.2.2.2⟩
                  obtain ⟨da0, da1, ea0, ea1⟩ := HX.out.1.cells
                  have hlt1 := HX.out.1.lt
                  unfold kv
                  go_wp2
                  refine bodyPost_ret (res_key3 rfl _ _ g0 _ 0 rfl (HX.out.1.set _ 0)) rfl ?_
                  exact ⟨by rw [nx_over (by rw [HR.out]), HR.out, HK2.out]; go_num, HX.out.none _ _⟩
              · have HR : Aside (ln (27 :: 91 :: r) = (i, true)) := by
                  have hs := HS.out
                  show _ = _
                  rw [HK.out, HD.out, bd_brk _ _ _ hEnd (by omega)]
                  rfl
                clear HK HS HD hhi
                generalize (((27 :: 91 :: r)[i]!).toNat) = q at *
                have y3 : (decide ((i : Int) < 34) = false ∧ (q : Int) < 64) ∨ (decide ((i : Int) < 34) = false ∧ decide ((q : Int) < 64) = false ∧ 126 < (q : Int)) ∨ ((i : Int) < 34 ∧ decide ((32 : Int) ≤ (q : Int)) = false ∧ (q : Int) < 64) ∨ ((i : Int) < 34 ∧ (32 : Int) ≤ (q : Int) ∧ decide ((q : Int) ≤ 47) = false ∧ (q : Int) < 64) ∨ ((i : Int) < 34 ∧ (32 : Int) ≤ (q : Int) ∧ decide ((q : Int) ≤ 47) = false ∧ decide ((q : Int) < 64) = false ∧ 126 < (q : Int)) := by simp only [decide_eq_false_iff_not]; omega
                clear hW hEnd
                generalize ((q : Nat) : Int) = z at *
                rcases y3 with ⟨y3, y4⟩ | ⟨y3, y4, y5⟩ | ⟨y3, y4, y5⟩ | ⟨y3, y4, y5, y6⟩ | ⟨y3, y4, y5, y6, y7⟩
                all_goals
                  go_wp2
                  refine bodyPost_ret (res_key3 rfl _ _ g0 15 0 rfl (H2.out.1.set 15 0)) rfl ?_
                  exact ⟨by rw [nx_over (by rw [HR.out]), HR.out, kk_brk (l := 27 :: 91 :: r) (k := i) (by rw [← HN.out]; omega) (by omega) HB.out]; rfl, H2.out.none _ _⟩
      · have y1 : (k : Int) < (n : Int) := by omega
        have y2 : (k : Int) < 34 := by omega
        replace hxk := hxk h1
        obtain ⟨q, hq⟩ : ∃ q, q = ((27 :: 91 :: r)[k]!).toNat := ⟨_, rfl⟩
        rw [← hq] at hxk h3
        have y3 : decide ((48 : Int) ≤ (q : Int)) = false := decide_eq_false (by omega)
        clear hq h3
        generalize ((q : Nat) : Int) = z at *
        go_wp2
        clear hg
        try clear h1
        try clear h2
        try clear y1
        try clear y2
        try clear y3
        try clear y4
        try clear hxk
        go_loopg [6] n (fun gk v6 wr => ∃ i hi : Nat, v6 = .int .i64 (i : Int) ∧ w0 = wr ∧ 2 ≤ i ∧ i ≤ n ∧ i ≤ 34 ∧ (hi = 48 ∨ hi = 64) ∧ n - i ≤ gk ∧ Aside (ln (27 :: 91 :: r) = (i + (bd (34 - i) hi ((27 :: 91 :: r).drop i)).1, (bd (34 - i) hi ((27 :: 91 :: r).drop i)).2)) ∧ Aside (i = 2 ∨ ((27 :: 91 :: r)[i - 1]!).toNat < 64) ∧ Aside (hi = 64 → i = n ∨ i = 34 ∨ ¬ (48 ≤ ((27 :: 91 :: r)[i]!).toNat ∧ ((27 :: 91 :: r)[i]!).toNat ≤ 63)))
        case atStart => exact ⟨k, 64, rfl, rfl, hk2, hkn, hk34, .inr rfl, by omega, HK, HB, fun _ => HS.out⟩
        case round =>
          clear HK HB HS hk2 hkn hk34
          obtain ⟨i, hi, rfl, hw, hk2, hkn, hk34, hhi, hg, HK, HB, HS⟩ := hrel
          subst hw
          have HD : i < n → Aside ((27 :: 91 :: r).drop i = (27 :: 91 :: r)[i]! :: (27 :: 91 :: r).drop (i + 1)) := fun hkl => by
            show _ = _
            have hkl2 : i < ((27 : UInt8) :: 91 :: r).length := by rw [← HN.out]; exact hkl
            rw [getElem!_pos _ i hkl2, List.drop_eq_getElem_cons hkl2]
          have hxk : i < n → w0.cell? ⟨b, off + i, none⟩ = some (.int .u8 ((((27 :: 91 :: r)[i]!).toNat : Nat) : Int)) := fun h1 => H2.out.2.2.1.keeps rfl (HC.out i (by rw [← HN.out]; exact h1))
          have hE : Ex2 i n ((27 :: 91 :: r)[i]!).toNat := by unfold Ex2; omega
          rcases hE with h1 | ⟨h1, hW⟩
          · have HR : Aside (ln (27 :: 91 :: r) = (i, false)) := by
              show _ = _
              rw [HK.out, List.drop_eq_nil_of_le (by rw [← HN.out]; omega)]
              rfl
            obtain rfl : i = n := by omega
            clear HK HB HS HD hxk hhi h1
            go_wp2
            refine bodyPost_ret (res_key3 rfl _ _ g0 0 0 rfl (H2.out.1.set 0 0)) rfl ?_
            exact ⟨by rw [nx_short (by rw [HR.out]), HR.out]; rfl, H2.out.none _ _⟩
          · replace hxk := hxk h1
            replace HD := HD h1
            have y0 : ((i : Int) == (n : Int)) = false := beq_eq_false_iff_ne.2 (by omega)
            have y1 : (i : Int) < (n : Int) := by omega
            rcases hW with ⟨h2, h3, h4⟩ | hW
            · have HR : Aside (ln (27 :: 91 :: r) = (i + 1 + (bd (34 - (i + 1)) 48 ((27 :: 91 :: r).drop (i + 1))).1, (bd (34 - (i + 1)) 48 ((27 :: 91 :: r).drop (i + 1))).2)) := by
                show _ = _
                rw [HK.out, HD.out, bd_go _ _ _ (by omega) (by omega), if_pos (by omega), show 34 - i - 1 = 34 - (i + 1) from by omega]
                exact Prod.ext (show i + (_ + 1) = i + 1 + _ by omega) rfl
              have HB2 : Aside (i + 1 = 2 ∨ ((27 :: 91 :: r)[i + 1 - 1]!).toNat < 64) := .inr (by rw [Nat.add_sub_cancel]; omega)
              have y2 : (i : Int) < 34 := by omega
              clear HK HB HS HD hhi
              generalize (((27 :: 91 :: r)[i]!).toNat) = q at *
              have y3 : (32 : Int) ≤ (q : Int) := by omega
              have y4 : (q : Int) ≤ 47 := by omega
              clear h3 h4
              generalize ((q : Nat) : Int) = z at *
              go_wp2
              go_roundg (n - (i + 1))
              case measure => omega
              case rel => exact ⟨i + 1, 48, by go_num, rfl, by omega, by omega, by omega, .inl rfl, by omega, HR, HB2, fun h => absurd h (by decide)⟩
            · by_cases hEnd : 64 ≤ ((27 :: 91 :: r)[i]!).toNat ∧ ((27 :: 91 :: r)[i]!).toNat ≤ 126
              · have HR : Aside (ln (27 :: 91 :: r) = (i + 1, true)) := by
                  show _ = _
                  rw [HK.out, HD.out, bd_end _ _ _ hEnd]
                clear HK HB HS HD hhi
                generalize (((27 :: 91 :: r)[i]!).toNat) = q at *
                have y3 : (32 : Int) ≤ (q : Int) := by omega
                have y4 : decide ((q : Int) ≤ 47) = false := decide_eq_false (by omega)
                have y5 : decide ((q : Int) < 64) = false := decide_eq_false (by omega)
                have y6 : decide (126 < (q : Int)) = false := decide_eq_false (by omega)
                have y7 : (i : Int) < 34 ∨ decide ((i : Int) < 34) = false := (Classical.em ((i : Int) < 34)).imp id decide_eq_false
                clear hW hEnd
                generalize ((q : Nat) : Int) = z at *
                rcases y7 with y7 | y7
                all_goals
                  have hcut : ∀ W, (Instr.slice 25 (.slice (some ⟨b, off, none⟩) n cap) (some (.int .i64 1)) (some (.int .i64 ((i : Int) + 1))) none).run Tryd.prog W = .ok (.slice (some ⟨b, off + 1, none⟩) i (cap - 1)) W := fun W => by
                    have h := cut_lh (some ⟨b, off, none⟩) n cap 1 (i + 1) (by omega) (by omega) W
                    rw [cutp_of (by omega), Nat.add_sub_cancel] at h
                    exact h
                  have hcv : (convert 25 9 (.slice (some ⟨b, off + 1, none⟩) i (cap - 1))).run Tryd.prog w0 = .ok (.string (st (((27 :: 91 :: r).drop 1).take i))) w0 := by
                    have h := (HBT.out.stays H2.out.2.2.1).cut (i := 1) (j := i + 1) (N := cap) (by omega) (by rw [← HN.out]; omega) (by rw [← HN.out]; omega)
                    rw [cutp_of (by omega), Nat.add_sub_cancel] at h
                    exact conv_bts (cap - 1) i h (by simp only [List.length_take, List.length_drop]; rw [← HN.out]; omega)
                  have HK2 : Aside (kk (27 :: ((27 :: 91 :: r).drop 1).take i) = kk ((27 :: 91 :: r).take (i + 1))) := rfl
                  have KY := Lib.hid (key_run (((27 :: 91 :: r).drop 1).take i) w0)
                  generalize ((27 :: 91 :: r).drop 1).take i = sq at *
                  go_wp2_with fail
                  refine KY.out.mono ?_
                  rintro _ w1 ⟨rfl, s1⟩
                  have HX : Aside (Two w g0 g1 w1) := ⟨H2.out.1.stays s1, H2.out.2.1.stays s1, H2.out.2.2.1.trans s1, H2.out.2.2.2⟩
                  obtain ⟨da0, da1, ea0, ea1⟩ := HX.out.1.cells
                  have hlt1 := HX.out.1.lt
                  unfold kv
                  go_wp2
                  refine bodyPost_ret (res_key3 rfl _ _ g0 _ 0 rfl (HX.out.1.set _ 0)) rfl ?_
                  exact ⟨by rw [nx_over (by rw [HR.out]), HR.out, HK2.out]; go_num, HX.out.none _ _⟩
              · have HR : Aside (ln (27 :: 91 :: r) = (i, true)) := by
                  have hs := HS.out
                  show _ = _
                  rw [HK.out, HD.out, bd_brk _ _ _ hEnd (by omega)]
                  rfl
                clear HK HS HD hhi
                generalize (((27 :: 91 :: r)[i]!).toNat) = q at *
                have y3 : (decide ((i : Int) < 34) = false ∧ (q : Int) < 64) ∨ (decide ((i : Int) < 34) = false ∧ decide ((q : Int) < 64) = false ∧ 126 < (q : Int)) ∨ ((i : Int) < 34 ∧ decide ((32 : Int) ≤ (q : Int)) = false ∧ (q : Int) < 64) ∨ ((i : Int) < 34 ∧ (32 : Int) ≤ (q : Int) ∧ decide ((q : Int) ≤ 47) = false ∧ (q : Int) < 64) ∨ ((i : Int) < 34 ∧ (32 : Int) ≤ (q : Int) ∧ decide ((q : Int) ≤ 47) = false ∧ decide ((q : Int) < 64) = false ∧ 126 < (q : Int)) := by simp only [decide_eq_false_iff_not]; omega
                clear hW hEnd
                generalize ((q : Nat) : Int) = z at *
                rcases y3 with ⟨y3, y4⟩ | ⟨y3, y4, y5⟩ | ⟨y3, y4, y5⟩ | ⟨y3, y4, y5, y6⟩ | ⟨y3, y4, y5, y6, y7⟩
                all_goals
                  go_wp2
                  refine bodyPost_ret (res_key3 rfl _ _ g0 15 0 rfl (H2.out.1.set 15 0)) rfl ?_
                  exact ⟨by rw [nx_over (by rw [HR.out]), HR.out, kk_brk (l := 27 :: 91 :: r) (k := i) (by rw [← HN.out]; omega) (by omega) HB.out]; rfl, H2.out.none _ _⟩
      · have y1 : (k : Int) < (n : Int) := by omega
        have y2 : (k : Int) < 34 := by omega
        replace hxk := hxk h1
        obtain ⟨q, hq⟩ : ∃ q, q = ((27 :: 91 :: r)[k]!).toNat := ⟨_, rfl⟩
        rw [← hq] at hxk h3 h4
        have y3 : (48 : Int) ≤ (q : Int) := by omega
        have y4 : decide ((q : Int) ≤ 63) = false := decide_eq_false (by omega)
        clear hq h3 h4
        generalize ((q : Nat) : Int) = z at *
        go_wp2
        clear hg
        try clear h1
        try clear h2
        try clear y1
        try clear y2
        try clear y3
        try clear y4
        try clear hxk
        go_loopg [6] n (fun gk v6 wr => ∃ i hi : Nat, v6 = .int .i64 (i : Int) ∧ w0 = wr ∧ 2 ≤ i ∧ i ≤ n ∧ i ≤ 34 ∧ (hi = 48 ∨ hi = 64) ∧ n - i ≤ gk ∧ Aside (ln (27 :: 91 :: r) = (i + (bd (34 - i) hi ((27 :: 91 :: r).drop i)).1, (bd (34 - i) hi ((27 :: 91 :: r).drop i)).2)) ∧ Aside (i = 2 ∨ ((27 :: 91 :: r)[i - 1]!).toNat < 64) ∧ Aside (hi = 64 → i = n ∨ i = 34 ∨ ¬ (48 ≤ ((27 :: 91 :: r)[i]!).toNat ∧ ((27 :: 91 :: r)[i]!).toNat ≤ 63)))
        case atStart => exact ⟨k, 64, rfl, rfl, hk2, hkn, hk34, .inr rfl, by omega, HK, HB, fun _ => HS.out⟩
        case round =>
          clear HK HB HS hk2 hkn hk34
          obtain ⟨i, hi, rfl, hw, hk2, hkn, hk34, hhi, hg, HK, HB, HS⟩ := hrel
          subst hw
          have HD : i < n → Aside ((27 :: 91 :: r).drop i = (27 :: 91 :: r)[i]! :: (27 :: 91 :: r).drop (i + 1)) := fun hkl => by
            show _ = _
            have hkl2 : i < ((27 : UInt8) :: 91 :: r).length := by rw [← HN.out]; exact hkl
            rw [getElem!_pos _ i hkl2, List.drop_eq_getElem_cons hkl2]
          have hxk : i < n → w0.cell? ⟨b, off + i, none⟩ = some (.int .u8 ((((27 :: 91 :: r)[i]!).toNat : Nat) : Int)) := fun h1 => H2.out.2.2.1.keeps rfl (HC.out i (by rw [← HN.out]; exact h1))
          have hE : Ex2 i n ((27 :: 91 :: r)[i]!).toNat := by unfold Ex2; omega
          rcases hE with h1 | ⟨h1, hW⟩
          · have HR : Aside (ln (27 :: 91 :: r) = (i, false)) := by
              show _ = _
              rw [HK.out, List.drop_eq_nil_of_le (by rw [← HN.out]; omega)]
              rfl
            obtain rfl : i = n := by omega
            clear HK HB HS HD hxk hhi h1
            go_wp2
            refine bodyPost_ret (res_key3 rfl _ _ g0 0 0 rfl (H2.out.1.set 0 0)) rfl ?_
            exact ⟨by rw [nx_short (by rw [HR.out]), HR.out]; rfl, H2.out.none _ _⟩
          · replace hxk := hxk h1
            replace HD := HD h1
            have y0 : ((i : Int) == (n : Int)) = false := beq_eq_false_iff_ne.2 (by omega)
            have y1 : (i : Int) < (n : Int) := by omega
            rcases hW with ⟨h2, h3, h4⟩ | hW
            · have HR : Aside (ln (27 :: 91 :: r) = (i + 1 + (bd (34 - (i + 1)) 48 ((27 :: 91 :: r).drop (i + 1))).1, (bd (34 - (i + 1)) 48 ((27 :: 91 :: r).drop (i + 1))).2)) := by
                show _ = _
                rw [HK.out, HD.out, bd_go _ _ _ (by omega) (by omega), if_pos (by omega), show 34 - i - 1 = 34 - (i + 1) from by omega]
                exact Prod.ext (show i + (_ + 1) = i + 1 + _ by omega) rfl
              have HB2 : Aside (i + 1 = 2 ∨ ((27 :: 91 :: r)[i + 1 - 1]!).toNat < 64) := .inr (by rw [Nat.add_sub_cancel]; omega)
              have y2 : (i : Int) < 34 := by omega
              clear HK HB HS HD hhi
              generalize (((27 :: 91 :: r)[i]!).toNat) = q at *
              have y3 : (32 : Int) ≤ (q : Int) := by omega
              have y4 : (q : Int) ≤ 47 := by omega
              clear h3 h4
              generalize ((q : Nat) : Int) = z at *
              go_wp2
              go_roundg (n - (i + 1))
              case measure => omega
              case rel => exact ⟨i + 1, 48, by go_num, rfl, by omega, by omega, by omega, .inl rfl, by omega, HR, HB2, fun h => absurd h (by decide)⟩
            · by_cases hEnd : 64 ≤ ((27 :: 91 :: r)[i]!).toNat ∧ ((27 :: 91 :: r)[i]!).toNat ≤ 126
              · have HR : Aside (ln (27 :: 91 :: r) = (i + 1, true)) := by
                  show _ = _
                  rw [HK.out, HD.out, bd_end _ _ _ hEnd]
                clear HK HB HS HD hhi
                generalize (((27 :: 91 :: r)[i]!).toNat) = q at *
                have y3 : (32 : Int) ≤ (q : Int) := by omega
                have y4 : decide ((q : Int) ≤ 47) = false := decide_eq_false (by omega)
                have y5 : decide ((q : Int) < 64) = false := decide_eq_false (by omega)
                have y6 : decide (126 < (q : Int)) = false := decide_eq_false (by omega)
                have y7 : (i : Int) < 34 ∨ decide ((i : Int) < 34) = false := (Classical.em ((i : Int) < 34)).imp id decide_eq_false
                clear hW hEnd
                generalize ((q : Nat) : Int) = z at *
                rcases y7 with y7 | y7
                all_goals
                  have hcut : ∀ W, (Instr.slice 25 (.slice (some ⟨b, off, none⟩) n cap) (some (.int .i64 1)) (some (.int .i64 ((i : Int) + 1))) none).run Tryd.prog W = .ok (.slice (some ⟨b, off + 1, none⟩) i (cap - 1)) W := fun W => by
                    have h := cut_lh (some ⟨b, off, none⟩) n cap 1 (i + 1) (by omega) (by omega) W
                    rw [cutp_of (by omega), Nat.add_sub_cancel] at h
                    exact h
                  have hcv : (convert 25 9 (.slice (some ⟨b, off + 1, none⟩) i (cap - 1))).run Tryd.prog w0 = .ok (.string (st (((27 :: 91 :: r).drop 1).take i))) w0 := by
                    have h := (HBT.out.stays H2.out.2.2.1).cut (i := 1) (j := i + 1) (N := cap) (by omega) (by rw [← HN.out]; omega) (by rw [← HN.out]; omega)
                    rw [cutp_of (by omega), Nat.add_sub_cancel] at h
                    exact conv_bts (cap - 1) i h (by simp only [List.length_take, List.length_drop]; rw [← HN.out]; omega)
                  have HK2 : Aside (kk (27 :: ((27 :: 91 :: r).drop 1).take i) = kk ((27 :: 91 :: r).take (i + 1))) := rfl
                  have KY := Lib.hid (key_run (((27 :: 91 :: r).drop 1).take i) w0)
                  generalize ((27 :: 91 :: r).drop 1).take i = sq at *
                  go_wp2_with fail
                  refine KY.out.mono ?_
                  rintro _ w1 ⟨rfl, s1⟩
                  have HX : Aside (Two w g0 g1 w1) := ⟨H2.out.1.stays s1, H2.out.2.1.stays s1, H2.out.2.2.1.trans s1, H2.out.2.2.2⟩
                  obtain ⟨da0, da1, ea0, ea1⟩ := HX.out.1.cells
                  have hlt1 := HX.out.1.lt
                  unfold kv
                  go_wp2
                  refine bodyPost_ret (res_key3 rfl _ _ g0 _ 0 rfl (HX.out.1.set _ 0)) rfl ?_
                  exact ⟨by rw [nx_over (by rw [HR.out]), HR.out, HK2.out]; go_num, HX.out.none _ _⟩
              · have HR : Aside (ln (27 :: 91 :: r) = (i, true)) := by
                  have hs := HS.out
                  show _ = _
                  rw [HK.out, HD.out, bd_brk _ _ _ hEnd (by omega)]
                  rfl
                clear HK HS HD hhi
                generalize (((27 :: 91 :: r)[i]!).toNat) = q at *
                have y3 : (decide ((i : Int) < 34) = false ∧ (q : Int) < 64) ∨ (decide ((i : Int) < 34) = false ∧ decide ((q : Int) < 64) = false ∧ 126 < (q : Int)) ∨ ((i : Int) < 34 ∧ decide ((32 : Int) ≤ (q : Int)) = false ∧ (q : Int) < 64) ∨ ((i : Int) < 34 ∧ (32 : Int) ≤ (q : Int) ∧ decide ((q : Int) ≤ 47) = false ∧ (q : Int) < 64) ∨ ((i : Int) < 34 ∧ (32 : Int) ≤ (q : Int) ∧ decide ((q : Int) ≤ 47) = false ∧ decide ((q : Int) < 64) = false ∧ 126 < (q : Int)) := by simp only [decide_eq_false_iff_not]; omega
                clear hW hEnd
                generalize ((q : Nat) : Int) = z at *
                rcases y3 with ⟨y3, y4⟩ | ⟨y3, y4, y5⟩ | ⟨y3, y4, y5⟩ | ⟨y3, y4, y5, y6⟩ | ⟨y3, y4, y5, y6, y7⟩
                all_goals
                  go_wp2
                  refine bodyPost_ret (res_key3 rfl _ _ g0 15 0 rfl (H2.out.1.set 15 0)) rfl ?_
                  exact ⟨by rw [nx_over (by rw [HR.out]), HR.out, kk_brk (l := 27 :: 91 :: r) (k := i) (by rw [← HN.out]; omega) (by omega) HB.out]; rfl, H2.out.none _ _⟩
end Go.Proofs.YtdaenaoagejgeaaDoor
