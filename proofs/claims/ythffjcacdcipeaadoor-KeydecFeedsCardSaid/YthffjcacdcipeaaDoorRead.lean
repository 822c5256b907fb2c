/-
  The document's Read: all bytes, from the front.
-/
import Derived.Test.YthffjcacdcipeaaDoorReadD
namespace Go.Proofs.YthffjcacdcipeaaDoor
open Go.RowKit Go.Lib
set_option linter.unusedVariables false

set_option maxHeartbeats 40000000 in
set_option maxRecDepth 100000 in
theorem rread_run (a : Option Addr) (n cap : Nat) (l : List UInt8) (w : World) (hb : Bts w a l) (hn : n = l.length) (hc : n ≤ cap) (hm : cap ≤ maxLen) (hl : n ≤ 100000) : Calls Tryd.prog 14 #[.slice a n cap] w (Reads (rd false l) w) := by
  have HB := Lib.hid (And.intro hb (And.intro hn (And.intro hc hm)))
  obtain ⟨R, hR⟩ : ∃ R, R = rd false l := ⟨_, rfl⟩
  rw [← hR]
  have H1 : Aside (Rv w ((w.alloc (.cells #[.slice none 0 0, .slice none 0 0, .bool false] 32)).alloc (.cells #[.slice none 0 0, .slice none 0 0, .bool false] 32)) w.heap.size (w.heap.size + 1) l R 0 false [] (.slice none 0 0)) := by
    refine ⟨(AtT.new w _ _ _).other (Stp.alloc [] _ _) (by simp), ?_, KOwn.nil _ _, (Stp.alloc [] w _).trans (Stp.alloc [] _ _), by rw [List.drop_zero, hR]; rfl, Nat.zero_le _, rfl, rfl⟩
    have := AtT.new (w.alloc (.cells #[.slice none 0 0, .slice none 0 0, .bool false] 32)) (.slice none 0 0) (.slice none 0 0) false
    rwa [World.size_alloc] at this
  clear hb hn hc hm hR
  go_enter Tryd.func14, Tryd.ntmps14
  go_wp2_with fail
  generalize (w.alloc (.cells #[.slice none 0 0, .slice none 0 0, .bool false] 32)).alloc (.cells #[.slice none 0 0, .slice none 0 0, .bool false] 32) = w0 at *
  generalize w.heap.size + 1 = q3 at *
  obtain ⟨q2, hq2⟩ : ∃ q2, q2 = w.heap.size := ⟨_, rfl⟩
  rw [← hq2] at H1 ⊢
  have HQ := Lib.hid hq2
  clear hq2
  go_loopg [4] n (fun gk vi wr => ∃ (i : Nat) (p : Bool) (ys : List Ky) (v1 : Value), vi = .int .i64 (i : Int) ∧ i ≤ n ∧ n - i ≤ gk ∧ Aside (Rv w wr q2 q3 l R i p ys v1))
  case atStart => exact ⟨0, false, [], .slice none 0 0, rfl, by omega, by omega, H1.out⟩
  case round =>
    obtain ⟨i, p, ys, v1, rfl, hi, hg, HS⟩ := hrel
    obtain ⟨av, nv, cv, ev⟩ : ∃ av nv cv, v1 = .slice av nv cv := by
      obtain ⟨av, cv, ev, _⟩ := HS.out.row.form
      exact ⟨av, _, cv, ev⟩
    subst ev
    by_cases hlt : i < n
    · have hltz : (i : Int) < (n : Int) := by omega
      obtain ⟨x0, xr, hxl⟩ : ∃ x0 xr, l.drop i = x0 :: xr := by
        cases e : l.drop i with
        | nil => have h1 := congrArg List.length e; rw [List.length_drop, List.length_nil] at h1; have h2 := HB.out.2.1; omega
        | cons x0 xr => exact ⟨x0, xr, rfl⟩
      have hbi : Bts wr (cutp a i cap) (x0 :: xr) := by
        have h1 := (HB.out.1.stays HS.out.stp).cut (i := i) (j := l.length) (N := cap) (by have := HB.out.2.1; omega) (Nat.le_refl _) (by have := HB.out.2; omega)
        rw [List.take_of_length_le (by rw [List.length_drop]; exact Nat.le_refl _), hxl] at h1
        exact h1
      obtain ⟨aP, haP⟩ : ∃ aP, aP = cutp a i cap := ⟨_, rfl⟩
      obtain ⟨r, hr⟩ : ∃ r, r = n - i := ⟨_, rfl⟩
      obtain ⟨cP, hcP⟩ : ∃ cP, cP = cap - i := ⟨_, rfl⟩
      have s1 := cut_l a n cap i hi
      rw [← haP, ← hr, ← hcP] at s1
      rw [← haP] at hbi
      obtain ⟨b2, o2, eaP, _⟩ := hbi (by simp)
      have hrl : r = (x0 :: xr).length := by
        rw [← hxl, List.length_drop, hr, HB.out.2.1]
      have HX := Lib.hid (And.intro hxl (And.intro hrl (And.intro (show cP ≤ maxLen by have := HB.out.2.2.2; omega) (And.intro (show r ≤ cP by have := HB.out.2.2.1; omega) (show r ≤ 100000 ∧ i + r = n by omega)))))
      obtain ⟨bb, off, rfl, hcl⟩ := HB.out.1 (by intro e; have h1 := HB.out.2.1; rw [e, List.length_nil] at h1; omega)
      have hx0 : wr.cell? ⟨bb, off + i, none⟩ = some (.int .u8 (x0.toNat : Int)) := by
        have h1 := (HB.out.1.stays HS.out.stp) (by intro e; have h1 := HB.out.2.1; rw [e, List.length_nil] at h1; omega)
        obtain ⟨b2, o2, e2, h2⟩ := h1
        cases e2
        have h3 := h2 i (by have := HB.out.2.1; omega)
        have h4 : l[i]! = x0 := by
          rw [getElem!_pos l i (by have := HB.out.2.1; omega)]
          have h5 := congrArg (·[0]?) hxl
          simp only [List.getElem?_drop, List.getElem?_cons_zero, Nat.add_zero] at h5
          rw [List.getElem?_eq_getElem (by have := HB.out.2.1; omega)] at h5
          exact Option.some.inj h5
        rw [h3, h4]
        rfl
      clear hcl
      have hS5 : Stp [] wr [] (wr.alloc (.cells #[.int .i64 0, .int .i64 0] 41)) := Stp.alloc [] wr _
      have H5 : Aside (Rv w (wr.alloc (.cells #[.int .i64 0, .int .i64 0] 41)) q2 q3 l R i p ys (Value.slice av nv cv) ∧ At2 (wr.alloc (.cells #[.int .i64 0, .int .i64 0] 41)) wr.heap.size 0 0 ∧ (q3 < wr.heap.size ∧ ∀ j, (Value.slice av nv cv).ownBlock = some j → j ≠ wr.heap.size)) :=
        ⟨HS.out.stays hS5, At2.new wr 0 0, HS.out.t.lt, fun j hj => by have := (HS.out.row.lt j hj).2; omega⟩
      have hbt := hbi.stays hS5
      have HBW : Aside (Bts w aP (x0 :: xr)) := by
        have h1 := HB.out.1.cut (i := i) (j := l.length) (N := cap) (by have := HB.out.2.1; omega) (Nat.le_refl _) (by have := HB.out.2; omega)
        rw [List.take_of_length_le (by rw [List.length_drop]; exact Nat.le_refl _), hxl, ← haP] at h1
        exact h1
      have hx1 := hS5.keeps rfl hx0
      have HBT : Aside (Bts (wr.alloc (.cells #[.int .i64 0, .int .i64 0] 41)) aP (x0 :: xr)) := hbt
      clear hbi hx0 hS5 hbt hr hcP haP hrl hxl
      subst eaP
      by_cases hx27 : x0 = 27
      · subst hx27
        rw [show ((UInt8.toNat 27 : Nat) : Int) = 27 from rfl] at hx1
        have KN := rnext_run (some ⟨b2, o2, none⟩) r cP (27 :: xr) _ HBT.out HX.out.2.1 HX.out.2.2.2.1 HX.out.2.2.1 (by have := HX.out; omega)
        have hf : fst1 p (27 :: xr) = if (nx (27 :: xr)).e = 0 then some ⟨(osk p (nx (27 :: xr)).k).1, (nx (27 :: xr)).n, (osk p (nx (27 :: xr)).k).2⟩ else none := fst1_esc p xr
        have hke : (nx (27 :: xr)).e ≠ 0 → (nx (27 :: xr)).k = 0 := fun h => by
          cases e : (ln (27 :: xr)).2 with
          | false => rw [nx_short e]
          | true => rw [nx_over e] at h; exact absurd rfl h
        obtain ⟨k, m, e, hnx⟩ : ∃ k m e, nx (27 :: xr) = ⟨k, m, e⟩ := ⟨_, _, _, rfl⟩
        rw [hnx] at KN hf hke
        unfold nxv kv at KN
        have KN := Lib.hid KN
        clear hnx
        simp only at hf hke
        have he2 : e = 0 ∨ e ≠ 0 := by omega
        rcases he2 with he | he
        · subst he
          rw [if_pos rfl] at hf
          have hm := fst1_bd hf
          have HF := Lib.hid (And.intro hf (show 1 ≤ m ∧ m ≤ r from ⟨hm.1, by rw [HX.out.2.1]; exact hm.2⟩))
          clear hf hke hm
          have hw : (p = false ∧ k = 14) ∨ (p = false ∧ k = 13) ∨ (p = false ∧ (k == 14) = false ∧ (k == 13) = false) ∨ (p = true ∧ (k != 14) = true) ∨ (p = true ∧ k = 14) := by
            by_cases h : k = 14
            · cases p <;> simp [h]
            · by_cases h3 : k = 13
              · cases p <;> simp [h3]
              · cases p <;> simp [h, h3]
          rcases hw with hw | hw | hw | hw | hw
          · obtain ⟨hp, hk⟩ := hw
            subst hp
            subst hk
            go_wp2_with fail
            generalize wr.alloc (.cells #[.int .i64 0, .int .i64 0] 41) = w5 at *
            refine KN.out.mono ?_
            rintro _ w6 ⟨rfl, s6⟩
            have H6 : Aside (Rv w w6 q2 q3 l R i false ys (Value.slice av nv cv) ∧ At2 w6 wr.heap.size 0 0 ∧ (q3 < wr.heap.size ∧ ∀ j, (Value.slice av nv cv).ownBlock = some j → j ≠ wr.heap.size)) := ⟨H5.out.1.stays s6, H5.out.2.1.stays s6, H5.out.2.2⟩
            clear KN s6 H5 HBT hx1 s1
            obtain ⟨q5, hq5⟩ : ∃ q5, q5 = wr.heap.size := ⟨_, rfl⟩
            rw [← hq5] at H6 ⊢
            clear hq5 HS
            have hne : ¬ q3 = q5 := by have := H6.out.2.2.1; omega
            have hne2 : ¬ q5 = q3 := by have := H6.out.2.2.1; omega
            obtain ⟨c0, c1, f0, f1⟩ := H6.out.2.1.cells
            obtain ⟨t0, _, t2, _, _, _⟩ := H6.out.1.t.cells
            have hlt5 := H6.out.2.1.lt
            have hlt3 := H6.out.1.t.lt
            go_upto_region 20 with fail
            refine wlet ?_
            intro wk hwk
            have HK : Aside (Rv w wk q2 q3 l R i false ys (Value.slice av nv cv) ∧ At2 wk q5 15 0 ∧ q3 < q5) := by
              subst hwk
              exact ⟨H6.out.1.other ((At2.stp w6 q5 _ _).trans (At2.stp _ q5 _ _)) (fun j hj => by simp at hj; subst hj; exact H6.out.2.2), (H6.out.2.1.set _ _).set _ _, H6.out.2.2.1⟩
            clear hwk H6 c0 c1 f0 f1 t0 t2 hlt5 hlt3
            obtain ⟨k0, k1, _, _⟩ := HK.out.2.1.cells
            obtain ⟨t0, t1, t2, g0, g1, g2⟩ := HK.out.1.t.cells
            have hlk := HK.out.2.1.lt
            have hlt3 := HK.out.1.t.lt
            have HF2 : Aside (fst1 false (l.drop i) = some ⟨(15, 0), m, false⟩) := by
              show fst1 false (l.drop i) = _
              rw [HX.out.1]
              have h1 := HF.out.1
              simpa [osk] using h1
            have HY : Aside (Stp [q3] wk [q3] (wk.alloc (.cells #[.int .i64 15, .int .i64 0] 41)) ∧ AtT (wk.alloc (.cells #[.int .i64 15, .int .i64 0] 41)) q3 (Value.slice av nv cv) (.slice none 0 0) false ∧ KOwn (wk.alloc (.cells #[.int .i64 15, .int .i64 0] 41)) (q3 + 1) (Value.slice av nv cv) ys ∧ Kts (wk.alloc (.cells #[.int .i64 15, .int .i64 0] 41)) (some ⟨wk.heap.size, 0, none⟩) [(15, 0)]) := HK.out.1.X0 (15, 0)
            have hsum : IntKind.i64.wrap ((i : Int) + (m : Int)) = (i : Int) + (m : Int) := by rw [IntKind.wrap_i64]; have := HX.out.2.2.2.2; have := HF.out.2; omega
            go_wp2_with (at_builtin; refine wpList_appK rfl (.tmp 92) (.tmp 94) rfl (q3 + 1) (Value.slice av nv cv) ys rfl HY.out.2.2.1 (some ⟨wk.heap.size, 0, none⟩) 1 1 [(15, 0)] rfl rfl HY.out.2.2.2 (fun h => by cases h) (by have := HK.out.1.len; have := HX.out.2.2.2.2; simp; omega) (by have := HK.out.1.t.lt; simp; omega) ?_; intro v' w8 hrow hgrow; have hfm : ∃ a8 n8 c8, v' = Value.slice a8 n8 c8 := hrow.form.elim (fun a8 h => h.elim (fun c8 h2 => ⟨a8, _, c8, h2.1⟩)); obtain ⟨a8, n8, c8, ev⟩ := hfm; subst ev; have HP : Aside (Rv w (w8.setCell ⟨q3, 0, none⟩ (Value.slice a8 n8 c8)) q2 q3 l R (i + m) false (ys ++ [(15, 0)]) (Value.slice a8 n8 c8)) := HK.out.1.push HF2.out HY.out.1 HY.out.2.1 hrow hgrow; have hgs : Stp (Value.slice av nv cv).ownBlock.toList (wk.alloc (.cells #[.int .i64 15, .int .i64 0] 41)) (Value.slice av nv cv).ownBlock.toList w8 := grown_stp hgrow (fun k e => by simp [e]) (fun k hk => hk); have ht8 : AtT w8 q3 (Value.slice av nv cv) (.slice none 0 0) false := HY.out.2.1.other hgs (fun e => absurd (HK.out.1.row.lt q3 (by simpa using e)).1 (by omega)); obtain ⟨u0, _, _, z0, _, _⟩ := ht8.cells; clear hrow hgrow hgs ht8)
            go_roundg (n - (i + m))
            case measure => have := HF.out.2; have := HX.out.2.2.2.2; omega
            case rel => exact ⟨i + m, false, ys ++ [(15, 0)], Value.slice a8 n8 c8, by go_num, by have := HF.out.2; have := HX.out.2.2.2.2; omega, by omega, HP.out⟩
          · obtain ⟨hp, hk⟩ := hw
            subst hp
            subst hk
            go_wp2_with fail
            generalize wr.alloc (.cells #[.int .i64 0, .int .i64 0] 41) = w5 at *
            refine KN.out.mono ?_
            rintro _ w6 ⟨rfl, s6⟩
            have H6 : Aside (Rv w w6 q2 q3 l R i false ys (Value.slice av nv cv) ∧ At2 w6 wr.heap.size 0 0 ∧ (q3 < wr.heap.size ∧ ∀ j, (Value.slice av nv cv).ownBlock = some j → j ≠ wr.heap.size)) := ⟨H5.out.1.stays s6, H5.out.2.1.stays s6, H5.out.2.2⟩
            clear KN s6 H5 HBT hx1 s1
            obtain ⟨q5, hq5⟩ : ∃ q5, q5 = wr.heap.size := ⟨_, rfl⟩
            rw [← hq5] at H6 ⊢
            clear hq5 HS
            have hne : ¬ q3 = q5 := by have := H6.out.2.2.1; omega
            have hne2 : ¬ q5 = q3 := by have := H6.out.2.2.1; omega
            obtain ⟨c0, c1, f0, f1⟩ := H6.out.2.1.cells
            obtain ⟨t0, _, t2, _, _, _⟩ := H6.out.1.t.cells
            have hlt5 := H6.out.2.1.lt
            have hlt3 := H6.out.1.t.lt
            go_upto_region 20 with fail
            refine wlet ?_
            intro wk hwk
            have HK : Aside (Rv w wk q2 q3 l R i false ys (Value.slice av nv cv) ∧ At2 wk q5 13 0 ∧ q3 < q5) := by
              subst hwk
              exact ⟨H6.out.1.other (At2.stp w6 q5 _ _) (fun j hj => by simp at hj; subst hj; exact H6.out.2.2), H6.out.2.1.set _ _, H6.out.2.2.1⟩
            clear hwk H6 c0 c1 f0 f1 t0 t2 hlt5 hlt3
            obtain ⟨k0, k1, _, _⟩ := HK.out.2.1.cells
            obtain ⟨t0, t1, t2, g0, g1, g2⟩ := HK.out.1.t.cells
            have hlk := HK.out.2.1.lt
            have hlt3 := HK.out.1.t.lt
            have HF2 : Aside (fst1 false (l.drop i) = some ⟨(13, 0), m, true⟩) := by
              show fst1 false (l.drop i) = _
              rw [HX.out.1]
              have h1 := HF.out.1
              simpa [osk] using h1
            have HY : Aside (Stp [q3] wk [q3] ((wk.setCell ⟨q3, 2, none⟩ (.bool true)).alloc (.cells #[.int .i64 13, .int .i64 0] 41)) ∧ AtT ((wk.setCell ⟨q3, 2, none⟩ (.bool true)).alloc (.cells #[.int .i64 13, .int .i64 0] 41)) q3 (Value.slice av nv cv) (.slice none 0 0) true ∧ KOwn ((wk.setCell ⟨q3, 2, none⟩ (.bool true)).alloc (.cells #[.int .i64 13, .int .i64 0] 41)) (q3 + 1) (Value.slice av nv cv) ys ∧ Kts ((wk.setCell ⟨q3, 2, none⟩ (.bool true)).alloc (.cells #[.int .i64 13, .int .i64 0] 41)) (some ⟨wk.heap.size, 0, none⟩) [(13, 0)]) := HK.out.1.X1 true (13, 0)
            have hsum : IntKind.i64.wrap ((i : Int) + (m : Int)) = (i : Int) + (m : Int) := by rw [IntKind.wrap_i64]; have := HX.out.2.2.2.2; have := HF.out.2; omega
            go_wp2_with (at_builtin; refine wpList_appK rfl (.tmp 92) (.tmp 94) rfl (q3 + 1) (Value.slice av nv cv) ys rfl HY.out.2.2.1 (some ⟨wk.heap.size, 0, none⟩) 1 1 [(13, 0)] rfl rfl HY.out.2.2.2 (fun h => by cases h) (by have := HK.out.1.len; have := HX.out.2.2.2.2; simp; omega) (by have := HK.out.1.t.lt; simp; omega) ?_; intro v' w8 hrow hgrow; have hfm : ∃ a8 n8 c8, v' = Value.slice a8 n8 c8 := hrow.form.elim (fun a8 h => h.elim (fun c8 h2 => ⟨a8, _, c8, h2.1⟩)); obtain ⟨a8, n8, c8, ev⟩ := hfm; subst ev; have HP : Aside (Rv w (w8.setCell ⟨q3, 0, none⟩ (Value.slice a8 n8 c8)) q2 q3 l R (i + m) true (ys ++ [(13, 0)]) (Value.slice a8 n8 c8)) := HK.out.1.push HF2.out HY.out.1 HY.out.2.1 hrow hgrow; have hgs : Stp (Value.slice av nv cv).ownBlock.toList ((wk.setCell ⟨q3, 2, none⟩ (.bool true)).alloc (.cells #[.int .i64 13, .int .i64 0] 41)) (Value.slice av nv cv).ownBlock.toList w8 := grown_stp hgrow (fun k e => by simp [e]) (fun k hk => hk); have ht8 : AtT w8 q3 (Value.slice av nv cv) (.slice none 0 0) true := HY.out.2.1.other hgs (fun e => absurd (HK.out.1.row.lt q3 (by simpa using e)).1 (by omega)); obtain ⟨u0, _, _, z0, _, _⟩ := ht8.cells; clear hrow hgrow hgs ht8)
            go_roundg (n - (i + m))
            case measure => have := HF.out.2; have := HX.out.2.2.2.2; omega
            case rel => exact ⟨i + m, true, ys ++ [(13, 0)], Value.slice a8 n8 c8, by go_num, by have := HF.out.2; have := HX.out.2.2.2.2; omega, by omega, HP.out⟩
          · obtain ⟨hp, h14, h13⟩ := hw
            subst hp
            go_wp2_with fail
            generalize wr.alloc (.cells #[.int .i64 0, .int .i64 0] 41) = w5 at *
            refine KN.out.mono ?_
            rintro _ w6 ⟨rfl, s6⟩
            have H6 : Aside (Rv w w6 q2 q3 l R i false ys (Value.slice av nv cv) ∧ At2 w6 wr.heap.size 0 0 ∧ (q3 < wr.heap.size ∧ ∀ j, (Value.slice av nv cv).ownBlock = some j → j ≠ wr.heap.size)) := ⟨H5.out.1.stays s6, H5.out.2.1.stays s6, H5.out.2.2⟩
            clear KN s6 H5 HBT hx1 s1
            obtain ⟨q5, hq5⟩ : ∃ q5, q5 = wr.heap.size := ⟨_, rfl⟩
            rw [← hq5] at H6 ⊢
            clear hq5 HS
            have hne : ¬ q3 = q5 := by have := H6.out.2.2.1; omega
            have hne2 : ¬ q5 = q3 := by have := H6.out.2.2.1; omega
            obtain ⟨c0, c1, f0, f1⟩ := H6.out.2.1.cells
            obtain ⟨t0, _, t2, _, _, _⟩ := H6.out.1.t.cells
            have hlt5 := H6.out.2.1.lt
            have hlt3 := H6.out.1.t.lt
            go_upto_region 20 with fail
            refine wlet ?_
            intro wk hwk
            have HK : Aside (Rv w wk q2 q3 l R i false ys (Value.slice av nv cv) ∧ At2 wk q5 k 0 ∧ q3 < q5) := by
              subst hwk
              exact ⟨H6.out.1.other (At2.stp w6 q5 _ _) (fun j hj => by simp at hj; subst hj; exact H6.out.2.2), H6.out.2.1.set _ _, H6.out.2.2.1⟩
            clear hwk H6 c0 c1 f0 f1 t0 t2 hlt5 hlt3
            obtain ⟨k0, k1, _, _⟩ := HK.out.2.1.cells
            obtain ⟨t0, t1, t2, g0, g1, g2⟩ := HK.out.1.t.cells
            have hlk := HK.out.2.1.lt
            have hlt3 := HK.out.1.t.lt
            have HF2 : Aside (fst1 false (l.drop i) = some ⟨(k, 0), m, false⟩) := by
              show fst1 false (l.drop i) = _
              rw [HX.out.1]
              have h1 := HF.out.1
              have h2 : ¬ k = 14 := (by simpa using h14)
              have h3 : ¬ k = 13 := (by simpa using h13)
              simpa [osk, h2, h3] using h1
            have HY : Aside (Stp [q3] wk [q3] (wk.alloc (.cells #[.int .i64 k, .int .i64 0] 41)) ∧ AtT (wk.alloc (.cells #[.int .i64 k, .int .i64 0] 41)) q3 (Value.slice av nv cv) (.slice none 0 0) false ∧ KOwn (wk.alloc (.cells #[.int .i64 k, .int .i64 0] 41)) (q3 + 1) (Value.slice av nv cv) ys ∧ Kts (wk.alloc (.cells #[.int .i64 k, .int .i64 0] 41)) (some ⟨wk.heap.size, 0, none⟩) [(k, 0)]) := HK.out.1.X0 (k, 0)
            have hsum : IntKind.i64.wrap ((i : Int) + (m : Int)) = (i : Int) + (m : Int) := by rw [IntKind.wrap_i64]; have := HX.out.2.2.2.2; have := HF.out.2; omega
            go_wp2_with (at_builtin; refine wpList_appK rfl (.tmp 92) (.tmp 94) rfl (q3 + 1) (Value.slice av nv cv) ys rfl HY.out.2.2.1 (some ⟨wk.heap.size, 0, none⟩) 1 1 [(k, 0)] rfl rfl HY.out.2.2.2 (fun h => by cases h) (by have := HK.out.1.len; have := HX.out.2.2.2.2; simp; omega) (by have := HK.out.1.t.lt; simp; omega) ?_; intro v' w8 hrow hgrow; have hfm : ∃ a8 n8 c8, v' = Value.slice a8 n8 c8 := hrow.form.elim (fun a8 h => h.elim (fun c8 h2 => ⟨a8, _, c8, h2.1⟩)); obtain ⟨a8, n8, c8, ev⟩ := hfm; subst ev; have HP : Aside (Rv w (w8.setCell ⟨q3, 0, none⟩ (Value.slice a8 n8 c8)) q2 q3 l R (i + m) false (ys ++ [(k, 0)]) (Value.slice a8 n8 c8)) := HK.out.1.push HF2.out HY.out.1 HY.out.2.1 hrow hgrow; have hgs : Stp (Value.slice av nv cv).ownBlock.toList (wk.alloc (.cells #[.int .i64 k, .int .i64 0] 41)) (Value.slice av nv cv).ownBlock.toList w8 := grown_stp hgrow (fun k e => by simp [e]) (fun k hk => hk); have ht8 : AtT w8 q3 (Value.slice av nv cv) (.slice none 0 0) false := HY.out.2.1.other hgs (fun e => absurd (HK.out.1.row.lt q3 (by simpa using e)).1 (by omega)); obtain ⟨u0, _, _, z0, _, _⟩ := ht8.cells; clear hrow hgrow hgs ht8)
            go_roundg (n - (i + m))
            case measure => have := HF.out.2; have := HX.out.2.2.2.2; omega
            case rel => exact ⟨i + m, false, ys ++ [(k, 0)], Value.slice a8 n8 c8, by go_num, by have := HF.out.2; have := HX.out.2.2.2.2; omega, by omega, HP.out⟩
          · obtain ⟨hp, h14⟩ := hw
            subst hp
            go_wp2_with fail
            generalize wr.alloc (.cells #[.int .i64 0, .int .i64 0] 41) = w5 at *
            refine KN.out.mono ?_
            rintro _ w6 ⟨rfl, s6⟩
            have H6 : Aside (Rv w w6 q2 q3 l R i true ys (Value.slice av nv cv) ∧ At2 w6 wr.heap.size 0 0 ∧ (q3 < wr.heap.size ∧ ∀ j, (Value.slice av nv cv).ownBlock = some j → j ≠ wr.heap.size)) := ⟨H5.out.1.stays s6, H5.out.2.1.stays s6, H5.out.2.2⟩
            clear KN s6 H5 HBT hx1 s1
            obtain ⟨q5, hq5⟩ : ∃ q5, q5 = wr.heap.size := ⟨_, rfl⟩
            rw [← hq5] at H6 ⊢
            clear hq5 HS
            have hne : ¬ q3 = q5 := by have := H6.out.2.2.1; omega
            have hne2 : ¬ q5 = q3 := by have := H6.out.2.2.1; omega
            obtain ⟨c0, c1, f0, f1⟩ := H6.out.2.1.cells
            obtain ⟨t0, _, t2, _, _, _⟩ := H6.out.1.t.cells
            have hlt5 := H6.out.2.1.lt
            have hlt3 := H6.out.1.t.lt
            go_upto_region 20 with fail
            refine wlet ?_
            intro wk hwk
            have HK : Aside (Rv w wk q2 q3 l R i true ys (Value.slice av nv cv) ∧ At2 wk q5 15 0 ∧ q3 < q5) := by
              subst hwk
              exact ⟨H6.out.1.other ((At2.stp w6 q5 _ _).trans (At2.stp _ q5 _ _)) (fun j hj => by simp at hj; subst hj; exact H6.out.2.2), (H6.out.2.1.set _ _).set _ _, H6.out.2.2.1⟩
            clear hwk H6 c0 c1 f0 f1 t0 t2 hlt5 hlt3
            obtain ⟨k0, k1, _, _⟩ := HK.out.2.1.cells
            obtain ⟨t0, t1, t2, g0, g1, g2⟩ := HK.out.1.t.cells
            have hlk := HK.out.2.1.lt
            have hlt3 := HK.out.1.t.lt
            have HF2 : Aside (fst1 true (l.drop i) = some ⟨(15, 0), m, true⟩) := by
              show fst1 true (l.drop i) = _
              rw [HX.out.1]
              have h1 := HF.out.1
              have h2 : ¬ k = 14 := (by simpa using h14)
              simpa [osk, h2] using h1
            have HY : Aside (Stp [q3] wk [q3] (wk.alloc (.cells #[.int .i64 15, .int .i64 0] 41)) ∧ AtT (wk.alloc (.cells #[.int .i64 15, .int .i64 0] 41)) q3 (Value.slice av nv cv) (.slice none 0 0) true ∧ KOwn (wk.alloc (.cells #[.int .i64 15, .int .i64 0] 41)) (q3 + 1) (Value.slice av nv cv) ys ∧ Kts (wk.alloc (.cells #[.int .i64 15, .int .i64 0] 41)) (some ⟨wk.heap.size, 0, none⟩) [(15, 0)]) := HK.out.1.X0 (15, 0)
            have hsum : IntKind.i64.wrap ((i : Int) + (m : Int)) = (i : Int) + (m : Int) := by rw [IntKind.wrap_i64]; have := HX.out.2.2.2.2; have := HF.out.2; omega
            go_wp2_with (at_builtin; refine wpList_appK rfl (.tmp 92) (.tmp 94) rfl (q3 + 1) (Value.slice av nv cv) ys rfl HY.out.2.2.1 (some ⟨wk.heap.size, 0, none⟩) 1 1 [(15, 0)] rfl rfl HY.out.2.2.2 (fun h => by cases h) (by have := HK.out.1.len; have := HX.out.2.2.2.2; simp; omega) (by have := HK.out.1.t.lt; simp; omega) ?_; intro v' w8 hrow hgrow; have hfm : ∃ a8 n8 c8, v' = Value.slice a8 n8 c8 := hrow.form.elim (fun a8 h => h.elim (fun c8 h2 => ⟨a8, _, c8, h2.1⟩)); obtain ⟨a8, n8, c8, ev⟩ := hfm; subst ev; have HP : Aside (Rv w (w8.setCell ⟨q3, 0, none⟩ (Value.slice a8 n8 c8)) q2 q3 l R (i + m) true (ys ++ [(15, 0)]) (Value.slice a8 n8 c8)) := HK.out.1.push HF2.out HY.out.1 HY.out.2.1 hrow hgrow; have hgs : Stp (Value.slice av nv cv).ownBlock.toList (wk.alloc (.cells #[.int .i64 15, .int .i64 0] 41)) (Value.slice av nv cv).ownBlock.toList w8 := grown_stp hgrow (fun k e => by simp [e]) (fun k hk => hk); have ht8 : AtT w8 q3 (Value.slice av nv cv) (.slice none 0 0) true := HY.out.2.1.other hgs (fun e => absurd (HK.out.1.row.lt q3 (by simpa using e)).1 (by omega)); obtain ⟨u0, _, _, z0, _, _⟩ := ht8.cells; clear hrow hgrow hgs ht8)
            go_roundg (n - (i + m))
            case measure => have := HF.out.2; have := HX.out.2.2.2.2; omega
            case rel => exact ⟨i + m, true, ys ++ [(15, 0)], Value.slice a8 n8 c8, by go_num, by have := HF.out.2; have := HX.out.2.2.2.2; omega, by omega, HP.out⟩
          · obtain ⟨hp, hk⟩ := hw
            subst hp
            subst hk
            go_wp2_with fail
            generalize wr.alloc (.cells #[.int .i64 0, .int .i64 0] 41) = w5 at *
            refine KN.out.mono ?_
            rintro _ w6 ⟨rfl, s6⟩
            have H6 : Aside (Rv w w6 q2 q3 l R i true ys (Value.slice av nv cv) ∧ At2 w6 wr.heap.size 0 0 ∧ (q3 < wr.heap.size ∧ ∀ j, (Value.slice av nv cv).ownBlock = some j → j ≠ wr.heap.size)) := ⟨H5.out.1.stays s6, H5.out.2.1.stays s6, H5.out.2.2⟩
            clear KN s6 H5 HBT hx1 s1
            obtain ⟨q5, hq5⟩ : ∃ q5, q5 = wr.heap.size := ⟨_, rfl⟩
            rw [← hq5] at H6 ⊢
            clear hq5 HS
            have hne : ¬ q3 = q5 := by have := H6.out.2.2.1; omega
            have hne2 : ¬ q5 = q3 := by have := H6.out.2.2.1; omega
            obtain ⟨c0, c1, f0, f1⟩ := H6.out.2.1.cells
            obtain ⟨t0, _, t2, _, _, _⟩ := H6.out.1.t.cells
            have hlt5 := H6.out.2.1.lt
            have hlt3 := H6.out.1.t.lt
            go_upto_region 20 with fail
            refine wlet ?_
            intro wk hwk
            have HK : Aside (Rv w wk q2 q3 l R i true ys (Value.slice av nv cv) ∧ At2 wk q5 14 0 ∧ q3 < q5) := by
              subst hwk
              exact ⟨H6.out.1.other (At2.stp w6 q5 _ _) (fun j hj => by simp at hj; subst hj; exact H6.out.2.2), H6.out.2.1.set _ _, H6.out.2.2.1⟩
            clear hwk H6 c0 c1 f0 f1 t0 t2 hlt5 hlt3
            obtain ⟨k0, k1, _, _⟩ := HK.out.2.1.cells
            obtain ⟨t0, t1, t2, g0, g1, g2⟩ := HK.out.1.t.cells
            have hlk := HK.out.2.1.lt
            have hlt3 := HK.out.1.t.lt
            have HF2 : Aside (fst1 true (l.drop i) = some ⟨(14, 0), m, false⟩) := by
              show fst1 true (l.drop i) = _
              rw [HX.out.1]
              have h1 := HF.out.1
              simpa [osk] using h1
            have HY : Aside (Stp [q3] wk [q3] ((wk.setCell ⟨q3, 2, none⟩ (.bool false)).alloc (.cells #[.int .i64 14, .int .i64 0] 41)) ∧ AtT ((wk.setCell ⟨q3, 2, none⟩ (.bool false)).alloc (.cells #[.int .i64 14, .int .i64 0] 41)) q3 (Value.slice av nv cv) (.slice none 0 0) false ∧ KOwn ((wk.setCell ⟨q3, 2, none⟩ (.bool false)).alloc (.cells #[.int .i64 14, .int .i64 0] 41)) (q3 + 1) (Value.slice av nv cv) ys ∧ Kts ((wk.setCell ⟨q3, 2, none⟩ (.bool false)).alloc (.cells #[.int .i64 14, .int .i64 0] 41)) (some ⟨wk.heap.size, 0, none⟩) [(14, 0)]) := HK.out.1.X1 false (14, 0)
            have hsum : IntKind.i64.wrap ((i : Int) + (m : Int)) = (i : Int) + (m : Int) := by rw [IntKind.wrap_i64]; have := HX.out.2.2.2.2; have := HF.out.2; omega
            go_wp2_with (at_builtin; refine wpList_appK rfl (.tmp 92) (.tmp 94) rfl (q3 + 1) (Value.slice av nv cv) ys rfl HY.out.2.2.1 (some ⟨wk.heap.size, 0, none⟩) 1 1 [(14, 0)] rfl rfl HY.out.2.2.2 (fun h => by cases h) (by have := HK.out.1.len; have := HX.out.2.2.2.2; simp; omega) (by have := HK.out.1.t.lt; simp; omega) ?_; intro v' w8 hrow hgrow; have hfm : ∃ a8 n8 c8, v' = Value.slice a8 n8 c8 := hrow.form.elim (fun a8 h => h.elim (fun c8 h2 => ⟨a8, _, c8, h2.1⟩)); obtain ⟨a8, n8, c8, ev⟩ := hfm; subst ev; have HP : Aside (Rv w (w8.setCell ⟨q3, 0, none⟩ (Value.slice a8 n8 c8)) q2 q3 l R (i + m) false (ys ++ [(14, 0)]) (Value.slice a8 n8 c8)) := HK.out.1.push HF2.out HY.out.1 HY.out.2.1 hrow hgrow; have hgs : Stp (Value.slice av nv cv).ownBlock.toList ((wk.setCell ⟨q3, 2, none⟩ (.bool false)).alloc (.cells #[.int .i64 14, .int .i64 0] 41)) (Value.slice av nv cv).ownBlock.toList w8 := grown_stp hgrow (fun k e => by simp [e]) (fun k hk => hk); have ht8 : AtT w8 q3 (Value.slice av nv cv) (.slice none 0 0) false := HY.out.2.1.other hgs (fun e => absurd (HK.out.1.row.lt q3 (by simpa using e)).1 (by omega)); obtain ⟨u0, _, _, z0, _, _⟩ := ht8.cells; clear hrow hgrow hgs ht8)
            go_roundg (n - (i + m))
            case measure => have := HF.out.2; have := HX.out.2.2.2.2; omega
            case rel => exact ⟨i + m, false, ys ++ [(14, 0)], Value.slice a8 n8 c8, by go_num, by have := HF.out.2; have := HX.out.2.2.2.2; omega, by omega, HP.out⟩
        · rw [if_neg he] at hf
          obtain rfl : k = 0 := hke he
          have he1 : (e != 0) = true := by rw [bne_iff_ne]; exact he
          have HF := Lib.hid hf
          have HBT2 : Aside (Bts w (some ⟨b2, o2, none⟩) (27 :: xr)) := HBW.out
          clear hf hke he
          cases p with
          | false =>
            go_wp2_with fail
            generalize wr.alloc (.cells #[.int .i64 0, .int .i64 0] 41) = w5 at *
            refine KN.out.mono ?_
            rintro _ w6 ⟨rfl, s6⟩
            have H6 : Aside (Rv w w6 q2 q3 l R i false ys (Value.slice av nv cv) ∧ At2 w6 wr.heap.size 0 0 ∧ (q3 < wr.heap.size ∧ ∀ j, (Value.slice av nv cv).ownBlock = some j → j ≠ wr.heap.size)) := ⟨H5.out.1.stays s6, H5.out.2.1.stays s6, H5.out.2.2⟩
            clear KN s6 H5 HBT hx1
            obtain ⟨q5, hq5⟩ : ∃ q5, q5 = wr.heap.size := ⟨_, rfl⟩
            rw [← hq5] at H6 ⊢
            clear hq5 HS
            have hne : ¬ q3 = q5 := by have := H6.out.2.2.1; omega
            have hne2 : ¬ q5 = q3 := by have := H6.out.2.2.1; omega
            obtain ⟨c0, c1, f0, f1⟩ := H6.out.2.1.cells
            obtain ⟨t0, _, t2, _, _, _⟩ := H6.out.1.t.cells
            have hlt5 := H6.out.2.1.lt
            have hlt3 := H6.out.1.t.lt
            go_upto_region 20 with fail
            refine wlet ?_
            intro wk hwk
            have HK : Aside (Rv w wk q2 q3 l R i false ys (Value.slice av nv cv) ∧ At2 wk q5 0 0 ∧ q3 < q5) := by
              subst hwk
              exact ⟨H6.out.1.other (At2.stp w6 q5 _ _) (fun j hj => by simp at hj; subst hj; exact H6.out.2.2), H6.out.2.1.set _ _, H6.out.2.2.1⟩
            clear hwk H6 c0 c1 f0 f1 t0 t2 hlt5 hlt3
            obtain ⟨k0, k1, _, _⟩ := HK.out.2.1.cells
            obtain ⟨t0, t1, t2, g0, g1, g2⟩ := HK.out.1.t.cells
            have hlk := HK.out.2.1.lt
            have hlt3 := HK.out.1.t.lt
            have HY : Aside (Own (wk.alloc (.cells #[] 5)) (q3 + 1) (.slice (some ⟨wk.heap.size, 0, none⟩) 0 0) [] ∧ Bts (wk.alloc (.cells #[] 5)) (some ⟨b2, o2, none⟩) (27 :: xr)) := by
              have h1 := Own.new wk
              have h2 := HK.out.1.t.lt
              refine ⟨⟨h1.1, ?_⟩, ?_⟩
              · rcases h1.2 with hn | ⟨g, cap, cur, e, hg, rest⟩
                · exact .inl hn
                · exact .inr ⟨g, cap, cur, e, by omega, rest⟩
              · exact (HBT2.out.stays HK.out.1.stp).stays (Stp.alloc [] wk _)
            go_wp2_with (at_builtin; refine wpList_app rfl (.tmp 72) (.tmp 75) rfl (q3 + 1) (.slice (some ⟨wk.heap.size, 0, none⟩) 0 0) [] rfl HY.out.1 (some ⟨b2, o2, none⟩) cP r (27 :: xr) HX.out.2.1 rfl HY.out.2 (fun h => by cases h) (by have := HX.out.2; simp only [List.length_nil]; omega) (by have := HK.out.1.t.lt; simp; omega) ?_; intro vh w8 hrow hgrow; rw [List.nil_append] at hrow; have hfm : ∃ a8 n8 c8, vh = Value.slice a8 n8 c8 := hrow.bts.elim (fun a8 h => h.elim (fun c8 h2 => ⟨a8, _, c8, h2.1⟩)); obtain ⟨a8, n8, c8, ev⟩ := hfm; subst ev; have HP := Lib.hid (HK.out.1.hold (v' := .slice (some ⟨wk.heap.size, 0, none⟩) 0 0) (Stp.alloc [] wk _) (fun k hk => by have e2 : some wk.heap.size = some k := hk; cases e2; rfl) hrow hgrow); have hgs : Stp [wk.heap.size] (wk.alloc (.cells #[] 5)) [wk.heap.size] w8 := grown_stp hgrow (fun k e => by have e2 : some wk.heap.size = some k := e; cases e2; simp) (fun k hk => hk); have ht8 := (HK.out.1.t.other (Stp.alloc [] wk (.cells #[] 5)) (by simp)).other hgs (by simp; omega); obtain ⟨u0, u1, u2, z0, z1, z2⟩ := ht8.cells; have hr8 := (HK.out.1.res.other (Stp.alloc [] wk (.cells #[] 5)) (by simp)).other hgs (by have := HK.out.1.res.lt; simp; omega); obtain ⟨r0, r1, r2, y0, y1, y2⟩ := hr8.cells; have hqn : ¬ q2 = q3 := (by have := HK.out.1.q; omega); have hqn2 : ¬ q3 = q2 := (by have := HK.out.1.q; omega); clear hrow hgrow hgs)
            have HF3 := Rv.fin (p := false) HK.out.1.q HP.out.1 HP.out.2.2.1 HP.out.2.2.2.1 HP.out.2.2.2.2
            refine bodyPost_ret (res_told rfl _ _ q2 (Value.slice av nv cv) (Value.slice a8 n8 c8) false rfl HF3.1) rfl ?_
            have eR := HK.out.1.eq
            rw [HX.out.1, rd_none HF.out, List.append_nil] at eR
            rw [eR]
            exact ⟨_, _, rfl, HF3.2.1, HF3.2.2.1, HF3.2.2.2⟩
          | true =>
            go_wp2_with fail
            generalize wr.alloc (.cells #[.int .i64 0, .int .i64 0] 41) = w5 at *
            refine KN.out.mono ?_
            rintro _ w6 ⟨rfl, s6⟩
            have H6 : Aside (Rv w w6 q2 q3 l R i true ys (Value.slice av nv cv) ∧ At2 w6 wr.heap.size 0 0 ∧ (q3 < wr.heap.size ∧ ∀ j, (Value.slice av nv cv).ownBlock = some j → j ≠ wr.heap.size)) := ⟨H5.out.1.stays s6, H5.out.2.1.stays s6, H5.out.2.2⟩
            clear KN s6 H5 HBT hx1
            obtain ⟨q5, hq5⟩ : ∃ q5, q5 = wr.heap.size := ⟨_, rfl⟩
            rw [← hq5] at H6 ⊢
            clear hq5 HS
            have hne : ¬ q3 = q5 := by have := H6.out.2.2.1; omega
            have hne2 : ¬ q5 = q3 := by have := H6.out.2.2.1; omega
            obtain ⟨c0, c1, f0, f1⟩ := H6.out.2.1.cells
            obtain ⟨t0, _, t2, _, _, _⟩ := H6.out.1.t.cells
            have hlt5 := H6.out.2.1.lt
            have hlt3 := H6.out.1.t.lt
            go_upto_region 20 with fail
            refine wlet ?_
            intro wk hwk
            have HK : Aside (Rv w wk q2 q3 l R i true ys (Value.slice av nv cv) ∧ At2 wk q5 15 0 ∧ q3 < q5) := by
              subst hwk
              exact ⟨H6.out.1.other ((At2.stp w6 q5 _ _).trans (At2.stp _ q5 _ _)) (fun j hj => by simp at hj; subst hj; exact H6.out.2.2), (H6.out.2.1.set _ _).set _ _, H6.out.2.2.1⟩
            clear hwk H6 c0 c1 f0 f1 t0 t2 hlt5 hlt3
            obtain ⟨k0, k1, _, _⟩ := HK.out.2.1.cells
            obtain ⟨t0, t1, t2, g0, g1, g2⟩ := HK.out.1.t.cells
            have hlk := HK.out.2.1.lt
            have hlt3 := HK.out.1.t.lt
            have HY : Aside (Own (wk.alloc (.cells #[] 5)) (q3 + 1) (.slice (some ⟨wk.heap.size, 0, none⟩) 0 0) [] ∧ Bts (wk.alloc (.cells #[] 5)) (some ⟨b2, o2, none⟩) (27 :: xr)) := by
              have h1 := Own.new wk
              have h2 := HK.out.1.t.lt
              refine ⟨⟨h1.1, ?_⟩, ?_⟩
              · rcases h1.2 with hn | ⟨g, cap, cur, e, hg, rest⟩
                · exact .inl hn
                · exact .inr ⟨g, cap, cur, e, by omega, rest⟩
              · exact (HBT2.out.stays HK.out.1.stp).stays (Stp.alloc [] wk _)
            go_wp2_with (at_builtin; refine wpList_app rfl (.tmp 72) (.tmp 75) rfl (q3 + 1) (.slice (some ⟨wk.heap.size, 0, none⟩) 0 0) [] rfl HY.out.1 (some ⟨b2, o2, none⟩) cP r (27 :: xr) HX.out.2.1 rfl HY.out.2 (fun h => by cases h) (by have := HX.out.2; simp only [List.length_nil]; omega) (by have := HK.out.1.t.lt; simp; omega) ?_; intro vh w8 hrow hgrow; rw [List.nil_append] at hrow; have hfm : ∃ a8 n8 c8, vh = Value.slice a8 n8 c8 := hrow.bts.elim (fun a8 h => h.elim (fun c8 h2 => ⟨a8, _, c8, h2.1⟩)); obtain ⟨a8, n8, c8, ev⟩ := hfm; subst ev; have HP := Lib.hid (HK.out.1.hold (v' := .slice (some ⟨wk.heap.size, 0, none⟩) 0 0) (Stp.alloc [] wk _) (fun k hk => by have e2 : some wk.heap.size = some k := hk; cases e2; rfl) hrow hgrow); have hgs : Stp [wk.heap.size] (wk.alloc (.cells #[] 5)) [wk.heap.size] w8 := grown_stp hgrow (fun k e => by have e2 : some wk.heap.size = some k := e; cases e2; simp) (fun k hk => hk); have ht8 := (HK.out.1.t.other (Stp.alloc [] wk (.cells #[] 5)) (by simp)).other hgs (by simp; omega); obtain ⟨u0, u1, u2, z0, z1, z2⟩ := ht8.cells; have hr8 := (HK.out.1.res.other (Stp.alloc [] wk (.cells #[] 5)) (by simp)).other hgs (by have := HK.out.1.res.lt; simp; omega); obtain ⟨r0, r1, r2, y0, y1, y2⟩ := hr8.cells; have hqn : ¬ q2 = q3 := (by have := HK.out.1.q; omega); have hqn2 : ¬ q3 = q2 := (by have := HK.out.1.q; omega); clear hrow hgrow hgs)
            have HF3 := Rv.fin (p := true) HK.out.1.q HP.out.1 HP.out.2.2.1 HP.out.2.2.2.1 HP.out.2.2.2.2
            refine bodyPost_ret (res_told rfl _ _ q2 (Value.slice av nv cv) (Value.slice a8 n8 c8) true rfl HF3.1) rfl ?_
            have eR := HK.out.1.eq
            rw [HX.out.1, rd_none HF.out, List.append_nil] at eR
            rw [eR]
            exact ⟨_, _, rfl, HF3.2.1, HF3.2.2.1, HF3.2.2.2⟩
      · have hz : (((x0.toNat : Nat) : Int) == 27) = false := beq_eq_false_iff_ne.2 (fun e => hx27 (UInt8.toNat_inj.1 (by show x0.toNat = 27; omega)))
        have KN := rnx8_run (x0 :: xr) (some ⟨b2, o2, none⟩) r cP _ HBT.out HX.out.2.1 (by have := HX.out.2.2.2.2; omega)
        have hf := fst1_chr p xr hx27
        have he3 := nx8_e (l := x0 :: xr) (by simp)
        have hpos := nx8_pos (l := x0 :: xr) (by simp)
        obtain ⟨z, m, e, hnx⟩ : ∃ z m e, nx8 (x0 :: xr) = (z, m, e) := ⟨_, _, _, rfl⟩
        rw [hnx] at KN hf he3 hpos
        have KN := Lib.hid KN
        simp only at he3 hf hpos
        clear hnx
        have hmr : 1 ≤ m ∧ m ≤ r := ⟨hpos.1, by rw [HX.out.2.1]; exact hpos.2.1⟩
        have HBT2 : Aside (Bts w (some ⟨b2, o2, none⟩) (x0 :: xr)) := HBW.out
        have HMR := Lib.hid hmr
        clear hpos hmr
        generalize ((x0.toNat : Nat) : Int) = y at *
        rcases he3 with rfl | rfl | rfl
        · rw [if_neg (by simp), if_pos rfl] at hf
          have HF := Lib.hid (And.intro hf HMR.out)
          clear hf
          obtain ⟨x1, x2, hx⟩ : ∃ x1 x2, K.ofk (z : Int) = (x1, x2) := ⟨_, _, rfl⟩
          have KO : Hid (∀ W, Calls Tryd.prog 34 #[.int .i64 (z : Int)] W (Tells (.agg #[.int .i64 x1, .int .i64 x2]) W)) := Lib.hid fun W => by
            have h := K.rof_run (z : Int) W
            rw [hx] at h
            exact h
          have hno := ofk_no (z : Int)
          rw [hx] at hno
          have h13 : (x1 == 13) = false := beq_eq_false_iff_ne.2 hno.1
          have h14 : (x1 == 14) = false := beq_eq_false_iff_ne.2 hno.2
          have hw : (p = false ∧ ock p (z : Int) = (x1, x2)) ∨ (p = true ∧ (x1 != 0) = true ∧ ock p (z : Int) = (15, 0)) ∨ (p = true ∧ (x1 != 0) = false ∧ ock p (z : Int) = (x1, x2)) := by
            cases p with
            | false => exact .inl ⟨rfl, by unfold ock; rw [if_neg (by simp)]; exact hx⟩
            | true =>
              have hz0 := ofk_zero (z : Int)
              rw [hx] at hz0
              rcases hz0 with ⟨e1, e2⟩ | ⟨e1, e2⟩
              · exact .inr (.inr ⟨rfl, by simpa using e1, by unfold ock; rw [if_neg (by rw [e2]; simp)]; exact hx⟩)
              · exact .inr (.inl ⟨rfl, by simpa using e1, by unfold ock; rw [if_pos ⟨rfl, e2⟩]⟩)
          clear hno hx
          rcases hw with hw | hw | hw
          · obtain ⟨hp, hok⟩ := hw
            subst hp
            have HO := Lib.hid hok
            clear hok
            go_wp2_with fail
            generalize wr.alloc (.cells #[.int .i64 0, .int .i64 0] 41) = w5 at *
            refine KN.out.mono ?_
            rintro _ w7 ⟨rfl, s6⟩
            have H7 : Aside (Rv w w7 q2 q3 l R i false ys (Value.slice av nv cv) ∧ At2 w7 wr.heap.size 0 0 ∧ (q3 < wr.heap.size ∧ ∀ j, (Value.slice av nv cv).ownBlock = some j → j ≠ wr.heap.size)) := ⟨H5.out.1.stays s6, H5.out.2.1.stays s6, H5.out.2.2⟩
            clear KN s6 H5 HBT hx1
            obtain ⟨q5, hq5⟩ : ∃ q5, q5 = wr.heap.size := ⟨_, rfl⟩
            rw [← hq5] at H7 ⊢
            clear hq5 HS
            go_wp2_with fail
            refine (KO.out _).mono ?_
            rintro _ w6 ⟨rfl, s6⟩
            have H6 : Aside (Rv w w6 q2 q3 l R i false ys (Value.slice av nv cv) ∧ At2 w6 q5 0 0 ∧ (q3 < q5 ∧ ∀ j, (Value.slice av nv cv).ownBlock = some j → j ≠ q5)) := ⟨H7.out.1.stays s6, H7.out.2.1.stays s6, H7.out.2.2⟩
            clear KO s6 H7
            have hne : ¬ q3 = q5 := by have := H6.out.2.2.1; omega
            have hne2 : ¬ q5 = q3 := by have := H6.out.2.2.1; omega
            obtain ⟨c0, c1, f0, f1⟩ := H6.out.2.1.cells
            obtain ⟨t0, _, t2, _, _, _⟩ := H6.out.1.t.cells
            have hlt5 := H6.out.2.1.lt
            have hlt3 := H6.out.1.t.lt
            go_upto_region 20 with fail
            refine wlet ?_
            intro wk hwk
            have HK : Aside (Rv w wk q2 q3 l R i false ys (Value.slice av nv cv) ∧ At2 wk q5 x1 x2 ∧ q3 < q5) := by
              subst hwk
              exact ⟨H6.out.1.other (At2.stp w6 q5 _ _) (fun j hj => by simp at hj; subst hj; exact H6.out.2.2), H6.out.2.1.set _ _, H6.out.2.2.1⟩
            clear hwk H6 c0 c1 f0 f1 t0 t2 hlt5 hlt3
            obtain ⟨k0, k1, _, _⟩ := HK.out.2.1.cells
            obtain ⟨t0, t1, t2, g0, g1, g2⟩ := HK.out.1.t.cells
            have hlk := HK.out.2.1.lt
            have hlt3 := HK.out.1.t.lt
            have HF2 : Aside (fst1 false (l.drop i) = some ⟨(x1, x2), m, false⟩) := by
              show fst1 false (l.drop i) = _
              rw [HX.out.1]
              have h1 := HF.out.1
              rw [HO.out] at h1
              exact h1
            have HY : Aside (Stp [q3] wk [q3] (wk.alloc (.cells #[.int .i64 x1, .int .i64 x2] 41)) ∧ AtT (wk.alloc (.cells #[.int .i64 x1, .int .i64 x2] 41)) q3 (Value.slice av nv cv) (.slice none 0 0) false ∧ KOwn (wk.alloc (.cells #[.int .i64 x1, .int .i64 x2] 41)) (q3 + 1) (Value.slice av nv cv) ys ∧ Kts (wk.alloc (.cells #[.int .i64 x1, .int .i64 x2] 41)) (some ⟨wk.heap.size, 0, none⟩) [(x1, x2)]) := HK.out.1.X0 (x1, x2)
            have hsum : IntKind.i64.wrap ((i : Int) + (m : Int)) = (i : Int) + (m : Int) := by rw [IntKind.wrap_i64]; have := HX.out.2.2.2.2; have := HF.out.2; omega
            go_wp2_with (at_builtin; refine wpList_appK rfl (.tmp 92) (.tmp 94) rfl (q3 + 1) (Value.slice av nv cv) ys rfl HY.out.2.2.1 (some ⟨wk.heap.size, 0, none⟩) 1 1 [(x1, x2)] rfl rfl HY.out.2.2.2 (fun h => by cases h) (by have := HK.out.1.len; have := HX.out.2.2.2.2; simp; omega) (by have := HK.out.1.t.lt; simp; omega) ?_; intro v' w8 hrow hgrow; have hfm : ∃ a8 n8 c8, v' = Value.slice a8 n8 c8 := hrow.form.elim (fun a8 h => h.elim (fun c8 h2 => ⟨a8, _, c8, h2.1⟩)); obtain ⟨a8, n8, c8, ev⟩ := hfm; subst ev; have HP : Aside (Rv w (w8.setCell ⟨q3, 0, none⟩ (Value.slice a8 n8 c8)) q2 q3 l R (i + m) false (ys ++ [(x1, x2)]) (Value.slice a8 n8 c8)) := HK.out.1.push HF2.out HY.out.1 HY.out.2.1 hrow hgrow; have hgs : Stp (Value.slice av nv cv).ownBlock.toList (wk.alloc (.cells #[.int .i64 x1, .int .i64 x2] 41)) (Value.slice av nv cv).ownBlock.toList w8 := grown_stp hgrow (fun k e => by simp [e]) (fun k hk => hk); have ht8 : AtT w8 q3 (Value.slice av nv cv) (.slice none 0 0) false := HY.out.2.1.other hgs (fun e => absurd (HK.out.1.row.lt q3 (by simpa using e)).1 (by omega)); obtain ⟨u0, _, _, z0, _, _⟩ := ht8.cells; clear hrow hgrow hgs ht8)
            go_roundg (n - (i + m))
            case measure => have := HF.out.2; have := HX.out.2.2.2.2; omega
            case rel => exact ⟨i + m, false, ys ++ [(x1, x2)], Value.slice a8 n8 c8, by go_num, by have := HF.out.2; have := HX.out.2.2.2.2; omega, by omega, HP.out⟩
          · obtain ⟨hp, h0, hok⟩ := hw
            subst hp
            have HO := Lib.hid hok
            clear hok
            go_wp2_with fail
            generalize wr.alloc (.cells #[.int .i64 0, .int .i64 0] 41) = w5 at *
            refine KN.out.mono ?_
            rintro _ w7 ⟨rfl, s6⟩
            have H7 : Aside (Rv w w7 q2 q3 l R i true ys (Value.slice av nv cv) ∧ At2 w7 wr.heap.size 0 0 ∧ (q3 < wr.heap.size ∧ ∀ j, (Value.slice av nv cv).ownBlock = some j → j ≠ wr.heap.size)) := ⟨H5.out.1.stays s6, H5.out.2.1.stays s6, H5.out.2.2⟩
            clear KN s6 H5 HBT hx1
            obtain ⟨q5, hq5⟩ : ∃ q5, q5 = wr.heap.size := ⟨_, rfl⟩
            rw [← hq5] at H7 ⊢
            clear hq5 HS
            go_wp2_with fail
            refine (KO.out _).mono ?_
            rintro _ w6 ⟨rfl, s6⟩
            have H6 : Aside (Rv w w6 q2 q3 l R i true ys (Value.slice av nv cv) ∧ At2 w6 q5 0 0 ∧ (q3 < q5 ∧ ∀ j, (Value.slice av nv cv).ownBlock = some j → j ≠ q5)) := ⟨H7.out.1.stays s6, H7.out.2.1.stays s6, H7.out.2.2⟩
            clear KO s6 H7
            have hne : ¬ q3 = q5 := by have := H6.out.2.2.1; omega
            have hne2 : ¬ q5 = q3 := by have := H6.out.2.2.1; omega
            obtain ⟨c0, c1, f0, f1⟩ := H6.out.2.1.cells
            obtain ⟨t0, _, t2, _, _, _⟩ := H6.out.1.t.cells
            have hlt5 := H6.out.2.1.lt
            have hlt3 := H6.out.1.t.lt
            go_upto_region 20 with fail
            refine wlet ?_
            intro wk hwk
            have HK : Aside (Rv w wk q2 q3 l R i true ys (Value.slice av nv cv) ∧ At2 wk q5 15 0 ∧ q3 < q5) := by
              subst hwk
              exact ⟨H6.out.1.other ((At2.stp w6 q5 _ _).trans (At2.stp _ q5 _ _)) (fun j hj => by simp at hj; subst hj; exact H6.out.2.2), (H6.out.2.1.set _ _).set _ _, H6.out.2.2.1⟩
            clear hwk H6 c0 c1 f0 f1 t0 t2 hlt5 hlt3
            obtain ⟨k0, k1, _, _⟩ := HK.out.2.1.cells
            obtain ⟨t0, t1, t2, g0, g1, g2⟩ := HK.out.1.t.cells
            have hlk := HK.out.2.1.lt
            have hlt3 := HK.out.1.t.lt
            have HF2 : Aside (fst1 true (l.drop i) = some ⟨(15, 0), m, true⟩) := by
              show fst1 true (l.drop i) = _
              rw [HX.out.1]
              have h1 := HF.out.1
              rw [HO.out] at h1
              exact h1
            have HY : Aside (Stp [q3] wk [q3] (wk.alloc (.cells #[.int .i64 15, .int .i64 0] 41)) ∧ AtT (wk.alloc (.cells #[.int .i64 15, .int .i64 0] 41)) q3 (Value.slice av nv cv) (.slice none 0 0) true ∧ KOwn (wk.alloc (.cells #[.int .i64 15, .int .i64 0] 41)) (q3 + 1) (Value.slice av nv cv) ys ∧ Kts (wk.alloc (.cells #[.int .i64 15, .int .i64 0] 41)) (some ⟨wk.heap.size, 0, none⟩) [(15, 0)]) := HK.out.1.X0 (15, 0)
            have hsum : IntKind.i64.wrap ((i : Int) + (m : Int)) = (i : Int) + (m : Int) := by rw [IntKind.wrap_i64]; have := HX.out.2.2.2.2; have := HF.out.2; omega
            go_wp2_with (at_builtin; refine wpList_appK rfl (.tmp 92) (.tmp 94) rfl (q3 + 1) (Value.slice av nv cv) ys rfl HY.out.2.2.1 (some ⟨wk.heap.size, 0, none⟩) 1 1 [(15, 0)] rfl rfl HY.out.2.2.2 (fun h => by cases h) (by have := HK.out.1.len; have := HX.out.2.2.2.2; simp; omega) (by have := HK.out.1.t.lt; simp; omega) ?_; intro v' w8 hrow hgrow; have hfm : ∃ a8 n8 c8, v' = Value.slice a8 n8 c8 := hrow.form.elim (fun a8 h => h.elim (fun c8 h2 => ⟨a8, _, c8, h2.1⟩)); obtain ⟨a8, n8, c8, ev⟩ := hfm; subst ev; have HP : Aside (Rv w (w8.setCell ⟨q3, 0, none⟩ (Value.slice a8 n8 c8)) q2 q3 l R (i + m) true (ys ++ [(15, 0)]) (Value.slice a8 n8 c8)) := HK.out.1.push HF2.out HY.out.1 HY.out.2.1 hrow hgrow; have hgs : Stp (Value.slice av nv cv).ownBlock.toList (wk.alloc (.cells #[.int .i64 15, .int .i64 0] 41)) (Value.slice av nv cv).ownBlock.toList w8 := grown_stp hgrow (fun k e => by simp [e]) (fun k hk => hk); have ht8 : AtT w8 q3 (Value.slice av nv cv) (.slice none 0 0) true := HY.out.2.1.other hgs (fun e => absurd (HK.out.1.row.lt q3 (by simpa using e)).1 (by omega)); obtain ⟨u0, _, _, z0, _, _⟩ := ht8.cells; clear hrow hgrow hgs ht8)
            go_roundg (n - (i + m))
            case measure => have := HF.out.2; have := HX.out.2.2.2.2; omega
            case rel => exact ⟨i + m, true, ys ++ [(15, 0)], Value.slice a8 n8 c8, by go_num, by have := HF.out.2; have := HX.out.2.2.2.2; omega, by omega, HP.out⟩
          · obtain ⟨hp, h0, hok⟩ := hw
            subst hp
            have HO := Lib.hid hok
            clear hok
            go_wp2_with fail
            generalize wr.alloc (.cells #[.int .i64 0, .int .i64 0] 41) = w5 at *
            refine KN.out.mono ?_
            rintro _ w7 ⟨rfl, s6⟩
            have H7 : Aside (Rv w w7 q2 q3 l R i true ys (Value.slice av nv cv) ∧ At2 w7 wr.heap.size 0 0 ∧ (q3 < wr.heap.size ∧ ∀ j, (Value.slice av nv cv).ownBlock = some j → j ≠ wr.heap.size)) := ⟨H5.out.1.stays s6, H5.out.2.1.stays s6, H5.out.2.2⟩
            clear KN s6 H5 HBT hx1
            obtain ⟨q5, hq5⟩ : ∃ q5, q5 = wr.heap.size := ⟨_, rfl⟩
            rw [← hq5] at H7 ⊢
            clear hq5 HS
            go_wp2_with fail
            refine (KO.out _).mono ?_
            rintro _ w6 ⟨rfl, s6⟩
            have H6 : Aside (Rv w w6 q2 q3 l R i true ys (Value.slice av nv cv) ∧ At2 w6 q5 0 0 ∧ (q3 < q5 ∧ ∀ j, (Value.slice av nv cv).ownBlock = some j → j ≠ q5)) := ⟨H7.out.1.stays s6, H7.out.2.1.stays s6, H7.out.2.2⟩
            clear KO s6 H7
            have hne : ¬ q3 = q5 := by have := H6.out.2.2.1; omega
            have hne2 : ¬ q5 = q3 := by have := H6.out.2.2.1; omega
            obtain ⟨c0, c1, f0, f1⟩ := H6.out.2.1.cells
            obtain ⟨t0, _, t2, _, _, _⟩ := H6.out.1.t.cells
            have hlt5 := H6.out.2.1.lt
            have hlt3 := H6.out.1.t.lt
            go_upto_region 20 with fail
            refine wlet ?_
            intro wk hwk
            have HK : Aside (Rv w wk q2 q3 l R i true ys (Value.slice av nv cv) ∧ At2 wk q5 x1 x2 ∧ q3 < q5) := by
              subst hwk
              exact ⟨H6.out.1.other (At2.stp w6 q5 _ _) (fun j hj => by simp at hj; subst hj; exact H6.out.2.2), H6.out.2.1.set _ _, H6.out.2.2.1⟩
            clear hwk H6 c0 c1 f0 f1 t0 t2 hlt5 hlt3
            obtain ⟨k0, k1, _, _⟩ := HK.out.2.1.cells
            obtain ⟨t0, t1, t2, g0, g1, g2⟩ := HK.out.1.t.cells
            have hlk := HK.out.2.1.lt
            have hlt3 := HK.out.1.t.lt
            have HF2 : Aside (fst1 true (l.drop i) = some ⟨(x1, x2), m, true⟩) := by
              show fst1 true (l.drop i) = _
              rw [HX.out.1]
              have h1 := HF.out.1
              rw [HO.out] at h1
              exact h1
            have HY : Aside (Stp [q3] wk [q3] (wk.alloc (.cells #[.int .i64 x1, .int .i64 x2] 41)) ∧ AtT (wk.alloc (.cells #[.int .i64 x1, .int .i64 x2] 41)) q3 (Value.slice av nv cv) (.slice none 0 0) true ∧ KOwn (wk.alloc (.cells #[.int .i64 x1, .int .i64 x2] 41)) (q3 + 1) (Value.slice av nv cv) ys ∧ Kts (wk.alloc (.cells #[.int .i64 x1, .int .i64 x2] 41)) (some ⟨wk.heap.size, 0, none⟩) [(x1, x2)]) := HK.out.1.X0 (x1, x2)
            have hsum : IntKind.i64.wrap ((i : Int) + (m : Int)) = (i : Int) + (m : Int) := by rw [IntKind.wrap_i64]; have := HX.out.2.2.2.2; have := HF.out.2; omega
            go_wp2_with (at_builtin; refine wpList_appK rfl (.tmp 92) (.tmp 94) rfl (q3 + 1) (Value.slice av nv cv) ys rfl HY.out.2.2.1 (some ⟨wk.heap.size, 0, none⟩) 1 1 [(x1, x2)] rfl rfl HY.out.2.2.2 (fun h => by cases h) (by have := HK.out.1.len; have := HX.out.2.2.2.2; simp; omega) (by have := HK.out.1.t.lt; simp; omega) ?_; intro v' w8 hrow hgrow; have hfm : ∃ a8 n8 c8, v' = Value.slice a8 n8 c8 := hrow.form.elim (fun a8 h => h.elim (fun c8 h2 => ⟨a8, _, c8, h2.1⟩)); obtain ⟨a8, n8, c8, ev⟩ := hfm; subst ev; have HP : Aside (Rv w (w8.setCell ⟨q3, 0, none⟩ (Value.slice a8 n8 c8)) q2 q3 l R (i + m) true (ys ++ [(x1, x2)]) (Value.slice a8 n8 c8)) := HK.out.1.push HF2.out HY.out.1 HY.out.2.1 hrow hgrow; have hgs : Stp (Value.slice av nv cv).ownBlock.toList (wk.alloc (.cells #[.int .i64 x1, .int .i64 x2] 41)) (Value.slice av nv cv).ownBlock.toList w8 := grown_stp hgrow (fun k e => by simp [e]) (fun k hk => hk); have ht8 : AtT w8 q3 (Value.slice av nv cv) (.slice none 0 0) true := HY.out.2.1.other hgs (fun e => absurd (HK.out.1.row.lt q3 (by simpa using e)).1 (by omega)); obtain ⟨u0, _, _, z0, _, _⟩ := ht8.cells; clear hrow hgrow hgs ht8)
            go_roundg (n - (i + m))
            case measure => have := HF.out.2; have := HX.out.2.2.2.2; omega
            case rel => exact ⟨i + m, true, ys ++ [(x1, x2)], Value.slice a8 n8 c8, by go_num, by have := HF.out.2; have := HX.out.2.2.2.2; omega, by omega, HP.out⟩
        · rw [if_pos rfl] at hf
          have HF := Lib.hid hf
          clear hf
          obtain ⟨x1, x2, hx⟩ : ∃ x1 x2, K.ofk (z : Int) = (x1, x2) := ⟨_, _, rfl⟩
          have KO : Hid (∀ W, Calls Tryd.prog 34 #[.int .i64 (z : Int)] W (Tells (.agg #[.int .i64 x1, .int .i64 x2]) W)) := Lib.hid fun W => by
            have h := K.rof_run (z : Int) W
            rw [hx] at h
            exact h
          have hno := ofk_no (z : Int)
          rw [hx] at hno
          have h13 : (x1 == 13) = false := beq_eq_false_iff_ne.2 hno.1
          have h14 : (x1 == 14) = false := beq_eq_false_iff_ne.2 hno.2
          have hw : (p = false ∧ ock p (z : Int) = (x1, x2)) ∨ (p = true ∧ (x1 != 0) = true ∧ ock p (z : Int) = (15, 0)) ∨ (p = true ∧ (x1 != 0) = false ∧ ock p (z : Int) = (x1, x2)) := by
            cases p with
            | false => exact .inl ⟨rfl, by unfold ock; rw [if_neg (by simp)]; exact hx⟩
            | true =>
              have hz0 := ofk_zero (z : Int)
              rw [hx] at hz0
              rcases hz0 with ⟨e1, e2⟩ | ⟨e1, e2⟩
              · exact .inr (.inr ⟨rfl, by simpa using e1, by unfold ock; rw [if_neg (by rw [e2]; simp)]; exact hx⟩)
              · exact .inr (.inl ⟨rfl, by simpa using e1, by unfold ock; rw [if_pos ⟨rfl, e2⟩]⟩)
          clear hno hx
          rcases hw with hw | hw | hw
          · obtain ⟨hp, hok⟩ := hw
            subst hp
            have HO := Lib.hid hok
            clear hok
            go_wp2_with fail
            generalize wr.alloc (.cells #[.int .i64 0, .int .i64 0] 41) = w5 at *
            refine KN.out.mono ?_
            rintro _ w7 ⟨rfl, s6⟩
            have H7 : Aside (Rv w w7 q2 q3 l R i false ys (Value.slice av nv cv) ∧ At2 w7 wr.heap.size 0 0 ∧ (q3 < wr.heap.size ∧ ∀ j, (Value.slice av nv cv).ownBlock = some j → j ≠ wr.heap.size)) := ⟨H5.out.1.stays s6, H5.out.2.1.stays s6, H5.out.2.2⟩
            clear KN s6 H5 HBT hx1
            obtain ⟨q5, hq5⟩ : ∃ q5, q5 = wr.heap.size := ⟨_, rfl⟩
            rw [← hq5] at H7 ⊢
            clear hq5 HS
            go_wp2_with fail
            refine (KO.out _).mono ?_
            rintro _ w6 ⟨rfl, s6⟩
            have H6 : Aside (Rv w w6 q2 q3 l R i false ys (Value.slice av nv cv) ∧ At2 w6 q5 0 0 ∧ (q3 < q5 ∧ ∀ j, (Value.slice av nv cv).ownBlock = some j → j ≠ q5)) := ⟨H7.out.1.stays s6, H7.out.2.1.stays s6, H7.out.2.2⟩
            clear KO s6 H7
            have hne : ¬ q3 = q5 := by have := H6.out.2.2.1; omega
            have hne2 : ¬ q5 = q3 := by have := H6.out.2.2.1; omega
            obtain ⟨c0, c1, f0, f1⟩ := H6.out.2.1.cells
            obtain ⟨t0, _, t2, _, _, _⟩ := H6.out.1.t.cells
            have hlt5 := H6.out.2.1.lt
            have hlt3 := H6.out.1.t.lt
            go_upto_region 20 with fail
            refine wlet ?_
            intro wk hwk
            have HK : Aside (Rv w wk q2 q3 l R i false ys (Value.slice av nv cv) ∧ At2 wk q5 x1 x2 ∧ q3 < q5) := by
              subst hwk
              exact ⟨H6.out.1.other (At2.stp w6 q5 _ _) (fun j hj => by simp at hj; subst hj; exact H6.out.2.2), H6.out.2.1.set _ _, H6.out.2.2.1⟩
            clear hwk H6 c0 c1 f0 f1 t0 t2 hlt5 hlt3
            obtain ⟨k0, k1, _, _⟩ := HK.out.2.1.cells
            obtain ⟨t0, t1, t2, g0, g1, g2⟩ := HK.out.1.t.cells
            have hlk := HK.out.2.1.lt
            have hlt3 := HK.out.1.t.lt
            have HY : Aside (Own (wk.alloc (.cells #[] 5)) (q3 + 1) (.slice (some ⟨wk.heap.size, 0, none⟩) 0 0) [] ∧ Bts (wk.alloc (.cells #[] 5)) (some ⟨b2, o2, none⟩) (x0 :: xr)) := by
              have h1 := Own.new wk
              have h2 := HK.out.1.t.lt
              refine ⟨⟨h1.1, ?_⟩, ?_⟩
              · rcases h1.2 with hn | ⟨g, cap, cur, e, hg, rest⟩
                · exact .inl hn
                · exact .inr ⟨g, cap, cur, e, by omega, rest⟩
              · exact (HBT2.out.stays HK.out.1.stp).stays (Stp.alloc [] wk _)
            go_wp2_with (at_builtin; refine wpList_app rfl (.tmp 72) (.tmp 75) rfl (q3 + 1) (.slice (some ⟨wk.heap.size, 0, none⟩) 0 0) [] rfl HY.out.1 (some ⟨b2, o2, none⟩) cP r (x0 :: xr) HX.out.2.1 rfl HY.out.2 (fun h => by cases h) (by have := HX.out.2; simp only [List.length_nil]; omega) (by have := HK.out.1.t.lt; simp; omega) ?_; intro vh w8 hrow hgrow; rw [List.nil_append] at hrow; have hfm : ∃ a8 n8 c8, vh = Value.slice a8 n8 c8 := hrow.bts.elim (fun a8 h => h.elim (fun c8 h2 => ⟨a8, _, c8, h2.1⟩)); obtain ⟨a8, n8, c8, ev⟩ := hfm; subst ev; have HP := Lib.hid (HK.out.1.hold (v' := .slice (some ⟨wk.heap.size, 0, none⟩) 0 0) (Stp.alloc [] wk _) (fun k hk => by have e2 : some wk.heap.size = some k := hk; cases e2; rfl) hrow hgrow); have hgs : Stp [wk.heap.size] (wk.alloc (.cells #[] 5)) [wk.heap.size] w8 := grown_stp hgrow (fun k e => by have e2 : some wk.heap.size = some k := e; cases e2; simp) (fun k hk => hk); have ht8 := (HK.out.1.t.other (Stp.alloc [] wk (.cells #[] 5)) (by simp)).other hgs (by simp; omega); obtain ⟨u0, u1, u2, z0, z1, z2⟩ := ht8.cells; have hr8 := (HK.out.1.res.other (Stp.alloc [] wk (.cells #[] 5)) (by simp)).other hgs (by have := HK.out.1.res.lt; simp; omega); obtain ⟨r0, r1, r2, y0, y1, y2⟩ := hr8.cells; have hqn : ¬ q2 = q3 := (by have := HK.out.1.q; omega); have hqn2 : ¬ q3 = q2 := (by have := HK.out.1.q; omega); clear hrow hgrow hgs)
            have HF3 := Rv.fin (p := false) HK.out.1.q HP.out.1 HP.out.2.2.1 HP.out.2.2.2.1 HP.out.2.2.2.2
            refine bodyPost_ret (res_told rfl _ _ q2 (Value.slice av nv cv) (Value.slice a8 n8 c8) false rfl HF3.1) rfl ?_
            have eR := HK.out.1.eq
            rw [HX.out.1, rd_none HF.out, List.append_nil] at eR
            rw [eR]
            exact ⟨_, _, rfl, HF3.2.1, HF3.2.2.1, HF3.2.2.2⟩
          · obtain ⟨hp, h0, hok⟩ := hw
            subst hp
            have HO := Lib.hid hok
            clear hok
            go_wp2_with fail
            generalize wr.alloc (.cells #[.int .i64 0, .int .i64 0] 41) = w5 at *
            refine KN.out.mono ?_
            rintro _ w7 ⟨rfl, s6⟩
            have H7 : Aside (Rv w w7 q2 q3 l R i true ys (Value.slice av nv cv) ∧ At2 w7 wr.heap.size 0 0 ∧ (q3 < wr.heap.size ∧ ∀ j, (Value.slice av nv cv).ownBlock = some j → j ≠ wr.heap.size)) := ⟨H5.out.1.stays s6, H5.out.2.1.stays s6, H5.out.2.2⟩
            clear KN s6 H5 HBT hx1
            obtain ⟨q5, hq5⟩ : ∃ q5, q5 = wr.heap.size := ⟨_, rfl⟩
            rw [← hq5] at H7 ⊢
            clear hq5 HS
            go_wp2_with fail
            refine (KO.out _).mono ?_
            rintro _ w6 ⟨rfl, s6⟩
            have H6 : Aside (Rv w w6 q2 q3 l R i true ys (Value.slice av nv cv) ∧ At2 w6 q5 0 0 ∧ (q3 < q5 ∧ ∀ j, (Value.slice av nv cv).ownBlock = some j → j ≠ q5)) := ⟨H7.out.1.stays s6, H7.out.2.1.stays s6, H7.out.2.2⟩
            clear KO s6 H7
            have hne : ¬ q3 = q5 := by have := H6.out.2.2.1; omega
            have hne2 : ¬ q5 = q3 := by have := H6.out.2.2.1; omega
            obtain ⟨c0, c1, f0, f1⟩ := H6.out.2.1.cells
            obtain ⟨t0, _, t2, _, _, _⟩ := H6.out.1.t.cells
            have hlt5 := H6.out.2.1.lt
            have hlt3 := H6.out.1.t.lt
            go_upto_region 20 with fail
            refine wlet ?_
            intro wk hwk
            have HK : Aside (Rv w wk q2 q3 l R i true ys (Value.slice av nv cv) ∧ At2 wk q5 15 0 ∧ q3 < q5) := by
              subst hwk
              exact ⟨H6.out.1.other ((At2.stp w6 q5 _ _).trans (At2.stp _ q5 _ _)) (fun j hj => by simp at hj; subst hj; exact H6.out.2.2), (H6.out.2.1.set _ _).set _ _, H6.out.2.2.1⟩
            clear hwk H6 c0 c1 f0 f1 t0 t2 hlt5 hlt3
            obtain ⟨k0, k1, _, _⟩ := HK.out.2.1.cells
            obtain ⟨t0, t1, t2, g0, g1, g2⟩ := HK.out.1.t.cells
            have hlk := HK.out.2.1.lt
            have hlt3 := HK.out.1.t.lt
            have HY : Aside (Own (wk.alloc (.cells #[] 5)) (q3 + 1) (.slice (some ⟨wk.heap.size, 0, none⟩) 0 0) [] ∧ Bts (wk.alloc (.cells #[] 5)) (some ⟨b2, o2, none⟩) (x0 :: xr)) := by
              have h1 := Own.new wk
              have h2 := HK.out.1.t.lt
              refine ⟨⟨h1.1, ?_⟩, ?_⟩
              · rcases h1.2 with hn | ⟨g, cap, cur, e, hg, rest⟩
                · exact .inl hn
                · exact .inr ⟨g, cap, cur, e, by omega, rest⟩
              · exact (HBT2.out.stays HK.out.1.stp).stays (Stp.alloc [] wk _)
            go_wp2_with (at_builtin; refine wpList_app rfl (.tmp 72) (.tmp 75) rfl (q3 + 1) (.slice (some ⟨wk.heap.size, 0, none⟩) 0 0) [] rfl HY.out.1 (some ⟨b2, o2, none⟩) cP r (x0 :: xr) HX.out.2.1 rfl HY.out.2 (fun h => by cases h) (by have := HX.out.2; simp only [List.length_nil]; omega) (by have := HK.out.1.t.lt; simp; omega) ?_; intro vh w8 hrow hgrow; rw [List.nil_append] at hrow; have hfm : ∃ a8 n8 c8, vh = Value.slice a8 n8 c8 := hrow.bts.elim (fun a8 h => h.elim (fun c8 h2 => ⟨a8, _, c8, h2.1⟩)); obtain ⟨a8, n8, c8, ev⟩ := hfm; subst ev; have HP := Lib.hid (HK.out.1.hold (v' := .slice (some ⟨wk.heap.size, 0, none⟩) 0 0) (Stp.alloc [] wk _) (fun k hk => by have e2 : some wk.heap.size = some k := hk; cases e2; rfl) hrow hgrow); have hgs : Stp [wk.heap.size] (wk.alloc (.cells #[] 5)) [wk.heap.size] w8 := grown_stp hgrow (fun k e => by have e2 : some wk.heap.size = some k := e; cases e2; simp) (fun k hk => hk); have ht8 := (HK.out.1.t.other (Stp.alloc [] wk (.cells #[] 5)) (by simp)).other hgs (by simp; omega); obtain ⟨u0, u1, u2, z0, z1, z2⟩ := ht8.cells; have hr8 := (HK.out.1.res.other (Stp.alloc [] wk (.cells #[] 5)) (by simp)).other hgs (by have := HK.out.1.res.lt; simp; omega); obtain ⟨r0, r1, r2, y0, y1, y2⟩ := hr8.cells; have hqn : ¬ q2 = q3 := (by have := HK.out.1.q; omega); have hqn2 : ¬ q3 = q2 := (by have := HK.out.1.q; omega); clear hrow hgrow hgs)
            have HF3 := Rv.fin (p := true) HK.out.1.q HP.out.1 HP.out.2.2.1 HP.out.2.2.2.1 HP.out.2.2.2.2
            refine bodyPost_ret (res_told rfl _ _ q2 (Value.slice av nv cv) (Value.slice a8 n8 c8) true rfl HF3.1) rfl ?_
            have eR := HK.out.1.eq
            rw [HX.out.1, rd_none HF.out, List.append_nil] at eR
            rw [eR]
            exact ⟨_, _, rfl, HF3.2.1, HF3.2.2.1, HF3.2.2.2⟩
          · obtain ⟨hp, h0, hok⟩ := hw
            subst hp
            have HO := Lib.hid hok
            clear hok
            go_wp2_with fail
            generalize wr.alloc (.cells #[.int .i64 0, .int .i64 0] 41) = w5 at *
            refine KN.out.mono ?_
            rintro _ w7 ⟨rfl, s6⟩
            have H7 : Aside (Rv w w7 q2 q3 l R i true ys (Value.slice av nv cv) ∧ At2 w7 wr.heap.size 0 0 ∧ (q3 < wr.heap.size ∧ ∀ j, (Value.slice av nv cv).ownBlock = some j → j ≠ wr.heap.size)) := ⟨H5.out.1.stays s6, H5.out.2.1.stays s6, H5.out.2.2⟩
            clear KN s6 H5 HBT hx1
            obtain ⟨q5, hq5⟩ : ∃ q5, q5 = wr.heap.size := ⟨_, rfl⟩
            rw [← hq5] at H7 ⊢
            clear hq5 HS
            go_wp2_with fail
            refine (KO.out _).mono ?_
            rintro _ w6 ⟨rfl, s6⟩
            have H6 : Aside (Rv w w6 q2 q3 l R i true ys (Value.slice av nv cv) ∧ At2 w6 q5 0 0 ∧ (q3 < q5 ∧ ∀ j, (Value.slice av nv cv).ownBlock = some j → j ≠ q5)) := ⟨H7.out.1.stays s6, H7.out.2.1.stays s6, H7.out.2.2⟩
            clear KO s6 H7
            have hne : ¬ q3 = q5 := by have := H6.out.2.2.1; omega
            have hne2 : ¬ q5 = q3 := by have := H6.out.2.2.1; omega
            obtain ⟨c0, c1, f0, f1⟩ := H6.out.2.1.cells
            obtain ⟨t0, _, t2, _, _, _⟩ := H6.out.1.t.cells
            have hlt5 := H6.out.2.1.lt
            have hlt3 := H6.out.1.t.lt
            go_upto_region 20 with fail
            refine wlet ?_
            intro wk hwk
            have HK : Aside (Rv w wk q2 q3 l R i true ys (Value.slice av nv cv) ∧ At2 wk q5 x1 x2 ∧ q3 < q5) := by
              subst hwk
              exact ⟨H6.out.1.other (At2.stp w6 q5 _ _) (fun j hj => by simp at hj; subst hj; exact H6.out.2.2), H6.out.2.1.set _ _, H6.out.2.2.1⟩
            clear hwk H6 c0 c1 f0 f1 t0 t2 hlt5 hlt3
            obtain ⟨k0, k1, _, _⟩ := HK.out.2.1.cells
            obtain ⟨t0, t1, t2, g0, g1, g2⟩ := HK.out.1.t.cells
            have hlk := HK.out.2.1.lt
            have hlt3 := HK.out.1.t.lt
            have HY : Aside (Own (wk.alloc (.cells #[] 5)) (q3 + 1) (.slice (some ⟨wk.heap.size, 0, none⟩) 0 0) [] ∧ Bts (wk.alloc (.cells #[] 5)) (some ⟨b2, o2, none⟩) (x0 :: xr)) := by
              have h1 := Own.new wk
              have h2 := HK.out.1.t.lt
              refine ⟨⟨h1.1, ?_⟩, ?_⟩
              · rcases h1.2 with hn | ⟨g, cap, cur, e, hg, rest⟩
                · exact .inl hn
                · exact .inr ⟨g, cap, cur, e, by omega, rest⟩
              · exact (HBT2.out.stays HK.out.1.stp).stays (Stp.alloc [] wk _)
            go_wp2_with (at_builtin; refine wpList_app rfl (.tmp 72) (.tmp 75) rfl (q3 + 1) (.slice (some ⟨wk.heap.size, 0, none⟩) 0 0) [] rfl HY.out.1 (some ⟨b2, o2, none⟩) cP r (x0 :: xr) HX.out.2.1 rfl HY.out.2 (fun h => by cases h) (by have := HX.out.2; simp only [List.length_nil]; omega) (by have := HK.out.1.t.lt; simp; omega) ?_; intro vh w8 hrow hgrow; rw [List.nil_append] at hrow; have hfm : ∃ a8 n8 c8, vh = Value.slice a8 n8 c8 := hrow.bts.elim (fun a8 h => h.elim (fun c8 h2 => ⟨a8, _, c8, h2.1⟩)); obtain ⟨a8, n8, c8, ev⟩ := hfm; subst ev; have HP := Lib.hid (HK.out.1.hold (v' := .slice (some ⟨wk.heap.size, 0, none⟩) 0 0) (Stp.alloc [] wk _) (fun k hk => by have e2 : some wk.heap.size = some k := hk; cases e2; rfl) hrow hgrow); have hgs : Stp [wk.heap.size] (wk.alloc (.cells #[] 5)) [wk.heap.size] w8 := grown_stp hgrow (fun k e => by have e2 : some wk.heap.size = some k := e; cases e2; simp) (fun k hk => hk); have ht8 := (HK.out.1.t.other (Stp.alloc [] wk (.cells #[] 5)) (by simp)).other hgs (by simp; omega); obtain ⟨u0, u1, u2, z0, z1, z2⟩ := ht8.cells; have hr8 := (HK.out.1.res.other (Stp.alloc [] wk (.cells #[] 5)) (by simp)).other hgs (by have := HK.out.1.res.lt; simp; omega); obtain ⟨r0, r1, r2, y0, y1, y2⟩ := hr8.cells; have hqn : ¬ q2 = q3 := (by have := HK.out.1.q; omega); have hqn2 : ¬ q3 = q2 := (by have := HK.out.1.q; omega); clear hrow hgrow hgs)
            have HF3 := Rv.fin (p := true) HK.out.1.q HP.out.1 HP.out.2.2.1 HP.out.2.2.2.1 HP.out.2.2.2.2
            refine bodyPost_ret (res_told rfl _ _ q2 (Value.slice av nv cv) (Value.slice a8 n8 c8) true rfl HF3.1) rfl ?_
            have eR := HK.out.1.eq
            rw [HX.out.1, rd_none HF.out, List.append_nil] at eR
            rw [eR]
            exact ⟨_, _, rfl, HF3.2.1, HF3.2.2.1, HF3.2.2.2⟩
        · rw [if_neg (by simp), if_neg (by simp)] at hf
          have HF := Lib.hid (And.intro hf HMR.out)
          clear hf
          obtain ⟨x1, x2, hx⟩ : ∃ x1 x2, K.ofk 65533 = (x1, x2) := ⟨_, _, rfl⟩
          have KO : Hid (∀ W, Calls Tryd.prog 34 #[.int .i64 65533] W (Tells (.agg #[.int .i64 x1, .int .i64 x2]) W)) := Lib.hid fun W => by
            have h := K.rof_run 65533 W
            rw [hx] at h
            exact h
          have hno := ofk_no 65533
          rw [hx] at hno
          have h13 : (x1 == 13) = false := beq_eq_false_iff_ne.2 hno.1
          have h14 : (x1 == 14) = false := beq_eq_false_iff_ne.2 hno.2
          have hw : (p = false ∧ ock p 65533 = (x1, x2)) ∨ (p = true ∧ (x1 != 0) = true ∧ ock p 65533 = (15, 0)) ∨ (p = true ∧ (x1 != 0) = false ∧ ock p 65533 = (x1, x2)) := by
            cases p with
            | false => exact .inl ⟨rfl, by unfold ock; rw [if_neg (by simp)]; exact hx⟩
            | true =>
              have hz0 := ofk_zero 65533
              rw [hx] at hz0
              rcases hz0 with ⟨e1, e2⟩ | ⟨e1, e2⟩
              · exact .inr (.inr ⟨rfl, by simpa using e1, by unfold ock; rw [if_neg (by rw [e2]; simp)]; exact hx⟩)
              · exact .inr (.inl ⟨rfl, by simpa using e1, by unfold ock; rw [if_pos ⟨rfl, e2⟩]⟩)
          clear hno hx
          rcases hw with hw | hw | hw
          · obtain ⟨hp, hok⟩ := hw
            subst hp
            have HO := Lib.hid hok
            clear hok
            go_wp2_with fail
            generalize wr.alloc (.cells #[.int .i64 0, .int .i64 0] 41) = w5 at *
            refine KN.out.mono ?_
            rintro _ w7 ⟨rfl, s6⟩
            have H7 : Aside (Rv w w7 q2 q3 l R i false ys (Value.slice av nv cv) ∧ At2 w7 wr.heap.size 0 0 ∧ (q3 < wr.heap.size ∧ ∀ j, (Value.slice av nv cv).ownBlock = some j → j ≠ wr.heap.size)) := ⟨H5.out.1.stays s6, H5.out.2.1.stays s6, H5.out.2.2⟩
            clear KN s6 H5 HBT hx1
            obtain ⟨q5, hq5⟩ : ∃ q5, q5 = wr.heap.size := ⟨_, rfl⟩
            rw [← hq5] at H7 ⊢
            clear hq5 HS
            go_wp2_with fail
            refine (KO.out _).mono ?_
            rintro _ w6 ⟨rfl, s6⟩
            have H6 : Aside (Rv w w6 q2 q3 l R i false ys (Value.slice av nv cv) ∧ At2 w6 q5 0 0 ∧ (q3 < q5 ∧ ∀ j, (Value.slice av nv cv).ownBlock = some j → j ≠ q5)) := ⟨H7.out.1.stays s6, H7.out.2.1.stays s6, H7.out.2.2⟩
            clear KO s6 H7
            have hne : ¬ q3 = q5 := by have := H6.out.2.2.1; omega
            have hne2 : ¬ q5 = q3 := by have := H6.out.2.2.1; omega
            obtain ⟨c0, c1, f0, f1⟩ := H6.out.2.1.cells
            obtain ⟨t0, _, t2, _, _, _⟩ := H6.out.1.t.cells
            have hlt5 := H6.out.2.1.lt
            have hlt3 := H6.out.1.t.lt
            go_upto_region 20 with fail
            refine wlet ?_
            intro wk hwk
            have HK : Aside (Rv w wk q2 q3 l R i false ys (Value.slice av nv cv) ∧ At2 wk q5 x1 x2 ∧ q3 < q5) := by
              subst hwk
              exact ⟨H6.out.1.other (At2.stp w6 q5 _ _) (fun j hj => by simp at hj; subst hj; exact H6.out.2.2), H6.out.2.1.set _ _, H6.out.2.2.1⟩
            clear hwk H6 c0 c1 f0 f1 t0 t2 hlt5 hlt3
            obtain ⟨k0, k1, _, _⟩ := HK.out.2.1.cells
            obtain ⟨t0, t1, t2, g0, g1, g2⟩ := HK.out.1.t.cells
            have hlk := HK.out.2.1.lt
            have hlt3 := HK.out.1.t.lt
            have HF2 : Aside (fst1 false (l.drop i) = some ⟨(x1, x2), m, false⟩) := by
              show fst1 false (l.drop i) = _
              rw [HX.out.1]
              have h1 := HF.out.1
              rw [HO.out] at h1
              exact h1
            have HY : Aside (Stp [q3] wk [q3] (wk.alloc (.cells #[.int .i64 x1, .int .i64 x2] 41)) ∧ AtT (wk.alloc (.cells #[.int .i64 x1, .int .i64 x2] 41)) q3 (Value.slice av nv cv) (.slice none 0 0) false ∧ KOwn (wk.alloc (.cells #[.int .i64 x1, .int .i64 x2] 41)) (q3 + 1) (Value.slice av nv cv) ys ∧ Kts (wk.alloc (.cells #[.int .i64 x1, .int .i64 x2] 41)) (some ⟨wk.heap.size, 0, none⟩) [(x1, x2)]) := HK.out.1.X0 (x1, x2)
            have hsum : IntKind.i64.wrap ((i : Int) + (m : Int)) = (i : Int) + (m : Int) := by rw [IntKind.wrap_i64]; have := HX.out.2.2.2.2; have := HF.out.2; omega
            go_wp2_with (at_builtin; refine wpList_appK rfl (.tmp 92) (.tmp 94) rfl (q3 + 1) (Value.slice av nv cv) ys rfl HY.out.2.2.1 (some ⟨wk.heap.size, 0, none⟩) 1 1 [(x1, x2)] rfl rfl HY.out.2.2.2 (fun h => by cases h) (by have := HK.out.1.len; have := HX.out.2.2.2.2; simp; omega) (by have := HK.out.1.t.lt; simp; omega) ?_; intro v' w8 hrow hgrow; have hfm : ∃ a8 n8 c8, v' = Value.slice a8 n8 c8 := hrow.form.elim (fun a8 h => h.elim (fun c8 h2 => ⟨a8, _, c8, h2.1⟩)); obtain ⟨a8, n8, c8, ev⟩ := hfm; subst ev; have HP : Aside (Rv w (w8.setCell ⟨q3, 0, none⟩ (Value.slice a8 n8 c8)) q2 q3 l R (i + m) false (ys ++ [(x1, x2)]) (Value.slice a8 n8 c8)) := HK.out.1.push HF2.out HY.out.1 HY.out.2.1 hrow hgrow; have hgs : Stp (Value.slice av nv cv).ownBlock.toList (wk.alloc (.cells #[.int .i64 x1, .int .i64 x2] 41)) (Value.slice av nv cv).ownBlock.toList w8 := grown_stp hgrow (fun k e => by simp [e]) (fun k hk => hk); have ht8 : AtT w8 q3 (Value.slice av nv cv) (.slice none 0 0) false := HY.out.2.1.other hgs (fun e => absurd (HK.out.1.row.lt q3 (by simpa using e)).1 (by omega)); obtain ⟨u0, _, _, z0, _, _⟩ := ht8.cells; clear hrow hgrow hgs ht8)
            go_roundg (n - (i + m))
            case measure => have := HF.out.2; have := HX.out.2.2.2.2; omega
            case rel => exact ⟨i + m, false, ys ++ [(x1, x2)], Value.slice a8 n8 c8, by go_num, by have := HF.out.2; have := HX.out.2.2.2.2; omega, by omega, HP.out⟩
          · obtain ⟨hp, h0, hok⟩ := hw
            subst hp
            have HO := Lib.hid hok
            clear hok
            go_wp2_with fail
            generalize wr.alloc (.cells #[.int .i64 0, .int .i64 0] 41) = w5 at *
            refine KN.out.mono ?_
            rintro _ w7 ⟨rfl, s6⟩
            have H7 : Aside (Rv w w7 q2 q3 l R i true ys (Value.slice av nv cv) ∧ At2 w7 wr.heap.size 0 0 ∧ (q3 < wr.heap.size ∧ ∀ j, (Value.slice av nv cv).ownBlock = some j → j ≠ wr.heap.size)) := ⟨H5.out.1.stays s6, H5.out.2.1.stays s6, H5.out.2.2⟩
            clear KN s6 H5 HBT hx1
            obtain ⟨q5, hq5⟩ : ∃ q5, q5 = wr.heap.size := ⟨_, rfl⟩
            rw [← hq5] at H7 ⊢
            clear hq5 HS
            go_wp2_with fail
            refine (KO.out _).mono ?_
            rintro _ w6 ⟨rfl, s6⟩
            have H6 : Aside (Rv w w6 q2 q3 l R i true ys (Value.slice av nv cv) ∧ At2 w6 q5 0 0 ∧ (q3 < q5 ∧ ∀ j, (Value.slice av nv cv).ownBlock = some j → j ≠ q5)) := ⟨H7.out.1.stays s6, H7.out.2.1.stays s6, H7.out.2.2⟩
            clear KO s6 H7
            have hne : ¬ q3 = q5 := by have := H6.out.2.2.1; omega
            have hne2 : ¬ q5 = q3 := by have := H6.out.2.2.1; omega
            obtain ⟨c0, c1, f0, f1⟩ := H6.out.2.1.cells
            obtain ⟨t0, _, t2, _, _, _⟩ := H6.out.1.t.cells
            have hlt5 := H6.out.2.1.lt
            have hlt3 := H6.out.1.t.lt
            go_upto_region 20 with fail
            refine wlet ?_
            intro wk hwk
            have HK : Aside (Rv w wk q2 q3 l R i true ys (Value.slice av nv cv) ∧ At2 wk q5 15 0 ∧ q3 < q5) := by
              subst hwk
              exact ⟨H6.out.1.other ((At2.stp w6 q5 _ _).trans (At2.stp _ q5 _ _)) (fun j hj => by simp at hj; subst hj; exact H6.out.2.2), (H6.out.2.1.set _ _).set _ _, H6.out.2.2.1⟩
            clear hwk H6 c0 c1 f0 f1 t0 t2 hlt5 hlt3
            obtain ⟨k0, k1, _, _⟩ := HK.out.2.1.cells
            obtain ⟨t0, t1, t2, g0, g1, g2⟩ := HK.out.1.t.cells
            have hlk := HK.out.2.1.lt
            have hlt3 := HK.out.1.t.lt
            have HF2 : Aside (fst1 true (l.drop i) = some ⟨(15, 0), m, true⟩) := by
              show fst1 true (l.drop i) = _
              rw [HX.out.1]
              have h1 := HF.out.1
              rw [HO.out] at h1
              exact h1
            have HY : Aside (Stp [q3] wk [q3] (wk.alloc (.cells #[.int .i64 15, .int .i64 0] 41)) ∧ AtT (wk.alloc (.cells #[.int .i64 15, .int .i64 0] 41)) q3 (Value.slice av nv cv) (.slice none 0 0) true ∧ KOwn (wk.alloc (.cells #[.int .i64 15, .int .i64 0] 41)) (q3 + 1) (Value.slice av nv cv) ys ∧ Kts (wk.alloc (.cells #[.int .i64 15, .int .i64 0] 41)) (some ⟨wk.heap.size, 0, none⟩) [(15, 0)]) := HK.out.1.X0 (15, 0)
            have hsum : IntKind.i64.wrap ((i : Int) + (m : Int)) = (i : Int) + (m : Int) := by rw [IntKind.wrap_i64]; have := HX.out.2.2.2.2; have := HF.out.2; omega
            go_wp2_with (at_builtin; refine wpList_appK rfl (.tmp 92) (.tmp 94) rfl (q3 + 1) (Value.slice av nv cv) ys rfl HY.out.2.2.1 (some ⟨wk.heap.size, 0, none⟩) 1 1 [(15, 0)] rfl rfl HY.out.2.2.2 (fun h => by cases h) (by have := HK.out.1.len; have := HX.out.2.2.2.2; simp; omega) (by have := HK.out.1.t.lt; simp; omega) ?_; intro v' w8 hrow hgrow; have hfm : ∃ a8 n8 c8, v' = Value.slice a8 n8 c8 := hrow.form.elim (fun a8 h => h.elim (fun c8 h2 => ⟨a8, _, c8, h2.1⟩)); obtain ⟨a8, n8, c8, ev⟩ := hfm; subst ev; have HP : Aside (Rv w (w8.setCell ⟨q3, 0, none⟩ (Value.slice a8 n8 c8)) q2 q3 l R (i + m) true (ys ++ [(15, 0)]) (Value.slice a8 n8 c8)) := HK.out.1.push HF2.out HY.out.1 HY.out.2.1 hrow hgrow; have hgs : Stp (Value.slice av nv cv).ownBlock.toList (wk.alloc (.cells #[.int .i64 15, .int .i64 0] 41)) (Value.slice av nv cv).ownBlock.toList w8 := grown_stp hgrow (fun k e => by simp [e]) (fun k hk => hk); have ht8 : AtT w8 q3 (Value.slice av nv cv) (.slice none 0 0) true := HY.out.2.1.other hgs (fun e => absurd (HK.out.1.row.lt q3 (by simpa using e)).1 (by omega)); obtain ⟨u0, _, _, z0, _, _⟩ := ht8.cells; clear hrow hgrow hgs ht8)
            go_roundg (n - (i + m))
            case measure => have := HF.out.2; have := HX.out.2.2.2.2; omega
            case rel => exact ⟨i + m, true, ys ++ [(15, 0)], Value.slice a8 n8 c8, by go_num, by have := HF.out.2; have := HX.out.2.2.2.2; omega, by omega, HP.out⟩
          · obtain ⟨hp, h0, hok⟩ := hw
            subst hp
            have HO := Lib.hid hok
            clear hok
            go_wp2_with fail
            generalize wr.alloc (.cells #[.int .i64 0, .int .i64 0] 41) = w5 at *
            refine KN.out.mono ?_
            rintro _ w7 ⟨rfl, s6⟩
            have H7 : Aside (Rv w w7 q2 q3 l R i true ys (Value.slice av nv cv) ∧ At2 w7 wr.heap.size 0 0 ∧ (q3 < wr.heap.size ∧ ∀ j, (Value.slice av nv cv).ownBlock = some j → j ≠ wr.heap.size)) := ⟨H5.out.1.stays s6, H5.out.2.1.stays s6, H5.out.2.2⟩
            clear KN s6 H5 HBT hx1
            obtain ⟨q5, hq5⟩ : ∃ q5, q5 = wr.heap.size := ⟨_, rfl⟩
            rw [← hq5] at H7 ⊢
            clear hq5 HS
            go_wp2_with fail
            refine (KO.out _).mono ?_
            rintro _ w6 ⟨rfl, s6⟩
            have H6 : Aside (Rv w w6 q2 q3 l R i true ys (Value.slice av nv cv) ∧ At2 w6 q5 0 0 ∧ (q3 < q5 ∧ ∀ j, (Value.slice av nv cv).ownBlock = some j → j ≠ q5)) := ⟨H7.out.1.stays s6, H7.out.2.1.stays s6, H7.out.2.2⟩
            clear KO s6 H7
            have hne : ¬ q3 = q5 := by have := H6.out.2.2.1; omega
            have hne2 : ¬ q5 = q3 := by have := H6.out.2.2.1; omega
            obtain ⟨c0, c1, f0, f1⟩ := H6.out.2.1.cells
            obtain ⟨t0, _, t2, _, _, _⟩ := H6.out.1.t.cells
            have hlt5 := H6.out.2.1.lt
            have hlt3 := H6.out.1.t.lt
            go_upto_region 20 with fail
            refine wlet ?_
            intro wk hwk
            have HK : Aside (Rv w wk q2 q3 l R i true ys (Value.slice av nv cv) ∧ At2 wk q5 x1 x2 ∧ q3 < q5) := by
              subst hwk
              exact ⟨H6.out.1.other (At2.stp w6 q5 _ _) (fun j hj => by simp at hj; subst hj; exact H6.out.2.2), H6.out.2.1.set _ _, H6.out.2.2.1⟩
            clear hwk H6 c0 c1 f0 f1 t0 t2 hlt5 hlt3
            obtain ⟨k0, k1, _, _⟩ := HK.out.2.1.cells
            obtain ⟨t0, t1, t2, g0, g1, g2⟩ := HK.out.1.t.cells
            have hlk := HK.out.2.1.lt
            have hlt3 := HK.out.1.t.lt
            have HF2 : Aside (fst1 true (l.drop i) = some ⟨(x1, x2), m, true⟩) := by
              show fst1 true (l.drop i) = _
              rw [HX.out.1]
              have h1 := HF.out.1
              rw [HO.out] at h1
              exact h1
            have HY : Aside (Stp [q3] wk [q3] (wk.alloc (.cells #[.int .i64 x1, .int .i64 x2] 41)) ∧ AtT (wk.alloc (.cells #[.int .i64 x1, .int .i64 x2] 41)) q3 (Value.slice av nv cv) (.slice none 0 0) true ∧ KOwn (wk.alloc (.cells #[.int .i64 x1, .int .i64 x2] 41)) (q3 + 1) (Value.slice av nv cv) ys ∧ Kts (wk.alloc (.cells #[.int .i64 x1, .int .i64 x2] 41)) (some ⟨wk.heap.size, 0, none⟩) [(x1, x2)]) := HK.out.1.X0 (x1, x2)
            have hsum : IntKind.i64.wrap ((i : Int) + (m : Int)) = (i : Int) + (m : Int) := by rw [IntKind.wrap_i64]; have := HX.out.2.2.2.2; have := HF.out.2; omega
            go_wp2_with (at_builtin; refine wpList_appK rfl (.tmp 92) (.tmp 94) rfl (q3 + 1) (Value.slice av nv cv) ys rfl HY.out.2.2.1 (some ⟨wk.heap.size, 0, none⟩) 1 1 [(x1, x2)] rfl rfl HY.out.2.2.2 (fun h => by cases h) (by have := HK.out.1.len; have := HX.out.2.2.2.2; simp; omega) (by have := HK.out.1.t.lt; simp; omega) ?_; intro v' w8 hrow hgrow; have hfm : ∃ a8 n8 c8, v' = Value.slice a8 n8 c8 := hrow.form.elim (fun a8 h => h.elim (fun c8 h2 => ⟨a8, _, c8, h2.1⟩)); obtain ⟨a8, n8, c8, ev⟩ := hfm; subst ev; have HP : Aside (Rv w (w8.setCell ⟨q3, 0, none⟩ (Value.slice a8 n8 c8)) q2 q3 l R (i + m) true (ys ++ [(x1, x2)]) (Value.slice a8 n8 c8)) := HK.out.1.push HF2.out HY.out.1 HY.out.2.1 hrow hgrow; have hgs : Stp (Value.slice av nv cv).ownBlock.toList (wk.alloc (.cells #[.int .i64 x1, .int .i64 x2] 41)) (Value.slice av nv cv).ownBlock.toList w8 := grown_stp hgrow (fun k e => by simp [e]) (fun k hk => hk); have ht8 : AtT w8 q3 (Value.slice av nv cv) (.slice none 0 0) true := HY.out.2.1.other hgs (fun e => absurd (HK.out.1.row.lt q3 (by simpa using e)).1 (by omega)); obtain ⟨u0, _, _, z0, _, _⟩ := ht8.cells; clear hrow hgrow hgs ht8)
            go_roundg (n - (i + m))
            case measure => have := HF.out.2; have := HX.out.2.2.2.2; omega
            case rel => exact ⟨i + m, true, ys ++ [(x1, x2)], Value.slice a8 n8 c8, by go_num, by have := HF.out.2; have := HX.out.2.2.2.2; omega, by omega, HP.out⟩
    · have hltz : ¬ (i : Int) < (n : Int) := by omega
      obtain rfl : i = n := by omega
      have HE : Aside (R = ⟨ys, [], p⟩) := by
        have e := HS.out.eq
        rw [List.drop_eq_nil_of_le (by rw [HB.out.2.1]; exact Nat.le_refl _), rd_nil, List.append_nil] at e
        exact e
      obtain ⟨c0, c1, c2, _, _, _⟩ := HS.out.t.cells
      obtain ⟨d0, d1, d2, f0, f1, f2⟩ := HS.out.res.cells
      have hq23 : q2 < wr.heap.size := HS.out.res.lt
      have hqn : ¬ q2 = q3 := by have := HS.out.q; omega
      have hqn2 : ¬ q3 = q2 := by have := HS.out.q; omega
      go_wp2
      have HF := Rv.fin (p := p) HS.out.q HS.out.res HS.out.row (Own.nil _ _) HS.out.stp
      refine bodyPost_ret (res_told rfl _ _ q2 (Value.slice av nv cv) (.slice none 0 0) p rfl HF.1) rfl ?_
      rw [HE.out]
      exact ⟨(Value.slice av nv cv), _, rfl, HF.2.1, HF.2.2.1, HF.2.2.2⟩
end Go.Proofs.YthffjcacdcipeaaDoor
