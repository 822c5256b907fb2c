/-
  The walk of KeydecTexts: of bytes without ESC and without control characters the Runes are the characters of the text.
-/
import Derived.Test.YthffjcacdcipeaaDoorWKeydecPieces
import Derived.Test.YthffjcacdcipeaaDoorTxtK
import Derived.Test.YthffjcacdcipeaaDoorKRef
import Derived.Lib.SmallJoins
namespace Go.Proofs.YthffjcacdcipeaaDoor
open Go.RowKit Go.Lib
set_option linter.unusedVariables false

theorem own_form {w : World} {base : Nat} {v : Value} {l : List UInt8} (h : Own w base v l) : ∃ a cap, v = .slice a l.length cap ∧ Bts w a l ∧ l.length ≤ cap ∧ cap ≤ maxLen ∧ ∀ ad, a = some ad → base ≤ ad.block ∧ ad.block < w.heap.size := by
  have hb := h.bts
  rcases h.2 with ⟨rfl, h0⟩ | ⟨g, cap, cur, rfl, hg, hh, hnc, hm, hcur, htake⟩
  · have : l = [] := List.length_eq_zero_iff.1 h0
    subst this
    exact ⟨none, 0, rfl, Bts.nil _ _, Nat.le_refl _, by unfold maxLen; omega, fun ad h => by cases h⟩
  · obtain ⟨a, c, e, h1, _, h2, h3⟩ := hb
    cases e
    exact ⟨_, _, rfl, h1, h2, hm, h3⟩
theorem ownI_form {w : World} {base : Nat} {v : Value} {l : List Nat} (h : U.OwnI w base v l) : ∃ a cap, v = .slice a l.length cap ∧ ∀ i (hi : i < l.length), ∃ g, a = some ⟨g, 0, none⟩ ∧ w.cell? ⟨g, i, none⟩ = some (.int .i64 ((l[i] : Nat) : Int)) := by
  by_cases hl : l = []
  · subst hl
    rcases h.2 with ⟨rfl, h0⟩ | ⟨g, cap, cur, rfl, hg, hh, hnc, hm, hcur, htake⟩
    · exact ⟨none, 0, rfl, fun i hi => by simp at hi⟩
    · exact ⟨_, cap, rfl, fun i hi => by simp at hi⟩
  · obtain ⟨g, cap, e, _, _, hc⟩ := h.cells hl
    refine ⟨_, cap, e, fun i hi => ⟨g, rfl, ?_⟩⟩
    rw [hc i hi, List.getD_eq_getElem?_getD, List.getElem?_eq_getElem hi]
    rfl
theorem filter_snoc (l : List UInt8) (k : Nat) (hk : k < l.length) : (l.take (k + 1)).filter isT = (l.take k).filter isT ++ (if isT (l[k]!) = true then [l[k]!] else []) := by
  rw [List.take_succ_eq_append_getElem hk, List.filter_append, getElem!_pos l k hk]
  congr 1
  cases h : isT l[k] <;> simp [h]
theorem Kd.grewA {w W W' : World} {d b g B : Nat} {l : List UInt8} {p : Bool} {row : Option Nat} (h : Kd w W d b g l p) (hg : W.grownBy W' row) (hB : w.heap.size ≤ B ∧ d < B ∧ b < B ∧ g < B) (hr : ∀ k, row = some k → B ≤ k) : Kd w W' d b g l p :=
  kd_grew h hg (fun k hk => by have := hr k hk; omega)
set_option maxHeartbeats 2000000 in
set_option maxRecDepth 100000 in
theorem texts_walk (a0 : Option Addr) (cap0 n : Nat) (l : List UInt8) (pb : Bool) (w : World) (hb : Bts w a0 l) (hn : n = l.length) (hT : U.Tabs w) :
    Calls Tryd.prog 7 #[.slice a0 n cap0, .bool pb] w (Tells (.bool true) w) := by
  have HT : Aside (U.Tabs w ∧ Bts w a0 l ∧ n = l.length) := ⟨hT, hb, hn⟩
  have KB := Lib.hid (begin_run w (utabs_size hT))
  clear hT hb hn
  have HD : (decide (1500 < (n : Int)) = true ∨ decide (1500 < (n : Int)) = false) := by cases decide (1500 < (n : Int)) <;> simp
  have kc := fun (w : World) (C : Array Value) (n c g : Nat) (hg : g = w.heap.size) => Joins.run_convert_bytes_const_at (P := Tryd.prog) w 29 5 C n c g hg Tryd.underlying29 Tryd.underlying5
  go_enter Tryd.func7, Tryd.ntmps7
  go_wp2_with fail
  refine KB.out.mono ?_
  intro e w1 hb
  obtain ⟨d, b, g, rfl, hk⟩ := hb.kd
  clear KB hb
  have H1 : Aside (Kd w w1 d b g [] false) := hk
  clear hk
  go_wp2_with fail
  refine (alive_run w1 (H1.out.tabs HT.out.1)).mono ?_
  rintro _ w2 ⟨rfl, s2⟩
  have H2 : Aside (Kd w w2 d b g [] false) := H1.out.stays s2
  clear H1 s2
  rcases HD with hd | hd
  · go_wp2_with fail
    refine (alive_run w2 (H2.out.tabs HT.out.1)).mono ?_
    rintro _ w3 ⟨rfl, s3⟩
    have H3 : Aside (Stp [] w [] w3) := H2.out.stp.trans s3
    clear H2 s3
    go_wp2
    go_ret
    exact ⟨rfl, H3.out⟩
  have hn15 : (n : Int) ≤ 1500 := by have := of_decide_eq_false hd; omega
  obtain ⟨B, hB⟩ : ∃ B, B = w2.heap.size := ⟨_, rfl⟩
  have HLO : Aside (w.heap.size ≤ B ∧ d < B ∧ b < B ∧ g < B) := by
    have := H2.out.dc.lt
    have := H2.out.stp.size
    subst hB
    exact ⟨by omega, by omega, by omega, by omega⟩
  have HB2 := Lib.hid hB
  clear hB
  go_wp2_with fail
  go_loopg [7, 35] n (fun gk v7 vi wr => ∃ k : Nat, vi = .int .i64 (k : Int) ∧ k ≤ n ∧ n - k ≤ gk ∧ Aside (Own wr B v7 ((l.take k).filter isT) ∧ Kd w wr d b g [] false ∧ B ≤ wr.heap.size))
  case atStart => exact ⟨0, rfl, by omega, by omega, Own.nil _ _, H2.out, by rw [HB2.out]; exact Nat.le_refl _⟩
  case round =>
    obtain ⟨k, rfl, hk, hg, HS⟩ := hrel
    by_cases hlt : k < n
    · have hltz : (k : Int) < (n : Int) := by omega
      have hks : k < l.length := by rw [← HT.out.2.2]; exact hlt
      obtain ⟨bb, off, rfl, hc0⟩ := (HT.out.2.1.stays HS.out.2.1.stp).at hks
      have HN := Lib.hid (filter_snoc l k hks)
      have HL : Aside (((l.take k).filter isT).length ≤ 1500) := by
        have h1 := List.length_filter_le isT (l.take k)
        rw [List.length_take] at h1
        show ((l.take k).filter isT).length ≤ 1500
        omega
      generalize l[k]! = c at *
      unfold bval at hc0
      have hO := HS.out.1
      cases hT : isT c with
      | true =>
        have hz := hT
        unfold isT at hz
        simp only [Bool.and_eq_true, decide_eq_true_eq] at hz
        have z1 : (32 : Int) ≤ ((c.toNat : Nat) : Int) := by omega
        have z2 : (((c.toNat : Nat) : Int) != 127) = true := by rw [bne_iff_ne]; omega
        have HO : Aside (Own (wr.alloc (.cells #[bval c] 5)) B u7 ((l.take k).filter isT) ∧ Bts (wr.alloc (.cells #[bval c] 5)) (some ⟨wr.heap.size, 0, none⟩) [c] ∧ Kd w (wr.alloc (.cells #[bval c] 5)) d b g [] false) := ⟨hO.other (Stp.alloc [] wr _) (fun _ _ => by simp), one_new wr c, HS.out.2.1.stays (Stp.alloc [] wr _)⟩
        rw [hT, if_pos rfl] at HN
        have HCB : Hid (bval c = .int .u8 ((c.toNat : Nat) : Int)) := Lib.hid rfl
        rw [HCB.out] at HO
        clear hz hT hO
        generalize ((c.toNat : Nat) : Int) = z at *
        go_wp2_with (at_builtin; refine wpList_app rfl (.tmp 45) (.tmp 47) rfl B u7 ((l.take k).filter isT) rfl HO.out.1 (some ⟨wr.heap.size, 0, none⟩) 1 1 [c] rfl rfl HO.out.2.1 (fun h => by cases h) (by have := HL.out; simp only [List.length_cons, List.length_nil]; omega) (by have := HS.out.2.2; simp; omega) ?_; intro v' w3 hrow hgrow)
        have H3 : Aside (Own w3 B v' ((l.take (k + 1)).filter isT) ∧ Kd w w3 d b g [] false ∧ B ≤ w3.heap.size) := ⟨by rw [HN.out]; exact hrow, HO.out.2.2.grewA hgrow HLO.out (fun k hk => (HO.out.1.lt k hk).1), by have h1 := hgrow.size; have h2 := HS.out.2.2; simp at h1; omega⟩
        clear hrow hgrow HO
        go_roundg (n - (k + 1))
        case measure => omega
        case rel => exact ⟨k + 1, by go_num, by omega, by omega, H3.out⟩
      | false =>
        have hz : ¬ (32 : Int) ≤ ((c.toNat : Nat) : Int) ∨ ((32 : Int) ≤ ((c.toNat : Nat) : Int) ∧ (((c.toNat : Nat) : Int) != 127) = false) := by
          unfold isT at hT
          by_cases h1 : 32 ≤ c.toNat
          · have h2 : c.toNat = 127 := by
              simp only [Bool.and_eq_false_iff, decide_eq_false_iff_not] at hT
              omega
            exact .inr ⟨by omega, by simp [h2]⟩
          · exact .inl (by omega)
        rw [hT, if_neg (by simp), List.append_nil] at HN
        have H3 : Aside (Own wr B u7 ((l.take (k + 1)).filter isT) ∧ Kd w wr d b g [] false ∧ B ≤ wr.heap.size) := ⟨by rw [HN.out]; exact hO, HS.out.2.1, HS.out.2.2⟩
        clear hT hO HN
        generalize ((c.toNat : Nat) : Int) = z at *
        rcases hz with hz | ⟨hz, hz2⟩
        all_goals
          go_wp2
          go_roundg (n - (k + 1))
          case measure => omega
          case rel => exact ⟨k + 1, by go_num, by omega, by omega, H3.out⟩
    · have hltz : ¬ (k : Int) < (n : Int) := by omega
      obtain rfl : k = n := by omega
      have HW : Aside (Own wr B u7 (l.filter isT) ∧ Kd w wr d b g [] false ∧ B ≤ wr.heap.size) := by
        have h1 := HS.out
        rw [List.take_of_length_le (by rw [HT.out.2.2]; exact Nat.le_refl _)] at h1
        exact h1
      have HTX : Aside (∀ c ∈ l.filter isT, isT c = true) := fun c hc => (List.mem_filter.1 hc).2
      have HTL : Aside ((l.filter isT).length ≤ 1500) := by
        have h1 := List.length_filter_le isT l
        have h2 := HT.out.2.2
        show (l.filter isT).length ≤ 1500
        omega
      clear HS
      generalize l.filter isT = T at *
      obtain ⟨aT, cT, ev, hbT, hcT, hmT, hfT⟩ := own_form HW.out.1
      subst ev
      have HTb : Aside (Bts wr aT T ∧ T.length ≤ cT ∧ cT ≤ maxLen ∧ ∀ ad, aT = some ad → B ≤ ad.block ∧ ad.block < wr.heap.size) := ⟨hbT, hcT, hmT, hfT⟩
      clear hbT hcT hmT hfT H2
      cases pb with
      | true =>
        have hkd := HW.out.2.1
        have hS : Stp [] wr [] (wr.alloc (.cells #[.int .u8 27, .int .u8 91, .int .u8 50, .int .u8 48, .int .u8 48, .int .u8 126] 5 (6, 7))) := Stp.alloc [] wr _
        have KF : Hid (Calls Tryd.prog 13 #[.pointer (some ⟨d, 0, none⟩), .slice (some ⟨wr.heap.size, 0, none⟩) 6 6] (wr.alloc (.cells #[.int .u8 27, .int .u8 91, .int .u8 50, .int .u8 48, .int .u8 48, .int .u8 126] 5 (6, 7))) (Fed (wr.alloc (.cells #[.int .u8 27, .int .u8 91, .int .u8 50, .int .u8 48, .int .u8 48, .int .u8 126] 5 (6, 7))) d b g 40 ⟨[(13, 0)], [], true⟩)) := Lib.hid (by
          have h1 := feed_kd (hkd.stays hS) HT.out.1 (some ⟨wr.heap.size, 0, none⟩) 6 6 [27, 91, 50, 48, 48, 126] (fun _ => ⟨wr.heap.size, 0, rfl, fun i hi => by
            rw [World.cell?_alloc_mark, Nat.zero_add]
            have : i = 0 ∨ i = 1 ∨ i = 2 ∨ i = 3 ∨ i = 4 ∨ i = 5 := by simp at hi; omega
            rcases this with rfl | rfl | rfl | rfl | rfl | rfl <;> rfl⟩) (fun _ ad e => by cases e; have := hkd.dc.lt; show wr.heap.size ≠ d ∧ wr.heap.size ≠ b ∧ wr.heap.size ≠ g; omega) rfl (by omega)
          rw [ex_paste] at h1
          exact h1)
        clear hkd
        go_wp2_with fail
        refine KF.out.mono ?_
        rintro _ wS ⟨vS, rfl, hS5⟩
        have H5 : Aside (Kd w wS d b g [] true ∧ Bts wS aT T ∧ wr.heap.size ≤ wS.heap.size) := ⟨(HW.out.2.1.stays hS).turn hS5.stp hS5.dc rfl, (HTb.out.1.stays hS).other hS5.stp (fun _ ad e => by
          have h2 := (HTb.out.2.2.2 ad e).1
          have h3 := HLO.out
          simp
          omega), Nat.le_trans hS.size hS5.stp.size⟩
        clear KF hS hS5 HW
        have KF2 : Hid (Calls Tryd.prog 13 #[.pointer (some ⟨d, 0, none⟩), .slice aT T.length cT] wS (Fed wS d b g 40 (rd true T))) := Lib.hid (by
          have h1 := feed_kd H5.out.1 HT.out.1 aT T.length cT T H5.out.2.1 (fun _ ad e => by
            have h2 := (HTb.out.2.2.2 ad e).1
            have h3 := HLO.out
            omega) rfl (by have := HTL.out; omega)
          rw [List.nil_append] at h1
          exact h1)
        have HQ : Aside ((rd true T).ks ++ lastk (rd true T).h = (chs T).map tk ∧ (rd true T).ks.length ≤ 1500) := ⟨rd_text true T HTX.out, by have h1 := rd_len true T; have h2 := HTL.out; omega⟩
        have HE := Lib.hid (rd_end true T)
        generalize rd true T = q at *
        go_wp2_with fail
        refine KF2.out.mono ?_
        rintro _ w5 ⟨v5, rfl, h5⟩
        have hls := H5.out.1.dc.lt
        have H6 : Aside (Kd w w5 d b g q.h q.p ∧ KOwn w5 wS.heap.size v5 q.ks ∧ Bts w5 aT T ∧ wS.heap.size ≤ w5.heap.size) := ⟨H5.out.1.turn h5.stp h5.dc HE.out, h5.row, H5.out.2.1.other h5.stp (fun _ ad e => by
          have h2 := (HTb.out.2.2.2 ad e).1
          have h3 := HLO.out
          simp
          omega), h5.stp.size⟩
        clear KF2 h5
        have KL := Lib.hid (finish_run H6.out.1.dc)
        go_wp2_with fail
        refine KL.out.mono ?_
        rintro _ w6 ⟨v6, rfl, h6⟩
        obtain ⟨a6, c6, ev, hk6, hz6, _, _⟩ := h6.row.form
        subst ev
        have H7 : Aside (Kd w w6 d b g [] q.p ∧ KOwn w6 wS.heap.size v5 q.ks ∧ Bts w6 aT T ∧ Kts w6 a6 (lastk q.h) ∧ (a6 = none → c6 = 0) ∧ wS.heap.size ≤ w6.heap.size) := ⟨H6.out.1.fin h6, H6.out.2.1.other h6.stp (fun k hk => by have := (H6.out.2.1.lt k hk).1; simp; omega), H6.out.2.2.1.other h6.stp (fun _ ad e => by
          have h2 := (HTb.out.2.2.2 ad e).1
          have h3 := HLO.out
          simp
          omega), hk6, hz6, by have h1 := h6.stp.size; have h2 := H6.out.2.2.2; omega⟩
        clear KL h6 hk6 hz6
        go_wp2_with (at_builtin; refine wpList_appK rfl (.tmp 66) (.tmp 67) rfl wS.heap.size v5 q.ks rfl H7.out.2.1 a6 c6 (lastk q.h).length (lastk q.h) rfl rfl H7.out.2.2.2.1 H7.out.2.2.2.2.1 (by have h1 := HQ.out.2; have h2 := lastk_len q.h; omega) H7.out.2.2.2.2.2 ?_; intro v7 w7 hrow hgrow; have hrow2 : KOwn w7 wS.heap.size v7 ((chs T).map tk) := (by rw [← HQ.out.1]; exact hrow); have hfm := hrow2.form; obtain ⟨a7, c7, ev, hk7, _, _, _⟩ := hfm; subst ev)
        have H8 : Aside (Stp [] w [] w7 ∧ Bts w7 aT T ∧ Kts w7 a7 ((chs T).map tk) ∧ (chs T).length ≤ 1500) := by
          have hg : Stp v5.ownBlock.toList w6 v5.ownBlock.toList w7 := grown_stp hgrow (fun k e => by simp [e]) (fun k hk => hk)
          have hgm : ∀ k, k ∈ v5.ownBlock.toList → wS.heap.size ≤ k := fun k hk => (H7.out.2.1.lt k (by simpa using hk)).1
          have hsz := H5.out.1.stp.size
          refine ⟨H7.out.1.stp.into hg (fun k hk => .inr (by have := hgm k hk; omega)) (by simp), H7.out.2.2.1.other hg (fun _ ad e hm => by
            have h2 := (HTb.out.2.2.2 ad e).2
            have h3 := hgm _ hm
            have h4 := H5.out.2.2
            omega), hk7, ?_⟩
          have h1 := U.chars_len (T.map UInt8.toNat) (nat_lt T)
          have h2 := HTL.out
          rw [List.length_map] at h1
          show (U.chars (T.map UInt8.toNat)).length ≤ 1500
          omega
        clear hrow hgrow hrow2 hk7 H7 H6
        have KC : Hid (Calls Tryd.prog 28 #[.slice aT T.length cT] w7 fun e W' => ∃ v, e = .returned v ∧ U.OwnI W' w7.heap.size v (chs T) ∧ Below w7.heap.size w7 W') := Lib.hid (by
          have h1 := U.rchars_any aT cT (T.map UInt8.toNat) w7 (K.bts_to_U H8.out.2.1) (by rw [List.length_map]; exact HTb.out.2.1) HTb.out.2.2.1 (by rw [List.length_map]; have := HTL.out; omega)
          rw [List.length_map] at h1
          exact h1)
        refine KC.out.mono ?_
        rintro _ w8 ⟨v8, rfl, ho8, hb8⟩
        obtain ⟨a8, c8, ev, hc8⟩ := ownI_form ho8
        subst ev
        have H9 : Aside (Stp [] w [] w8 ∧ Kts w8 a7 ((chs T).map tk) ∧ (∀ i (hi : i < (chs T).length), ∃ g, a8 = some ⟨g, 0, none⟩ ∧ w8.cell? ⟨g, i, none⟩ = some (.int .i64 (((chs T)[i] : Nat) : Int)))) := ⟨H8.out.1.trans (Stp.of_below hb8), H8.out.2.2.1.stays (Stp.of_below hb8), hc8⟩
        have hX15 := H8.out.2.2.2
        clear KC ho8 hb8 hc8 H8 HQ
        generalize chs T = X at *
        have hX15z : (X.length : Int) ≤ 1500 := by omega
        go_wp2_with fail
        go_loopg [78] X.length (fun gk vi wr2 => ∃ i : Nat, vi = .int .i64 (i : Int) ∧ i ≤ X.length ∧ X.length - i ≤ gk ∧ Aside (wr2 = w8))
        case atStart => exact ⟨0, rfl, by omega, by omega, rfl⟩
        case round =>
          obtain ⟨i, rfl, hi, hg2, HZ⟩ := hrel
          obtain rfl : wr = w8 := HZ.out
          by_cases hlt2 : i < X.length
          · have hltz2 : (i : Int) < (X.length : Int) := by omega
            obtain ⟨g8, rfl, hx8⟩ := H9.out.2.2 i hlt2
            obtain ⟨g7, o7, rfl, d0, d1⟩ := H9.out.2.1.at (i := i) (by rw [List.length_map]; exact hlt2)
            rw [List.getElem_map] at d0 d1
            generalize X[i] = c at *
            have KP := Lib.hid (fun W => K.rpr_run (c : Int) W)
            unfold tk at d0 d1
            cases hs : K.shown (c : Int) with
            | true =>
              rw [hs] at KP d0 d1
              simp only [if_true] at d0 d1
              clear hs
              go_wp2_with (go_at_call 29; refine (KP.out _).mono ?_; rintro _ wr ⟨rfl, rfl⟩)
              go_roundg (X.length - (i + 1))
              case measure => omega
              case rel => exact ⟨i + 1, by go_num, by omega, by omega, rfl⟩
            | false =>
              rw [hs] at KP d0 d1
              simp only [if_false, Bool.false_eq_true] at d0 d1
              clear hs
              go_wp2_with (go_at_call 29; refine (KP.out _).mono ?_; rintro _ wr ⟨rfl, rfl⟩)
              go_roundg (X.length - (i + 1))
              case measure => omega
              case rel => exact ⟨i + 1, by go_num, by omega, by omega, rfl⟩
          · have hltz2 : ¬ (i : Int) < (X.length : Int) := by omega
            go_wp2
            go_ret
            exact ⟨rfl, H9.out.1⟩
      | false =>
        have H5 : Aside (Kd w wr d b g [] false ∧ Bts wr aT T ∧ wr.heap.size ≤ wr.heap.size) := ⟨HW.out.2.1, HTb.out.1, Nat.le_refl _⟩
        clear HW
        have KF2 : Hid (Calls Tryd.prog 13 #[.pointer (some ⟨d, 0, none⟩), .slice aT T.length cT] wr (Fed wr d b g 40 (rd false T))) := Lib.hid (by
          have h1 := feed_kd H5.out.1 HT.out.1 aT T.length cT T H5.out.2.1 (fun _ ad e => by
            have h2 := (HTb.out.2.2.2 ad e).1
            have h3 := HLO.out
            omega) rfl (by have := HTL.out; omega)
          rw [List.nil_append] at h1
          exact h1)
        have HQ : Aside ((rd false T).ks ++ lastk (rd false T).h = (chs T).map tk ∧ (rd false T).ks.length ≤ 1500) := ⟨rd_text false T HTX.out, by have h1 := rd_len false T; have h2 := HTL.out; omega⟩
        have HE := Lib.hid (rd_end false T)
        generalize rd false T = q at *
        go_wp2_with fail
        refine KF2.out.mono ?_
        rintro _ w5 ⟨v5, rfl, h5⟩
        have hls := H5.out.1.dc.lt
        have H6 : Aside (Kd w w5 d b g q.h q.p ∧ KOwn w5 wr.heap.size v5 q.ks ∧ Bts w5 aT T ∧ wr.heap.size ≤ w5.heap.size) := ⟨H5.out.1.turn h5.stp h5.dc HE.out, h5.row, H5.out.2.1.other h5.stp (fun _ ad e => by
          have h2 := (HTb.out.2.2.2 ad e).1
          have h3 := HLO.out
          simp
          omega), h5.stp.size⟩
        clear KF2 h5
        have KL := Lib.hid (finish_run H6.out.1.dc)
        go_wp2_with fail
        refine KL.out.mono ?_
        rintro _ w6 ⟨v6, rfl, h6⟩
        obtain ⟨a6, c6, ev, hk6, hz6, _, _⟩ := h6.row.form
        subst ev
        have H7 : Aside (Kd w w6 d b g [] q.p ∧ KOwn w6 wr.heap.size v5 q.ks ∧ Bts w6 aT T ∧ Kts w6 a6 (lastk q.h) ∧ (a6 = none → c6 = 0) ∧ wr.heap.size ≤ w6.heap.size) := ⟨H6.out.1.fin h6, H6.out.2.1.other h6.stp (fun k hk => by have := (H6.out.2.1.lt k hk).1; simp; omega), H6.out.2.2.1.other h6.stp (fun _ ad e => by
          have h2 := (HTb.out.2.2.2 ad e).1
          have h3 := HLO.out
          simp
          omega), hk6, hz6, by have h1 := h6.stp.size; have h2 := H6.out.2.2.2; omega⟩
        clear KL h6 hk6 hz6
        go_wp2_with (at_builtin; refine wpList_appK rfl (.tmp 66) (.tmp 67) rfl wr.heap.size v5 q.ks rfl H7.out.2.1 a6 c6 (lastk q.h).length (lastk q.h) rfl rfl H7.out.2.2.2.1 H7.out.2.2.2.2.1 (by have h1 := HQ.out.2; have h2 := lastk_len q.h; omega) H7.out.2.2.2.2.2 ?_; intro v7 w7 hrow hgrow; have hrow2 : KOwn w7 wr.heap.size v7 ((chs T).map tk) := (by rw [← HQ.out.1]; exact hrow); have hfm := hrow2.form; obtain ⟨a7, c7, ev, hk7, _, _, _⟩ := hfm; subst ev)
        have H8 : Aside (Stp [] w [] w7 ∧ Bts w7 aT T ∧ Kts w7 a7 ((chs T).map tk) ∧ (chs T).length ≤ 1500) := by
          have hg : Stp v5.ownBlock.toList w6 v5.ownBlock.toList w7 := grown_stp hgrow (fun k e => by simp [e]) (fun k hk => hk)
          have hgm : ∀ k, k ∈ v5.ownBlock.toList → wr.heap.size ≤ k := fun k hk => (H7.out.2.1.lt k (by simpa using hk)).1
          have hsz := H5.out.1.stp.size
          refine ⟨H7.out.1.stp.into hg (fun k hk => .inr (by have := hgm k hk; omega)) (by simp), H7.out.2.2.1.other hg (fun _ ad e hm => by
            have h2 := (HTb.out.2.2.2 ad e).2
            have h3 := hgm _ hm
            have h4 := H5.out.2.2
            omega), hk7, ?_⟩
          have h1 := U.chars_len (T.map UInt8.toNat) (nat_lt T)
          have h2 := HTL.out
          rw [List.length_map] at h1
          show (U.chars (T.map UInt8.toNat)).length ≤ 1500
          omega
        clear hrow hgrow hrow2 hk7 H7 H6
        have KC : Hid (Calls Tryd.prog 28 #[.slice aT T.length cT] w7 fun e W' => ∃ v, e = .returned v ∧ U.OwnI W' w7.heap.size v (chs T) ∧ Below w7.heap.size w7 W') := Lib.hid (by
          have h1 := U.rchars_any aT cT (T.map UInt8.toNat) w7 (K.bts_to_U H8.out.2.1) (by rw [List.length_map]; exact HTb.out.2.1) HTb.out.2.2.1 (by rw [List.length_map]; have := HTL.out; omega)
          rw [List.length_map] at h1
          exact h1)
        refine KC.out.mono ?_
        rintro _ w8 ⟨v8, rfl, ho8, hb8⟩
        obtain ⟨a8, c8, ev, hc8⟩ := ownI_form ho8
        subst ev
        have H9 : Aside (Stp [] w [] w8 ∧ Kts w8 a7 ((chs T).map tk) ∧ (∀ i (hi : i < (chs T).length), ∃ g, a8 = some ⟨g, 0, none⟩ ∧ w8.cell? ⟨g, i, none⟩ = some (.int .i64 (((chs T)[i] : Nat) : Int)))) := ⟨H8.out.1.trans (Stp.of_below hb8), H8.out.2.2.1.stays (Stp.of_below hb8), hc8⟩
        have hX15 := H8.out.2.2.2
        clear KC ho8 hb8 hc8 H8 HQ
        generalize chs T = X at *
        have hX15z : (X.length : Int) ≤ 1500 := by omega
        go_wp2_with fail
        go_loopg [78] X.length (fun gk vi wr2 => ∃ i : Nat, vi = .int .i64 (i : Int) ∧ i ≤ X.length ∧ X.length - i ≤ gk ∧ Aside (wr2 = w8))
        case atStart => exact ⟨0, rfl, by omega, by omega, rfl⟩
        case round =>
          obtain ⟨i, rfl, hi, hg2, HZ⟩ := hrel
          obtain rfl : wr = w8 := HZ.out
          by_cases hlt2 : i < X.length
          · have hltz2 : (i : Int) < (X.length : Int) := by omega
            obtain ⟨g8, rfl, hx8⟩ := H9.out.2.2 i hlt2
            obtain ⟨g7, o7, rfl, d0, d1⟩ := H9.out.2.1.at (i := i) (by rw [List.length_map]; exact hlt2)
            rw [List.getElem_map] at d0 d1
            generalize X[i] = c at *
            have KP := Lib.hid (fun W => K.rpr_run (c : Int) W)
            unfold tk at d0 d1
            cases hs : K.shown (c : Int) with
            | true =>
              rw [hs] at KP d0 d1
              simp only [if_true] at d0 d1
              clear hs
              go_wp2_with (go_at_call 29; refine (KP.out _).mono ?_; rintro _ wr ⟨rfl, rfl⟩)
              go_roundg (X.length - (i + 1))
              case measure => omega
              case rel => exact ⟨i + 1, by go_num, by omega, by omega, rfl⟩
            | false =>
              rw [hs] at KP d0 d1
              simp only [if_false, Bool.false_eq_true] at d0 d1
              clear hs
              go_wp2_with (go_at_call 29; refine (KP.out _).mono ?_; rintro _ wr ⟨rfl, rfl⟩)
              go_roundg (X.length - (i + 1))
              case measure => omega
              case rel => exact ⟨i + 1, by go_num, by omega, by omega, rfl⟩
          · have hltz2 : ¬ (i : Int) < (X.length : Int) := by omega
            go_wp2
            go_ret
            exact ⟨rfl, H9.out.1⟩
end Go.Proofs.YthffjcacdcipeaaDoor
