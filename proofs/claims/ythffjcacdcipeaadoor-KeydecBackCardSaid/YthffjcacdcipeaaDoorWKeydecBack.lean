/-
  The walk of KeydecBack: keys that are told by their bytes are those keys, one behind the other; in a paste characters are Runes, and all else is Ignored.
-/
import Derived.Test.YthffjcacdcipeaaDoorAliveK
import Derived.Test.YthffjcacdcipeaaDoorKbRd
import Derived.Test.YthffjcacdcipeaaDoorKBytK
namespace Go.Proofs.YthffjcacdcipeaaDoor
open Go.RowKit Go.Lib
set_option linter.unusedVariables false

theorem chk_le (k c : Int) : K.chk k c ≤ 9 := by
  unfold K.chk
  split
  · omega
  · split <;> omega
/-- Feed at a key's bytes that lie anywhere in what is new since w, or was there. -/
theorem feed_key {w W : World} {d b g : Nat} {p : Bool} (h : Kd w W d b g [] p) (hT : U.Tabs w) (a : Option Addr) (cap : Nat) {k c : Nat} (hk : K.chk (k : Int) (c : Int) = 0) (hb : Bts W a (K.kb k c)) (hd : K.kb k c ≠ [] → ∀ ad, a = some ad → ad.block ≠ d ∧ ad.block ≠ b ∧ ad.block ≠ g) (n : Nat) (hn : n = (K.kb k c).length) (hm : n ≤ 1000) :
    Calls Tryd.prog 13 #[.pointer (some ⟨d, 0, none⟩), .slice a n cap] W (Fed W d b g 40 ⟨[wnt p k (c : Int)], [], wpa p k⟩) := by
  have := feed_kd h hT a n cap (K.kb k c) hb hd hn (by omega)
  rw [List.nil_append, kb_rd hk] at this
  exact this
set_option maxHeartbeats 1000000 in
set_option maxRecDepth 100000 in
theorem back_walk (a0 : Option Addr) (cap0 n : Nat) (l : List Ky) (w : World) (hb : Kts w a0 l) (hn : n = l.length) (hnn : l.length ≤ 9223372036854775807) (hw : ∀ x ∈ l, (Lit.int .i64 x.1).wf = true ∧ (Lit.int .i64 x.2).wf = true) (hT : U.Tabs w ∧ K.Kinds w) :
    Calls Tryd.prog 6 #[.slice a0 n cap0] w (Tells (.bool true) w) := by
  have HT : Aside (U.Tabs w ∧ Kts w a0 l ∧ n = l.length ∧ K.Kinds w) := ⟨hT.1, hb, hn, hT.2⟩
  have KB := Lib.hid (begin_run w (utabs_size hT.1))
  clear hT hb hn hw hnn
  have HD : (decide (200 < (n : Int)) = true ∨ decide (200 < (n : Int)) = false) := by cases decide (200 < (n : Int)) <;> simp
  go_enter Tryd.func6, Tryd.ntmps6
  go_wp2_with fail
  refine KB.out.mono ?_
  intro e w1 hb
  obtain ⟨d, b, g, rfl, hk⟩ := hb.kd
  clear KB hb
  have H1 : Aside (Kd w w1 d b g [] false) := hk
  clear hk
  go_wp2_with fail
  refine (alive_run w1 (H1.out.tabs HT.out.1)).mono ?_
  rintro _ w2 ⟨rfl, s2⟩
  have H2 : Aside (Kd w w2 d b g [] false) := H1.out.stays s2
  clear H1 s2
  rcases HD with hd | hd
  · go_wp2_with fail
    refine (alive_run w2 (H2.out.tabs HT.out.1)).mono ?_
    rintro _ w3 ⟨rfl, s3⟩
    have H3 : Aside (Stp [] w [] w3) := H2.out.stp.trans s3
    clear H2 s3
    go_wp2
    go_ret
    exact ⟨rfl, H3.out⟩
  have hn200 : (n : Int) ≤ 200 := by have := of_decide_eq_false hd; omega
  go_wp2_with fail
  go_loopg [5, 31] n (fun gk v5 vi wr => ∃ (i : Nat) (p : Bool), vi = .int .i64 (i : Int) ∧ v5 = .bool p ∧ i ≤ n ∧ n - i ≤ gk ∧ Aside (Kd w wr d b g [] p))
  case atStart => exact ⟨0, false, rfl, rfl, by omega, by omega, H2.out⟩
  case round =>
    obtain ⟨i, p, rfl, rfl, hi, hg, HS⟩ := hrel
    by_cases hlt : i < n
    · have hltz : (i : Int) < (n : Int) := by omega
      have hil : i < l.length := by rw [← HT.out.2.2.1]; exact hlt
      obtain ⟨gg, off, rfl, c0, c1⟩ := (HT.out.2.1.stays HS.out.stp).at hil
      generalize l[i] = x at *
      clear hil
      obtain ⟨k, c⟩ := x
      simp only at c0 c1
      have KY := Lib.hid (fun W (h : K.Kinds W) => K.bytes_run k c W h)
      have hle := chk_le k c
      unfold kv at KY
      by_cases hck : K.chk k c = 0
      · obtain ⟨k, c, rfl, rfl, hk16, h0, h1⟩ := K.chk_zero hck
        have ekb : K.kbs (k : Int) (c : Int) = K.kb k c := by unfold K.kbs; rw [if_pos hck]; simp
        rw [hck, ekb] at KY
        have HC := Lib.hid (And.intro hck (And.intro hk16 (And.intro h0 h1)))
        clear hck ekb h0 h1 hle
        have H0 : Aside (Kd w (wr.alloc (.cells #[.int .i64 (k : Int), .int .i64 (c : Int)] 41)) d b g [] p ∧ At2 (wr.alloc (.cells #[.int .i64 (k : Int), .int .i64 (c : Int)] 41)) wr.heap.size (k : Int) (c : Int) ∧ d < wr.heap.size ∧ b < wr.heap.size ∧ g < wr.heap.size) := ⟨HS.out.stays (Stp.alloc [] wr _), At2.new wr _ _, HS.out.dc.lt⟩
        go_wp2_with fail
        generalize wr.alloc (.cells #[.int .i64 (k : Int), .int .i64 (c : Int)] 41) = w0 at *
        refine (KY.out _ (HT.out.2.2.2.stays H0.out.1.stp)).mono ?_
        rintro _ w3 ⟨a3, c3, rfl, hb3, _, _, hn3, s3⟩
        have H3 : Aside (Kd w w3 d b g [] p ∧ At2 w3 wr.heap.size (k : Int) (c : Int)) := ⟨H0.out.1.stays s3, H0.out.2.1.stays s3⟩
        have KF := Lib.hid (feed_key H3.out.1 HT.out.1 a3 c3 HC.out.1 hb3 (fun _ ad e => by
          have h1 := hn3 ad e
          have h2 := H0.out.1.dc.lt
          omega) (K.kb k c).length rfl (by have := K.kb_len (k := k) (c := c) HC.out.2.1; omega))
        clear KY c0 c1 hb3 hn3 s3
        go_wp2_with fail
        refine KF.out.mono ?_
        rintro _ w4 ⟨v4, rfl, h4⟩
        obtain ⟨a4, c4, ev, hk4, _, _, hl4⟩ := h4.row.form
        obtain ⟨g4, o4, e4, d0, d1⟩ := hk4.at (i := 0) (by simp)
        subst e4
        subst ev
        have H4 : Aside (Kd w w4 d b g [] (wpa p k) ∧ At2 w4 wr.heap.size (k : Int) (c : Int)) := ⟨H3.out.1.turn h4.stp h4.dc rfl, H3.out.2.other h4.stp (by have := H0.out.2.2; simp; omega)⟩
        have HG : Aside (Kts w4 (some ⟨g4, o4, none⟩) [wnt p k (c : Int)]) := hk4
        clear KF h4 hk4 hl4 d0 d1 H3
        obtain ⟨q7, hq7⟩ : ∃ q7, q7 = wr.heap.size := ⟨_, rfl⟩
        rw [← hq7] at H4
        rw [← hq7]
        clear hq7
        obtain ⟨u0, u1, _, _⟩ := H4.out.2.cells
        have hlt4 := H4.out.2.lt
        have hc0 : k ≠ 0 → c = 0 := HC.out.2.2.2
        have hwy : (p = false ∧ ((k : Int) == 14) = true ∧ wnt p k (c : Int) = (15, 0) ∧ wpa p k = p) ∨ (p = false ∧ ((k : Int) == 14) = false ∧ ((k : Int) == 13) = true ∧ wnt p k (c : Int) = ((k : Int), (c : Int)) ∧ wpa p k = true) ∨ (p = false ∧ ((k : Int) == 14) = false ∧ ((k : Int) == 13) = false ∧ wnt p k (c : Int) = ((k : Int), (c : Int)) ∧ wpa p k = false) ∨
            (p = true ∧ ((k : Int) != 0) = false ∧ ((k : Int) == 13) = false ∧ ((k : Int) == 14) = false ∧ wnt p k (c : Int) = ((k : Int), (c : Int)) ∧ wpa p k = true) ∨ (p = true ∧ ((k : Int) != 0) = true ∧ ((k : Int) != 14) = false ∧ ((k : Int) == 13) = false ∧ ((k : Int) == 14) = true ∧ wnt p k (c : Int) = ((k : Int), (c : Int)) ∧ wpa p k = false) ∨ (p = true ∧ ((k : Int) != 0) = true ∧ ((k : Int) != 14) = true ∧ wnt p k (c : Int) = (15, 0) ∧ wpa p k = true) := by
          cases p with
          | false =>
            by_cases k14 : k = 14
            · subst k14
              exact .inl ⟨rfl, rfl, by unfold wnt; rw [if_pos (.inl ⟨rfl, rfl⟩)], by unfold wpa; rw [if_pos (.inl ⟨rfl, rfl⟩)]⟩
            · have f1 : ¬ ((false = false ∧ k = 14) ∨ (false = true ∧ k ≠ 0 ∧ k ≠ 14)) := by simp [k14]
              by_cases k13 : k = 13
              · subst k13
                exact .inr (.inl ⟨rfl, rfl, rfl, by unfold wnt; rw [if_neg f1], by unfold wpa; rw [if_neg f1]; rfl⟩)
              · exact .inr (.inr (.inl ⟨rfl, beq_eq_false_iff_ne.2 (by omega), beq_eq_false_iff_ne.2 (by omega), by unfold wnt; rw [if_neg f1], by unfold wpa; rw [if_neg f1, if_neg (by omega)]⟩))
          | true =>
            by_cases k0 : k = 0
            · subst k0
              have f1 : ¬ ((true = false ∧ 0 = 14) ∨ (true = true ∧ 0 ≠ 0 ∧ 0 ≠ 14)) := by simp
              exact .inr (.inr (.inr (.inl ⟨rfl, rfl, rfl, rfl, by unfold wnt; rw [if_neg f1], by unfold wpa; rw [if_neg f1]; rfl⟩)))
            · by_cases k14 : k = 14
              · subst k14
                have f1 : ¬ ((true = false ∧ 14 = 14) ∨ (true = true ∧ 14 ≠ 0 ∧ 14 ≠ 14)) := by simp
                exact .inr (.inr (.inr (.inr (.inl ⟨rfl, rfl, rfl, rfl, rfl, by unfold wnt; rw [if_neg f1], by unfold wpa; rw [if_neg f1]; rfl⟩))))
              · have f1 : ((true = false ∧ k = 14) ∨ (true = true ∧ k ≠ 0 ∧ k ≠ 14)) := .inr ⟨rfl, k0, k14⟩
                exact .inr (.inr (.inr (.inr (.inr ⟨rfl, by rw [bne_iff_ne]; omega, by rw [bne_iff_ne]; omega, by unfold wnt; rw [if_pos f1], by unfold wpa; rw [if_pos f1]⟩))))
        clear hc0
        rcases hwy with hwy | hwy | hwy | hwy | hwy | hwy
        · obtain ⟨hp, e14, ew, ep⟩ := hwy
          subst hp
          rw [ew] at HG
          rw [ep] at H4
          clear ew ep
          have H5 : Aside (Kd w (w4.alloc (.cells #[.int .i64 15, .int .i64 0] 41)) d b g [] false ∧ At2 (w4.alloc (.cells #[.int .i64 15, .int .i64 0] 41)) w4.heap.size 15 0 ∧ Kts (w4.alloc (.cells #[.int .i64 15, .int .i64 0] 41)) (some ⟨g4, o4, none⟩) [(15, 0)]) := ⟨H4.out.1.stays (Stp.alloc [] w4 _), At2.new w4 _ _, HG.out.stays (Stp.alloc [] w4 _)⟩
          clear HG H0
          go_wp2_with fail
          generalize w4.alloc (.cells #[.int .i64 15, .int .i64 0] 41) = w5 at *
          clear u0 u1 hlt4 H4
          generalize w4.heap.size = q12 at *
          have hy := H5.out.2.1.cells
          obtain ⟨y0, y1, _, _⟩ := hy
          have hlt5 := H5.out.2.1.lt
          obtain ⟨_, _, e5, d0, d1⟩ := H5.out.2.2.at (i := 0) (by simp)
          cases e5
          simp only [List.getElem_cons_zero, Nat.zero_mul, Nat.add_zero] at d0 d1
          have KP : Hid (∀ q, Calls Tryd.prog 18 #[.pointer (some ⟨d, 0, none⟩)] (w5.drewN q) fun e w' => e = .returned (.bool false) ∧ ∃ m, w' = w5.drewN m) := Lib.hid fun q => (pastes_run (H5.out.1.dc.stays (Stp.drewN [] w5 q))).mono fun e w' h => ⟨h.1, q, h.2⟩
          have KH : Hid (∀ q, Calls Tryd.prog 16 #[.pointer (some ⟨d, 0, none⟩)] (w5.drewN q) fun e w' => e = .returned (.int .i64 0) ∧ ∃ m, w' = w5.drewN m) := Lib.hid fun q => (held_run (H5.out.1.dc.stays (Stp.drewN [] w5 q))).mono fun e w' h => ⟨h.1, q, h.2⟩
          go_quiet ((first | (go_at_call 18; exact KP.out _) | (go_at_call 16; exact KH.out _)))
          go_wp2
          go_roundg (n - (i + 1))
          case measure => omega
          case rel => exact ⟨i + 1, false, by go_num, rfl, by omega, by omega, H5.out.1.stays (Stp.drewN [] w5 _)⟩
        · obtain ⟨hp, e14, e13, ew, ep⟩ := hwy
          subst hp
          rw [ew] at HG
          rw [ep] at H4
          clear ew ep
          have H5 : Aside (Kd w (w4.alloc (.cells #[.int .i64 (k : Int), .int .i64 (c : Int)] 41)) d b g [] true ∧ At2 (w4.alloc (.cells #[.int .i64 (k : Int), .int .i64 (c : Int)] 41)) w4.heap.size (k : Int) (c : Int) ∧ Kts (w4.alloc (.cells #[.int .i64 (k : Int), .int .i64 (c : Int)] 41)) (some ⟨g4, o4, none⟩) [((k : Int), (c : Int))]) := ⟨H4.out.1.stays (Stp.alloc [] w4 _), At2.new w4 _ _, HG.out.stays (Stp.alloc [] w4 _)⟩
          clear HG H0
          go_wp2_with fail
          generalize w4.alloc (.cells #[.int .i64 (k : Int), .int .i64 (c : Int)] 41) = w5 at *
          clear u0 u1 hlt4 H4
          generalize w4.heap.size = q12 at *
          have hy := H5.out.2.1.cells
          obtain ⟨y0, y1, _, _⟩ := hy
          have hlt5 := H5.out.2.1.lt
          obtain ⟨_, _, e5, d0, d1⟩ := H5.out.2.2.at (i := 0) (by simp)
          cases e5
          simp only [List.getElem_cons_zero, Nat.zero_mul, Nat.add_zero] at d0 d1
          have KP : Hid (∀ q, Calls Tryd.prog 18 #[.pointer (some ⟨d, 0, none⟩)] (w5.drewN q) fun e w' => e = .returned (.bool true) ∧ ∃ m, w' = w5.drewN m) := Lib.hid fun q => (pastes_run (H5.out.1.dc.stays (Stp.drewN [] w5 q))).mono fun e w' h => ⟨h.1, q, h.2⟩
          have KH : Hid (∀ q, Calls Tryd.prog 16 #[.pointer (some ⟨d, 0, none⟩)] (w5.drewN q) fun e w' => e = .returned (.int .i64 0) ∧ ∃ m, w' = w5.drewN m) := Lib.hid fun q => (held_run (H5.out.1.dc.stays (Stp.drewN [] w5 q))).mono fun e w' h => ⟨h.1, q, h.2⟩
          go_quiet ((first | (go_at_call 18; exact KP.out _) | (go_at_call 16; exact KH.out _)))
          go_wp2
          go_roundg (n - (i + 1))
          case measure => omega
          case rel => exact ⟨i + 1, true, by go_num, rfl, by omega, by omega, H5.out.1.stays (Stp.drewN [] w5 _)⟩
        · obtain ⟨hp, e14, e13, ew, ep⟩ := hwy
          subst hp
          rw [ew] at HG
          rw [ep] at H4
          clear ew ep
          have H5 : Aside (Kd w (w4.alloc (.cells #[.int .i64 (k : Int), .int .i64 (c : Int)] 41)) d b g [] false ∧ At2 (w4.alloc (.cells #[.int .i64 (k : Int), .int .i64 (c : Int)] 41)) w4.heap.size (k : Int) (c : Int) ∧ Kts (w4.alloc (.cells #[.int .i64 (k : Int), .int .i64 (c : Int)] 41)) (some ⟨g4, o4, none⟩) [((k : Int), (c : Int))]) := ⟨H4.out.1.stays (Stp.alloc [] w4 _), At2.new w4 _ _, HG.out.stays (Stp.alloc [] w4 _)⟩
          clear HG H0
          go_wp2_with fail
          generalize w4.alloc (.cells #[.int .i64 (k : Int), .int .i64 (c : Int)] 41) = w5 at *
          clear u0 u1 hlt4 H4
          generalize w4.heap.size = q12 at *
          have hy := H5.out.2.1.cells
          obtain ⟨y0, y1, _, _⟩ := hy
          have hlt5 := H5.out.2.1.lt
          obtain ⟨_, _, e5, d0, d1⟩ := H5.out.2.2.at (i := 0) (by simp)
          cases e5
          simp only [List.getElem_cons_zero, Nat.zero_mul, Nat.add_zero] at d0 d1
          have KP : Hid (∀ q, Calls Tryd.prog 18 #[.pointer (some ⟨d, 0, none⟩)] (w5.drewN q) fun e w' => e = .returned (.bool false) ∧ ∃ m, w' = w5.drewN m) := Lib.hid fun q => (pastes_run (H5.out.1.dc.stays (Stp.drewN [] w5 q))).mono fun e w' h => ⟨h.1, q, h.2⟩
          have KH : Hid (∀ q, Calls Tryd.prog 16 #[.pointer (some ⟨d, 0, none⟩)] (w5.drewN q) fun e w' => e = .returned (.int .i64 0) ∧ ∃ m, w' = w5.drewN m) := Lib.hid fun q => (held_run (H5.out.1.dc.stays (Stp.drewN [] w5 q))).mono fun e w' h => ⟨h.1, q, h.2⟩
          go_quiet ((first | (go_at_call 18; exact KP.out _) | (go_at_call 16; exact KH.out _)))
          go_wp2
          go_roundg (n - (i + 1))
          case measure => omega
          case rel => exact ⟨i + 1, false, by go_num, rfl, by omega, by omega, H5.out.1.stays (Stp.drewN [] w5 _)⟩
        · obtain ⟨hp, e0, e13, e14, ew, ep⟩ := hwy
          subst hp
          rw [ew] at HG
          rw [ep] at H4
          clear ew ep
          have H5 : Aside (Kd w (w4.alloc (.cells #[.int .i64 (k : Int), .int .i64 (c : Int)] 41)) d b g [] true ∧ At2 (w4.alloc (.cells #[.int .i64 (k : Int), .int .i64 (c : Int)] 41)) w4.heap.size (k : Int) (c : Int) ∧ Kts (w4.alloc (.cells #[.int .i64 (k : Int), .int .i64 (c : Int)] 41)) (some ⟨g4, o4, none⟩) [((k : Int), (c : Int))]) := ⟨H4.out.1.stays (Stp.alloc [] w4 _), At2.new w4 _ _, HG.out.stays (Stp.alloc [] w4 _)⟩
          clear HG H0
          go_wp2_with fail
          generalize w4.alloc (.cells #[.int .i64 (k : Int), .int .i64 (c : Int)] 41) = w5 at *
          clear u0 u1 hlt4 H4
          generalize w4.heap.size = q12 at *
          have hy := H5.out.2.1.cells
          obtain ⟨y0, y1, _, _⟩ := hy
          have hlt5 := H5.out.2.1.lt
          obtain ⟨_, _, e5, d0, d1⟩ := H5.out.2.2.at (i := 0) (by simp)
          cases e5
          simp only [List.getElem_cons_zero, Nat.zero_mul, Nat.add_zero] at d0 d1
          have KP : Hid (∀ q, Calls Tryd.prog 18 #[.pointer (some ⟨d, 0, none⟩)] (w5.drewN q) fun e w' => e = .returned (.bool true) ∧ ∃ m, w' = w5.drewN m) := Lib.hid fun q => (pastes_run (H5.out.1.dc.stays (Stp.drewN [] w5 q))).mono fun e w' h => ⟨h.1, q, h.2⟩
          have KH : Hid (∀ q, Calls Tryd.prog 16 #[.pointer (some ⟨d, 0, none⟩)] (w5.drewN q) fun e w' => e = .returned (.int .i64 0) ∧ ∃ m, w' = w5.drewN m) := Lib.hid fun q => (held_run (H5.out.1.dc.stays (Stp.drewN [] w5 q))).mono fun e w' h => ⟨h.1, q, h.2⟩
          go_quiet ((first | (go_at_call 18; exact KP.out _) | (go_at_call 16; exact KH.out _)))
          go_wp2
          go_roundg (n - (i + 1))
          case measure => omega
          case rel => exact ⟨i + 1, true, by go_num, rfl, by omega, by omega, H5.out.1.stays (Stp.drewN [] w5 _)⟩
        · obtain ⟨hp, e0, e14n, e13, e14, ew, ep⟩ := hwy
          subst hp
          rw [ew] at HG
          rw [ep] at H4
          clear ew ep
          have H5 : Aside (Kd w (w4.alloc (.cells #[.int .i64 (k : Int), .int .i64 (c : Int)] 41)) d b g [] false ∧ At2 (w4.alloc (.cells #[.int .i64 (k : Int), .int .i64 (c : Int)] 41)) w4.heap.size (k : Int) (c : Int) ∧ Kts (w4.alloc (.cells #[.int .i64 (k : Int), .int .i64 (c : Int)] 41)) (some ⟨g4, o4, none⟩) [((k : Int), (c : Int))]) := ⟨H4.out.1.stays (Stp.alloc [] w4 _), At2.new w4 _ _, HG.out.stays (Stp.alloc [] w4 _)⟩
          clear HG H0
          go_wp2_with fail
          generalize w4.alloc (.cells #[.int .i64 (k : Int), .int .i64 (c : Int)] 41) = w5 at *
          clear u0 u1 hlt4 H4
          generalize w4.heap.size = q12 at *
          have hy := H5.out.2.1.cells
          obtain ⟨y0, y1, _, _⟩ := hy
          have hlt5 := H5.out.2.1.lt
          obtain ⟨_, _, e5, d0, d1⟩ := H5.out.2.2.at (i := 0) (by simp)
          cases e5
          simp only [List.getElem_cons_zero, Nat.zero_mul, Nat.add_zero] at d0 d1
          have KP : Hid (∀ q, Calls Tryd.prog 18 #[.pointer (some ⟨d, 0, none⟩)] (w5.drewN q) fun e w' => e = .returned (.bool false) ∧ ∃ m, w' = w5.drewN m) := Lib.hid fun q => (pastes_run (H5.out.1.dc.stays (Stp.drewN [] w5 q))).mono fun e w' h => ⟨h.1, q, h.2⟩
          have KH : Hid (∀ q, Calls Tryd.prog 16 #[.pointer (some ⟨d, 0, none⟩)] (w5.drewN q) fun e w' => e = .returned (.int .i64 0) ∧ ∃ m, w' = w5.drewN m) := Lib.hid fun q => (held_run (H5.out.1.dc.stays (Stp.drewN [] w5 q))).mono fun e w' h => ⟨h.1, q, h.2⟩
          go_quiet ((first | (go_at_call 18; exact KP.out _) | (go_at_call 16; exact KH.out _)))
          go_wp2
          go_roundg (n - (i + 1))
          case measure => omega
          case rel => exact ⟨i + 1, false, by go_num, rfl, by omega, by omega, H5.out.1.stays (Stp.drewN [] w5 _)⟩
        · obtain ⟨hp, e0, e14n, ew, ep⟩ := hwy
          subst hp
          rw [ew] at HG
          rw [ep] at H4
          clear ew ep
          have H5 : Aside (Kd w (w4.alloc (.cells #[.int .i64 15, .int .i64 0] 41)) d b g [] true ∧ At2 (w4.alloc (.cells #[.int .i64 15, .int .i64 0] 41)) w4.heap.size 15 0 ∧ Kts (w4.alloc (.cells #[.int .i64 15, .int .i64 0] 41)) (some ⟨g4, o4, none⟩) [(15, 0)]) := ⟨H4.out.1.stays (Stp.alloc [] w4 _), At2.new w4 _ _, HG.out.stays (Stp.alloc [] w4 _)⟩
          clear HG H0
          go_wp2_with fail
          generalize w4.alloc (.cells #[.int .i64 15, .int .i64 0] 41) = w5 at *
          clear u0 u1 hlt4 H4
          generalize w4.heap.size = q12 at *
          have hy := H5.out.2.1.cells
          obtain ⟨y0, y1, _, _⟩ := hy
          have hlt5 := H5.out.2.1.lt
          obtain ⟨_, _, e5, d0, d1⟩ := H5.out.2.2.at (i := 0) (by simp)
          cases e5
          simp only [List.getElem_cons_zero, Nat.zero_mul, Nat.add_zero] at d0 d1
          have KP : Hid (∀ q, Calls Tryd.prog 18 #[.pointer (some ⟨d, 0, none⟩)] (w5.drewN q) fun e w' => e = .returned (.bool true) ∧ ∃ m, w' = w5.drewN m) := Lib.hid fun q => (pastes_run (H5.out.1.dc.stays (Stp.drewN [] w5 q))).mono fun e w' h => ⟨h.1, q, h.2⟩
          have KH : Hid (∀ q, Calls Tryd.prog 16 #[.pointer (some ⟨d, 0, none⟩)] (w5.drewN q) fun e w' => e = .returned (.int .i64 0) ∧ ∃ m, w' = w5.drewN m) := Lib.hid fun q => (held_run (H5.out.1.dc.stays (Stp.drewN [] w5 q))).mono fun e w' h => ⟨h.1, q, h.2⟩
          go_quiet ((first | (go_at_call 18; exact KP.out _) | (go_at_call 16; exact KH.out _)))
          go_wp2
          go_roundg (n - (i + 1))
          case measure => omega
          case rel => exact ⟨i + 1, true, by go_num, rfl, by omega, by omega, H5.out.1.stays (Stp.drewN [] w5 _)⟩
      · have hq0 : ((K.chk k c : Int) != 0) = true := by rw [bne_iff_ne]; omega
        have H0 : Aside (Kd w (wr.alloc (.cells #[.int .i64 k, .int .i64 c] 41)) d b g [] p) := HS.out.stays (Stp.alloc [] wr _)
        generalize K.kbs k c = kb at *
        generalize K.chk k c = q at *
        clear hck hle
        go_wp2_with fail
        generalize wr.alloc (.cells #[.int .i64 k, .int .i64 c] 41) = w0 at *
        refine (KY.out _ (HT.out.2.2.2.stays H0.out.stp)).mono ?_
        rintro _ w3 ⟨a3, c3, rfl, _, _, _, _, s3⟩
        have H3 : Aside (Kd w w3 d b g [] p) := H0.out.stays s3
        clear KY c0 c1 s3 HS H0
        go_wp2
        go_roundg (n - (i + 1))
        case measure => omega
        case rel => exact ⟨i + 1, p, by go_num, rfl, by omega, by omega, H3.out⟩
    · have hltz : ¬ (i : Int) < (n : Int) := by omega
      go_wp2
      go_ret
      exact ⟨rfl, HS.out.stp⟩
end Go.Proofs.YthffjcacdcipeaaDoor
