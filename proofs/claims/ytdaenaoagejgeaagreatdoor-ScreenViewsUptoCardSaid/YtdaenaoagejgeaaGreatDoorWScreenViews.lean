/-
  The walk of ScreenViews.
-/
import Derived.Test.YtdaenaoagejgeaaGreatDoorZPure
import Derived.Test.YtdaenaoagejgeaaGreatDoorSIs
import Derived.Test.YtdaenaoagejgeaaGreatDoorURch
import Derived.Test.YtdaenaoagejgeaaGreatDoorUPt
import Derived.Deep.RegionHeld
namespace Go.Proofs.YtdaenaoagejgeaaGreatDoor
open Go.RowKit Go.Lib
set_option linter.unusedVariables false

theorem Is.at {w wr : World} {a : Option Addr} {l : List Int} (h : Is w a l) {F : List Nat} (hs : Stp [] w F wr) {i : Nat} (hi : i < l.length) : ∃ b off, a = some ⟨b, off, none⟩ ∧ wr.cell? ⟨b, off + i, none⟩ = some (.int .i64 (l[i]!)) := by
  obtain ⟨b, off, h1, hb, h2⟩ := h (by intro e; subst e; simp at hi)
  exact ⟨b, off, h1, (hs.cell (a := ⟨b, off + i, none⟩) hb (by simp)).trans (h2 i hi)⟩
theorem own_of_U {w : World} {base : Nat} {v : Value} {l : List Nat} (h : U.Own w base v l) (hl : ∀ x ∈ l, x < 256) : Own w base v (l.map UInt8.ofNat) := by
  have e1 : (l.map UInt8.ofNat).map bval = l.map U.bval := by
    rw [List.map_map]
    refine List.map_congr_left (fun x hx => ?_)
    show Value.int .u8 (((UInt8.ofNat x).toNat : Nat) : Int) = Value.int .u8 (x : Int)
    rw [UInt8.toNat_ofNat', Nat.mod_eq_of_lt (hl x hx)]
  unfold Own
  rw [e1, List.length_map]
  exact h
/-- What stands in a round: the screen, one row. -/
def VwR (w wr : World) (s B : Nat) : Prop := ∃ F L cur col, Ks w wr s F L ∧ held L = [] ∧ seen L = ⟨[], cur, col, 0, false, 0⟩ ∧ L.length ≤ B
theorem VwR.stp {w wr : World} {s B : Nat} (h : VwR w wr s B) : Stp [] w [] wr := by
  obtain ⟨F, L, _, _, h1, _⟩ := h
  exact h1.stp
theorem VwR.stays {w wr w' : World} {s B : Nat} (h : VwR w wr s B) (hs : Stp [] wr [] w') : VwR w w' s B := by
  obtain ⟨F, L, cur, col, h1, h2⟩ := h
  exact ⟨F, L, cur, col, h1.stays hs, h2⟩
theorem VwR.chr {w wr : World} {s B : Nat} (h : VwR w wr s B) (hT : Tabs w) {q : Nat} (hp : U.prB (q : Int) = true) (a : Option Addr) (n cap : Nat) (hb : Bts wr a (enc8 q)) (hn : n = (enc8 q).length) (ha : a = none → cap = 0) (hB : B ≤ 80000) :
    Calls Tryz.prog 9 #[.pointer (some ⟨s, 0, none⟩), .slice a n cap] wr (fun e w' => e = .returned (.int .i64 0) ∧ VwR w w' s (B + 4)) := by
  obtain ⟨F, L, cur, col, h1, h2, h3, h4⟩ := h
  have h5 := (enc8_len q).2
  refine (h1.feed hT a n cap (enc8 q) hb hn ha (by omega)).mono ?_
  rintro e w' ⟨rfl, F', k, _⟩
  have h6 := seen_chr h2 hp
  rw [h3] at h6
  exact ⟨rfl, F', _, _, _, k, h6.2, h6.1, by rw [List.length_append]; omega⟩
theorem VwR.line {w wr : World} {s B : Nat} (h : VwR w wr s B) (hT : Tabs w) {X : List Nat} (hX : Pr X) (S b : Nat) (hb : b ≤ 9999) (a : Option Addr) (n cap : Nat) (hbt : Bts wr a (lineL (fl X) S b)) (hn : n = (lineL (fl X) S b).length) (ha : a = none → cap = 0) (hB : B + n ≤ 80000) :
    Calls Tryz.prog 9 #[.pointer (some ⟨s, 0, none⟩), .slice a n cap] wr (fun e w' => e = .returned (.int .i64 0) ∧ ∃ F L, Ks w w' s F L ∧ seen L = ⟨[], X ++ List.replicate S 42, X.length + S - b, 0, false, 0⟩ ∧ L.length ≤ 80000) := by
  obtain ⟨F, L, cur, col, h1, h2, h3, h4⟩ := h
  refine (h1.feed hT a n cap _ hbt hn ha (by omega)).mono ?_
  rintro e w' ⟨rfl, F', k, _⟩
  have h6 := seen_line h2 h3 hX S b hb
  exact ⟨rfl, F', _, k, h6.1, by rw [List.length_append]; omega⟩
theorem rend_ok {l : List UInt8} {m r c a : Int} (h : renN l m r c a = 0) : ∃ X, Pr X ∧ l = fl X ∧ l.length ≤ 256 ∧ chs l = X ∧ rng c a = true ∧ renL l m r c a = lineL l (stN m c).toNat (stN m c - plN m c a).toNat := by
  have h0 : chkN l m r = 0 := by
    unfold renN at h
    split at h
    · assumption
    · exact h
  have h1 : rng c a = true := by
    unfold renN at h
    rw [if_pos h0] at h
    split at h
    · assumption
    · cases h
  have h2 : fiB l = true ∧ l.length ≤ 256 := by
    unfold chkN at h0
    split at h0
    · cases h0
    · rename_i g
      split at h0
      · cases h0
      · exact ⟨by simpa using g, by omega⟩
  obtain ⟨X, hX, e⟩ := (fi_iff l).1 h2.1
  refine ⟨X, hX, e, h2.2, by rw [e]; exact chs_fl hX, h1, ?_⟩
  unfold renL
  rw [if_pos h]
/-- The document's Chars, at bytes that a text has just laid. -/
theorem bytes_stp (W : World) (x : ByteArray) : Stp [] W [] (Lib.bytesWorld W 5 x) := ⟨rfl, rfl, rfl, by rw [Lib.bytesWorld_size]; omega, fun k hk _ => Lib.bytesWorld_at_old W _ _ k hk, fun _ h => .inl h⟩
theorem conv_at (W : World) (l : List UInt8) : (convert 9 27 (.string (st l))).run Tryz.prog W = .ok (.slice (some ⟨W.heap.size, 0, none⟩) (st l).size (grownCap W (st l).size 0 5)) (Lib.bytesWorld W 5 (st l)) :=
  Go.Lib.run_convert_string_bytes (P := Tryz.prog) W 9 27 5 (st l) Tryz.underlying9 Tryz.underlying27 Tryz.underlying5
theorem chars_at (W : World) (l : List UInt8) (hl : l.length ≤ 256) : Calls Tryz.prog 14 #[.slice (some ⟨W.heap.size, 0, none⟩) (st l).size (grownCap W (st l).size 0 5)] (Lib.bytesWorld W 5 (st l))
    (fun e w' => ∃ a c, e = .returned (.slice a (chs l).length c) ∧ Stp [] W [] w') := by
  have hb : Bts (Lib.bytesWorld W 5 (st l)) (some ⟨W.heap.size, 0, none⟩) l := fun _ => ⟨W.heap.size, 0, rfl, fun i hi => by
    rw [Nat.zero_add, Lib.bytesWorld_cell W _ _ i (by rw [st_size]; exact hi), st_data, getElem!_pos l i hi]
    simp [bval, List.getD, hi]⟩
  have hs := st_size l
  have h := U.rchars_any (some ⟨W.heap.size, 0, none⟩) (grownCap W (st l).size 0 5) (l.map UInt8.toNat) (Lib.bytesWorld W 5 (st l)) (bts_to_U hb) (by rw [List.length_map, ← hs]; exact grownCap_ge _ _ _ _) (grownCap_le_maxLen _ _ _ _ (by unfold maxLen; omega)) (by rw [List.length_map]; omega)
  rw [List.length_map, ← hs] at h
  refine h.mono ?_
  rintro e w' ⟨v, rfl, ho, hbl⟩
  have hst := (bytes_stp W (st l)).trans (Stp.of_below hbl)
  rcases ho.2 with ⟨hv, h0⟩ | ⟨g, cap, cur, hv, _⟩
  · refine ⟨none, 0, by rw [hv, show (chs l).length = 0 from h0], hst⟩
  · exact ⟨_, _, by rw [hv]; rfl, hst⟩
/-- What the screen tells at the end. -/
structure VwE (W : World) (s : Nat) (col : Int) (x : ByteArray) : Prop where
  place : ∀ W', Stp [] W [] W' → Calls Tryz.prog 11 #[.pointer (some ⟨s, 0, none⟩)] W' (Tells (.tuple #[.int .i64 0, .int .i64 col]) W')
  row : ∀ W', Stp [] W [] W' → Calls Tryz.prog 12 #[.pointer (some ⟨s, 0, none⟩), .int .i64 0] W' (Tells (.string x) W')
  odd : ∀ W', Stp [] W [] W' → Calls Tryz.prog 13 #[.pointer (some ⟨s, 0, none⟩)] W' (Tells (.int .i64 0) W')
  rows : ∀ W', Stp [] W [] W' → Calls Tryz.prog 16 #[.pointer (some ⟨s, 0, none⟩)] W' (Tells (.int .i64 1) W')
theorem vw_end {w W : World} {s : Nat} {F : List Nat} {L : List UInt8} {cur : List Nat} {col : Nat} (h : Ks w W s F L) (e : seen L = ⟨[], cur, col, 0, false, 0⟩) (hl : L.length ≤ 80000) : VwE W s (col : Int) (st (fl cur)) := by
  have er : rowsL L = [cur] := by unfold rowsL; rw [e]; rfl
  refine ⟨fun W' hs => ?_, fun W' hs => ?_, fun W' hs => ?_, fun W' hs => ?_⟩
  · have := place_run (h.sc.stays hs) (by omega)
    rw [e] at this
    exact this
  · have := lrow_run (h.sc.stays hs) (by omega) 0 (by rw [er]; simp)
    rw [er] at this
    exact this
  · have := odd_run (h.sc.stays hs)
    rw [e] at this
    exact this
  · have := rows_run (h.sc.stays hs)
    rw [er] at this
    exact this
set_option maxHeartbeats 4000000 in
set_option maxRecDepth 1000000 in
theorem views_walk (l : List UInt8) (m r : Int) (x y : Nat) (a2 : Option Addr) (cap2 nb : Nat) (bs : List Int) (w : World) (hl : l.length ≤ 1048576) (hx : x < 65536) (hy : y < 65536) (hb : Is w a2 bs) (hnb : nb = bs.length) (hT : Tabs w) :
    Calls Tryz.prog 3 #[askv l m r, .agg #[.int .u16 (x : Int), .int .u16 (y : Int)], .slice a2 nb cap2] w (Tells (.bool true) w) := by
  have HT : Aside (Tabs w ∧ Is w a2 bs ∧ nb = bs.length) := ⟨hT, hb, hnb⟩
  have HD : (decide (300 < (nb : Int)) = true ∨ decide (300 < (nb : Int)) = false) := by cases decide (300 < (nb : Int)) <;> simp
  obtain ⟨n, hn, hn1⟩ : ∃ n : Nat, (x : Int) % 1025 = (n : Int) ∧ n ≤ 1024 := ⟨x % 1025, by omega, by omega⟩
  obtain ⟨p, hp, hp1⟩ : ∃ p : Nat, (y : Int) % ((n : Int) + 1) = (p : Int) ∧ p ≤ n := ⟨((y : Int) % ((n : Int) + 1)).toNat, by have := Int.emod_nonneg (y : Int) (show ((n : Int) + 1) ≠ 0 by omega); omega, by have := Int.emod_lt_of_pos (y : Int) (show 0 < ((n : Int) + 1) by omega); omega⟩
  have KR : Hid (∀ W, Stp [] w [] W → Calls Tryz.prog 4 #[.agg #[.string (st l), .int .i64 m, .int .i64 r], .int .i64 (n : Int), .int .i64 (p : Int)] W (Rend W (renL l m r n p) (renN l m r n p))) := Lib.hid fun W hs => render_run l m r n p W hl (hT.stays hs)
  have hxz : (x : Int) < 65536 := by omega
  have hyz : (y : Int) < 65536 := by omega
  have hnz : (n : Int) ≤ 1024 := by omega
  clear hT hb hnb
  have ha0 := heap_alloc_new w (.cells #[.string (st l), .int .i64 m, .int .i64 r] 23)
  unfold askv
  go_enter Tryz.func3, Tryz.ntmps3
  go_wp2_with fail
  have S0 : Stp [] w [] ((w.alloc (.cells #[.string (st l), .int .i64 m, .int .i64 r] 23)).alloc (.cells #[.int .u16 (x : Int), .int .u16 (y : Int)] 25)) := (Stp.alloc [] _ _).trans (Stp.alloc [] _ _)
  have hc0 : ((w.alloc (.cells #[.string (st l), .int .i64 m, .int .i64 r] 23)).alloc (.cells #[.int .u16 (x : Int), .int .u16 (y : Int)] 25)).cell? ⟨w.heap.size, 0, none⟩ = some (.string (st l)) := (Stp.alloc [] _ _).keeps rfl (by rw [cell_of_row _ _ 0 _ _ _ ha0]; rfl)
  have hc1 : ((w.alloc (.cells #[.string (st l), .int .i64 m, .int .i64 r] 23)).alloc (.cells #[.int .u16 (x : Int), .int .u16 (y : Int)] 25)).cell? ⟨w.heap.size, 1, none⟩ = some (.int .i64 m) := (Stp.alloc [] _ _).keeps rfl (by rw [cell_of_row _ _ 1 _ _ _ ha0]; rfl)
  have KR := Lib.hid (KR.out _ S0)
  have HS0 := Lib.hid (And.intro S0 (And.intro hc0 hc1))
  clear S0 hc0 hc1 ha0
  generalize ((w.alloc (.cells #[.string (st l), .int .i64 m, .int .i64 r] 23)).alloc (.cells #[.int .u16 (x : Int), .int .u16 (y : Int)] 25)) = w0 at *
  generalize w.heap.size = g0 at *
  obtain ⟨en, hen⟩ : ∃ en, en = renN l m r n p := ⟨_, rfl⟩
  obtain ⟨L, hL⟩ : ∃ L, L = renL l m r n p := ⟨_, rfl⟩
  rw [← hen, ← hL] at KR
  have HEN := Lib.hid (And.intro hen hL)
  clear hen hL
  simp only [hn, hp]
  have HNP := Lib.hid (And.intro hn1 hp1)
  clear hn hp hx hy hxz hyz hl hp1
  refine KR.out.mono ?_
  rintro _ w1 ⟨pb, cb, rfl, hbt, hcl, hcm, s1⟩
  have H1 : Aside (Bts w1 pb L ∧ L.length ≤ cb ∧ Stp [] w [] w1 ∧ (∀ W, Stp [] w1 [] W → W.cell? ⟨g0, 0, none⟩ = some (.string (st l)) ∧ W.cell? ⟨g0, 1, none⟩ = some (.int .i64 m))) :=
    ⟨hbt, hcl, HS0.out.1.trans s1, fun W hs => ⟨hs.keeps rfl (s1.keeps rfl HS0.out.2.1), hs.keeps rfl (s1.keeps rfl HS0.out.2.2)⟩⟩
  have KN := Lib.hid (knew_run (Stp.refl [] w1))
  have HTB : Aside (Tabs w1) := HT.out.1.stays H1.out.2.2.1
  clear KR hbt hcl hcm s1 HS0
  go_wp2_with fail
  refine KN.out.mono ?_
  rintro _ w2 ⟨s, F, rfl, k2, hF, t2⟩
  have H2 : Aside (VwR w1 w2 s 0) := ⟨F, [], [], 0, k2, rfl, rfl, by simp⟩
  clear KN k2 hF t2
  have KA := Lib.hid (alive_run w2 (HTB.out.stays H2.out.stp))
  by_cases h0 : en = 0
  · subst h0
    go_wp2_with fail
    refine KA.out.mono ?_
    rintro _ w3 ⟨rfl, s3⟩
    have H3 : Aside (VwR w1 w3 s 0) := H2.out.stays s3
    clear KA H2 s3
    rcases HD with hd | hd
    · have KA := Lib.hid (alive_run w3 (HTB.out.stays H3.out.stp))
      go_wp2_with fail
      refine KA.out.mono ?_
      rintro _ w4 ⟨rfl, s4⟩
      go_wp2
      go_ret
      exact ⟨rfl, (H1.out.2.2.1.trans H3.out.stp).trans s4⟩
    have hnb3 : (nb : Int) ≤ 300 := by have := of_decide_eq_false hd; omega
    clear hd
    go_wp2_with fail
    go_loopg [55] nb (fun gk vi wr => ∃ k : Nat, vi = .int .i64 (k : Int) ∧ k ≤ nb ∧ nb - k ≤ gk ∧ Aside (VwR w1 wr s (4 * k)))
    case atStart => exact ⟨0, rfl, by omega, by omega, H3.out⟩
    case round =>
      obtain ⟨k, rfl, hk, hg, HS⟩ := hrel
      by_cases hlt : k < nb
      · have hltz : (k : Int) < (nb : Int) := by omega
        have hil : k < bs.length := by rw [← HT.out.2.2]; exact hlt
        obtain ⟨ab, off, rfl, c0⟩ := HT.out.2.1.at (H1.out.2.2.1.trans HS.out.stp) hil
        have KP := Lib.hid (fun W => U.pr_any (bs[k]!) W)
        have HX := Lib.hid hlt
        clear hil
        by_cases hp : U.prB (bs[k]!) = true
        · obtain ⟨q, hq⟩ : ∃ q : Nat, bs[k]! = (q : Int) := ⟨(bs[k]!).toNat, by have := of_decide_eq_true hp; omega⟩
          rw [hq] at KP c0 hp
          rw [hp] at KP
          have KU := Lib.hid (U.put_yes q wr (pr_ch hp).1)
          have HPR := Lib.hid hp
          clear hq hp
          go_wp2_with fail
          refine KU.out.mono ?_
          rintro _ w4 ⟨v1, rfl, ho1, hb1⟩
          have ho1 := own_of_U ho1 (U.enc_lt q (pr_ch HPR.out).2)
          rw [show (U.enc q).map UInt8.ofNat = enc8 q from rfl] at ho1
          obtain ⟨a5, c5, rfl, hbt5, hz5, _, _⟩ := ho1.bts
          have s4 := Stp.of_below hb1
          have KF := Lib.hid ((HS.out.stays s4).chr HTB.out HPR.out a5 (enc8 q).length c5 hbt5 rfl hz5 (by omega))
          clear KU ho1 hb1 hbt5 hz5 s4 HS
          go_wp2_with fail
          refine (KP.out _).mono ?_
          rintro _ _ ⟨rfl, rfl⟩
          go_wp2_with fail
          refine KF.out.mono ?_
          rintro _ w5 ⟨rfl, h5⟩
          have H5 : Aside (VwR w1 w5 s (4 * (k + 1))) := h5
          clear KF h5
          go_wp2_with fail
          go_roundg (nb - (k + 1))
          case measure => have := HX.out; omega
          case rel => exact ⟨k + 1, by go_num, by have := HX.out; omega, by omega, H5.out⟩
        · have hp : U.prB (bs[k]!) = false := by simpa using hp
          rw [hp] at KP
          generalize bs[k]! = z at *
          have H5 : Aside (∀ W, Stp [] wr [] W → VwR w1 W s (4 * (k + 1))) := fun W hs => by
            obtain ⟨F2, L2, cu, co, q1, q2, q3, q4⟩ := HS.out.stays hs
            exact ⟨F2, L2, cu, co, q1, q2, q3, by omega⟩
          clear HS
          cases hc : U.isCh z with
          | true =>
            obtain ⟨q, rfl⟩ : ∃ q : Nat, z = (q : Int) := ⟨z.toNat, by have := of_decide_eq_true hc; omega⟩
            have KU := Lib.hid (U.put_yes q wr hc)
            clear hc hp
            go_wp2_with fail
            refine KU.out.mono ?_
            rintro _ w4 ⟨v1, rfl, ho1, hb1⟩
            have s4 := Stp.of_below hb1
            clear KU ho1 hb1
            go_wp2_with fail
            refine (KP.out _).mono ?_
            rintro _ wz ⟨rfl, hw⟩
            obtain rfl : wz = w4 := hw
            go_wp2_with fail
            go_roundg (nb - (k + 1))
            case measure => have := HX.out; omega
            case rel => exact ⟨k + 1, by go_num, by have := HX.out; omega, by omega, H5.out _ s4⟩
          | false =>
            have KU := Lib.hid (U.put_no z wr hc)
            clear hc hp
            go_wp2_with fail
            refine KU.out.mono ?_
            rintro _ _ ⟨rfl, rfl⟩
            go_wp2_with fail
            go_roundg (nb - (k + 1))
            case measure => have := HX.out; omega
            case rel => exact ⟨k + 1, by go_num, by have := HX.out; omega, by omega, H5.out _ (Stp.refl _ _)⟩
      · have hltz : ¬ (k : Int) < (nb : Int) := by omega
        obtain ⟨X, hX, eX, hl256, hchs, hrng, hren⟩ := rend_ok HEN.out.1.symm
        have hsb := stN_bd m n
        have hpb := plN_bd m n p hrng
        obtain ⟨S, hS⟩ : ∃ S : Nat, stN m n = (S : Int) := ⟨(stN m n).toNat, by omega⟩
        obtain ⟨P, hP⟩ : ∃ P : Nat, plN m n p = (P : Int) := ⟨(plN m n p).toNat, by omega⟩
        rw [hS] at hsb
        rw [hS, hP] at hpb
        have hS1 : S ≤ 1024 := by omega
        have hPS : P ≤ S := by omega
        have eL : L = lineL (fl X) S (S - P) := by
          rw [HEN.out.2, hren, hS, hP, eX]
          congr 1
          omega
        have hLl : L.length ≤ 2000 := by
          have := lineL_len (fl X) S (S - P) (by omega)
          rw [eL]
          rw [eX] at hl256
          omega
        have hLn : pb = none → cb = 0 := fun e => by
          obtain ⟨b, off, e2, _⟩ := H1.out.1 (by rw [eL]; unfold lineL; simp)
          rw [e] at e2
          cases e2
        have KF := Lib.hid (HS.out.line HTB.out hX S (S - P) (by omega) pb L.length cb (eL ▸ (H1.out.1.stays HS.out.stp)) (by rw [← eL]) hLn (by omega))
        have hlX : l = fl X := eX
        have HL := Lib.hid (And.intro hlX (And.intro hchs (And.intro hX hPS)))
        have KSt : Hid (∀ W, Calls Tryz.prog 10 #[.int .i64 m, .int .i64 (n : Int)] W (Tells (.int .i64 (S : Int)) W)) := Lib.hid fun W => hS ▸ stars_run m n W
        have KPl : Hid (∀ W, Calls Tryz.prog 15 #[.int .i64 m, .int .i64 (n : Int), .int .i64 (p : Int)] W (Tells (.int .i64 (P : Int)) W)) := Lib.hid fun W => hP ▸ vplace_run m n p W
        have hkz : k ≤ nb := hk
        clear eX hchs hX hlX hS hP hsb hpb hrng hren hLn eL
        generalize L.length = lb at *
        go_wp2_with fail
        refine KF.out.mono ?_
        rintro _ w5 ⟨rfl, F5, L5, k5, e5, hl5⟩
        have HE : Aside (VwE w5 s ((X.length + P : Nat) : Int) (st (fl (X ++ List.replicate S 42))) ∧ Stp [] w1 [] w5) := by
          have := vw_end k5 e5 hl5
          have hPS := HL.out.2.2.2
          rw [show X.length + S - (S - P) = X.length + P by omega] at this
          exact ⟨this, k5.stp⟩
        have d0 := (H1.out.2.2.2 w5 HE.out.2).1
        have d1 := (H1.out.2.2.2 w5 HE.out.2).2
        clear KF k5 e5 hl5 HS
        go_wp2_with fail
        refine (KSt.out _).mono ?_
        rintro _ w6 ⟨rfl, s6⟩
        have H6 : Aside (Stp [] w5 [] w6) := s6
        clear s6 d0 d1
        have hszl := st_size l
        go_wp2_with fail
        go_loopg [16, 83] S (fun gk v16 vi wr => ∃ (i : Nat) (Y : ByteArray), vi = .int .i64 (i : Int) ∧ v16 = .string Y ∧ i ≤ S ∧ S - i ≤ gk ∧ Y.size = l.length + i ∧ Aside (Y = st (l ++ List.replicate i 42) ∧ Stp [] w5 [] wr))
        case atStart => exact ⟨0, _, rfl, rfl, by omega, by omega, by rw [hszl]; omega, by simp, H6.out⟩
        case round =>
          obtain ⟨i, Y, rfl, rfl, hi, hgi, hY, HY⟩ := hrel
          by_cases hil : i < S
          · have hilz : (i : Int) < (S : Int) := by omega
            have hiz : (i : Int) ≤ 1024 := by omega
            have HY2 : Aside (Y ++ ⟨#[42]⟩ = st (l ++ List.replicate (i + 1) 42) ∧ Stp [] w5 [] wr) := by
              refine ⟨?_, HY.out.2⟩
              rw [HY.out.1, List.replicate_succ', ← List.append_assoc, ← st_append]
              rfl
            clear HY
            go_wp2_with fail
            go_roundg (S - (i + 1))
            case measure => omega
            case rel => exact ⟨i + 1, _, by go_num, rfl, by omega, by omega, by rw [ByteArray.size_append, hY]; show _ + 1 = _; omega, HY2.out⟩
          · have hilz : ¬ (i : Int) < (S : Int) := by omega
            obtain rfl : i = S := by omega
            have eY : Y = st (fl (X ++ List.replicate i 42)) := by
              rw [HY.out.1, fl_app, fl_star, ← HL.out.1]
            have HW := Lib.hid HY.out.2
            subst eY
            clear HY
            go_wp2_with fail
            refine (HE.out.1.place _ HW.out).mono ?_
            rintro _ w7 ⟨rfl, s7⟩
            have H7 : Aside (Stp [] w5 [] w7) := HW.out.trans s7
            clear s7 HW
            go_wp2_with fail
            have hcol : ((X.length + P : Nat) : Int) = (X.length : Int) + (P : Int) := by omega
            have hPz : (P : Int) ≤ 1024 := by omega
            have hXz : X.length ≤ 256 := by
              have h1 : ∀ Z : List Nat, Z.length ≤ (fl Z).length := fun Z => by
                induction Z with
                | nil => simp [fl]
                | cons c Z ih =>
                  rw [fl_cons, List.length_append, List.length_cons]
                  have := (enc8_len c).1
                  omega
              have h2 := h1 X
              rw [← HL.out.1] at h2
              omega
            have hXz2 : (X.length : Int) ≤ 256 := by omega
            rw [hcol] at HE
            have K1 : Hid (∀ W, Stp [] w7 [] W → Calls Tryz.prog 12 #[.pointer (some ⟨s, 0, none⟩), .int .i64 0] W (Tells (.string (st (fl (X ++ List.replicate i 42)))) W)) := Lib.hid fun W hs => HE.out.1.row _ (H7.out.trans hs)
            have K2 : Hid (∀ W, Stp [] w7 [] W → Calls Tryz.prog 13 #[.pointer (some ⟨s, 0, none⟩)] W (Tells (.int .i64 0) W)) := Lib.hid fun W hs => HE.out.1.odd _ (H7.out.trans hs)
            have K3 : Hid (∀ W, Stp [] w7 [] W → Calls Tryz.prog 16 #[.pointer (some ⟨s, 0, none⟩)] W (Tells (.int .i64 1) W)) := Lib.hid fun W hs => HE.out.1.rows _ (H7.out.trans hs)
            have K4 : Hid (∀ W, Calls Tryz.prog 14 #[.slice (some ⟨W.heap.size, 0, none⟩) (st l).size (grownCap W (st l).size 0 5)] (Lib.bytesWorld W 5 (st l)) (fun e w' => ∃ a c, e = .returned (.slice a X.length c) ∧ Stp [] W [] w')) := Lib.hid fun W => by
              have := chars_at W l hl256
              rw [HL.out.2.1] at this
              exact this
            have cvt := fun W => conv_at W l
            have hP : Hid (∀ W, Stp [] w7 [] W → Stp [] w7 [] W ∧ W.cell? ⟨g0, 0, none⟩ = some (.string (st l)) ∧ W.cell? ⟨g0, 1, none⟩ = some (.int .i64 m)) := Lib.hid fun W hs => by
              have q := H1.out.2.2.2 W ((HE.out.2.trans H7.out).trans hs)
              exact ⟨hs, q.1, q.2⟩
            have hcur := hP.out w7.drew (Stp.drew [] w7)
            have HZ : Aside (Stp [] w [] w7) := (H1.out.2.2.1.trans HE.out.2).trans H7.out
            generalize st (fl (X ++ List.replicate i 42)) = xr at *
            generalize X.length = nx at *
            clear HL hcol hl256 hszl hY hil hilz hgi hi HE H7 H1 H6 hS1 hPS hXz hLl hn1
            have hw1 : IntKind.i64.wrap ((nx : Int) + (P : Int)) = (nx : Int) + (P : Int) := by rw [IntKind.wrap_i64]; omega
            have hw2 : wrap64 ((nx : Int) + (P : Int)) = (nx : Int) + (P : Int) := by unfold wrap64; omega
            obtain ⟨cp, hcp⟩ : ∃ cp : Int, cp = (nx : Int) + (P : Int) := ⟨_, rfl⟩
            have hcp2 : (nx : Int) + (P : Int) = cp := hcp.symm
            rw [hcp2] at hw1 hw2
            clear hcp
            generalize st l = xl at *
            go_region_held (fun W => Stp [] w7 [] W ∧ W.cell? ⟨g0, 0, none⟩ = some (.string xl) ∧ W.cell? ⟨g0, 1, none⟩ = some (.int .i64 m)) (first | exact hcur | assumption | exact hP.out _ (hcur.1.trans (bytes_stp _ _)))
              (first
                | (go_at_call 12; (with_reducible refine (K1.out _ hcur.1).mono ?_); rintro _ wa ⟨rfl, q⟩; replace hcur := hP.out _ (hcur.1.trans q); clear q)
                | (go_at_call 13; (with_reducible refine (K2.out _ hcur.1).mono ?_); rintro _ wb ⟨rfl, q⟩; replace hcur := hP.out _ (hcur.1.trans q); clear q)
                | (go_at_call 14; go_loud (refine (K4.out _).mono ?_); rintro _ wc ⟨ac, cc, rfl, q⟩; replace hcur := hP.out _ (hcur.1.trans q); clear q)
                | (go_at_call 15; (with_reducible refine (KPl.out _).mono ?_); rintro _ wd ⟨rfl, q⟩; replace hcur := hP.out _ (hcur.1.trans q); clear q)
                | (go_at_call 16; (with_reducible refine (K3.out _ hcur.1).mono ?_); rintro _ we ⟨rfl, q⟩; replace hcur := hP.out _ (hcur.1.trans q); clear q))
            have HQ := Lib.hid (HZ.out.trans hcur.1)
            clear hcur hP K1 K2 K3 K4 cvt
            go_wp2
            go_ret
            exact ⟨by simp, HQ.out⟩
  · have h0z : ¬ (en : Int) = 0 := by omega
    go_wp2_with fail
    refine KA.out.mono ?_
    rintro _ w4 ⟨rfl, s4⟩
    go_wp2
    go_ret
    exact ⟨rfl, (H1.out.2.2.1.trans H2.out.stp).trans s4⟩
end Go.Proofs.YtdaenaoagejgeaaGreatDoor
