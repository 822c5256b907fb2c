/-
  The walk of EditbufKills: a text that is cut by KillEnd, and another by KillStart, is both.
-/
import Derived.Test.YtblmpaplggnajaaDoorBufI
import Derived.Test.YtblmpaplggnajaaDoorInts
import Derived.Deep.RegionHeld3
namespace Go.Proofs.YtblmpaplggnajaaDoor
open Go.RowKit Go.Lib
set_option linter.unusedVariables false

/-- What a word is, less than a bound. -/
def modN (x : Int) (m : Nat) : Nat := (x % 18446744073709551616 % ((m : Int) + 1)).toNat
theorem modN_le (x : Int) (m : Nat) : modN x m ≤ m := by
  unfold modN
  have h1 : x % 18446744073709551616 % ((m : Int) + 1) < (m : Int) + 1 := Int.emod_lt_of_pos _ (by omega)
  omega
theorem modN_cast (x : Int) (m : Nat) : x % 18446744073709551616 % ((m : Int) + 1) = (modN x m : Int) := by
  unfold modN
  have h2 : 0 ≤ x % 18446744073709551616 % ((m : Int) + 1) := Int.emod_nonneg _ (by omega)
  omega
theorem word (x : Int) : ∃ z, IntKind.u64.wrap x = z ∧ 0 ≤ z ∧ z < 18446744073709551616 ∧ z = x % 18446744073709551616 := ⟨_, IntKind.wrap_u64 x, by omega, by omega, rfl⟩
/-- Insert at a buffer that is new since w, of bytes that were there. -/
theorem ins_eb {w W : World} {e b g N : Nat} {A B : List Nat} (h : Eb w W e b g N A B) (hT : U.Tabs w) (p : Option Addr) (n c : Nat) (l : List UInt8) (hb : Bts w p l) (hn : n = l.length) (hcap : n ≤ c) (hm : c ≤ maxLen) : ∀ W', Stp [] W [] W' →
    Calls Tryd.prog 17 #[.pointer (some ⟨e, 0, none⟩), .slice p n c] W' fun en w' => en = .returned (.int .i64 (insS N l A B).e) ∧ Eb w w' e b g N (insS N l A B).A (insS N l A B).B ∧ Stp [e, b, g] W [e, b, g] w' := fun W' hs =>
  (ins_run (h.bu.stays hs) (tabs_stays hT (h.stp.trans hs)) p n c l (hb.stays (h.stp.trans hs)) hn hcap hm (fun hne ad e => by
    obtain ⟨bb, off, e2, hlt⟩ := hb.blk hne
    rw [e2] at e
    cases e
    have := h.new
    show bb ≠ g
    omega)).mono fun _ _ ⟨h1, h2, h3⟩ => ⟨h1, (h.stays hs).act h2 h3, (hs.more (fun k hk => by cases hk)).trans h3⟩
theorem ins_whole {N : Nat} {t : List UInt8} (hN : t.length ≤ N) (hf : Fi t) : insS N t [] [] = ⟨0, chs t, []⟩ := by
  rw [insS_yes hf]
  unfold layS
  rw [hf.of.2, if_pos (by simp [fl]; omega)]
  rfl
theorem right_step (N : Nat) (X : List Nat) (j : Nat) (hj : j < X.length) : doS N 5 0 (X.take j) (X.drop j) = ⟨0, X.take (j + 1), X.drop (j + 1)⟩ ∧ chg ⟨0, X.take (j + 1), X.drop (j + 1)⟩ (X.take j) (X.drop j) = true := by
  have h : doS N 5 0 (X.take j) (X.drop j) = ⟨0, X.take j ++ (X.drop j).take 1, (X.drop j).drop 1⟩ := rfl
  rw [h, List.drop_drop, List.take_add]
  refine ⟨rfl, ?_⟩
  unfold chg
  have : decide ((X.drop (j + 1)).length ≠ (X.drop j).length) = true := decide_eq_true (by rw [List.length_drop, List.length_drop]; omega)
  rw [this]
  simp
set_option maxHeartbeats 1000000 in
set_option maxRecDepth 100000 in
theorem kills_walk (a0 : Option Addr) (cap0 n : Nat) (t : List UInt8) (pt : Int) (w : World) (hb : Bts w a0 t) (hn : n = t.length) (hcap : n ≤ cap0) (hm : cap0 ≤ maxLen) (hT : U.Tabs w) :
    Calls Tryd.prog 6 #[.slice a0 n cap0, .int .i64 pt] w (Tells (.bool true) w) := by
  have HT : Aside (Bts w a0 t ∧ n = t.length ∧ U.Tabs w ∧ n ≤ cap0 ∧ cap0 ≤ maxLen) := ⟨hb, hn, hT, hcap, hm⟩
  have KB : ∀ W, Calls Tryd.prog 9 #[.int .i64 1000] W (Begun 1000 W) := fun W => begin_run 1000 W (by omega) (by omega)
  have KB := Lib.hid KB
  clear hb hn hT hcap hm
  have HD : (decide (1000 < (n : Int)) = true ∨ decide (1000 < (n : Int)) = false) := by cases decide (1000 < (n : Int)) <;> simp
  go_enter Tryd.func6, Tryd.ntmps6
  go_wp2_with fail
  refine (KB.out _).mono ?_
  rintro _ w1 ⟨e, b, g, rfl, h1⟩
  have H1 : Aside (Eb w w1 e b g 1000 [] []) := h1
  clear h1
  go_wp2_with fail
  refine (KB.out _).mono ?_
  rintro _ w2 ⟨e', b', g', rfl, h2⟩
  have H2 : Aside (Pair w w2 1000 e b g [] [] e' b' g' [] []) := Pair.mk' H1.out h2
  clear h2 H1 KB
  go_wp2_with fail
  refine (alive_run w2).mono ?_
  rintro _ w3 ⟨rfl, s3⟩
  have H3 : Aside (Pair w w3 1000 e b g [] [] e' b' g' [] []) := H2.out.stays s3
  clear H2 s3
  rcases HD with hd | hd
  · go_wp2_with fail
    refine (alive_run w3).mono ?_
    rintro _ w4 ⟨rfl, s4⟩
    have H4 : Aside (Stp [] w [] w4) := H3.out.one.stp.trans s4
    clear H3 s4
    go_wp2
    go_ret
    exact ⟨rfl, H4.out⟩
  by_cases hf : Fi t
  · have hr := ins_whole (N := 1000) (t := t) (by have := HT.out.2.1; have := of_decide_eq_false hd; omega) hf
    have KI := ins_eb H3.out.one HT.out.2.2.1 a0 n cap0 t HT.out.1 HT.out.2.1 HT.out.2.2.2.1 HT.out.2.2.2.2
    rw [hr] at KI
    have KI := Lib.hid KI
    have HF := Lib.hid (And.intro hf hr)
    clear hf hr
    go_wp2_with fail
    refine (KI.out _ (Stp.refl _ _)).mono ?_
    rintro _ w4 ⟨rfl, h4, s4⟩
    have H4 : Aside (Pair w w4 1000 e b g (chs t) [] e' b' g' [] []) := H3.out.act1 h4 s4
    have KI := ins_eb H4.out.two HT.out.2.2.1 a0 n cap0 t HT.out.1 HT.out.2.1 HT.out.2.2.2.1 HT.out.2.2.2.2
    rw [HF.out.2] at KI
    have KI := Lib.hid KI
    clear h4 s4 H3
    go_wp2_with fail
    refine (KI.out _ (Stp.refl _ _)).mono ?_
    rintro _ w5 ⟨rfl, h5, s5⟩
    have H5 : Aside (Pair w w5 1000 e b g (chs t) [] e' b' g' (chs t) []) := H4.out.act2 h5 s5
    have KC := bcount_run H5.out.one.bu
    rw [List.append_nil] at KC
    obtain ⟨X, hX⟩ : ∃ X, X = chs t := ⟨_, rfl⟩
    rw [← hX] at H5 KC
    have HX : Hid (Pr X ∧ fl X = t) := Lib.hid (by rw [hX]; exact HF.out.1.of)
    obtain ⟨q, hq⟩ : ∃ q, q = X.length := ⟨_, rfl⟩
    rw [← hq] at KC
    have hq4 : q ≤ 4096 := by
      have h1 := H5.out.one.bu.lens
      have h2 := fl_len_ge X
      rw [List.append_nil] at h1
      omega
    have HQ := Lib.hid hq
    have KC := Lib.hid KC
    clear h5 s5 H4 KI hX hq
    have hk := modN_le pt q
    have ck := modN_cast pt q
    obtain ⟨k, ek⟩ : ∃ k, k = modN pt q := ⟨_, rfl⟩
    rw [← ek] at hk ck
    obtain ⟨zx, wx, x0, x1, ex⟩ := word pt
    rw [← ex] at ck
    clear ek ex
    go_wp2_with fail
    refine KC.out.mono ?_
    rintro _ w5 ⟨rfl, rfl⟩
    go_wp2_with fail
    have H6 : Aside (Pair w (w5.alloc (.cells #[.pointer (some ⟨e, 0, none⟩), .pointer (some ⟨e', 0, none⟩)] 24)) 1000 e b g X [] e' b' g' X [] ∧ (w5.alloc (.cells #[.pointer (some ⟨e, 0, none⟩), .pointer (some ⟨e', 0, none⟩)] 24)).heap[w5.heap.size]? = some (.cells #[.pointer (some ⟨e, 0, none⟩), .pointer (some ⟨e', 0, none⟩)] 24 (0, 0)) ∧ ∀ i ∈ [e, b, g, e', b', g'], i < w5.heap.size) := ⟨H5.out.stays (Stp.alloc [] w5 _), heap_alloc_new w5 _, fun i hi => by
      have h1 := H5.out.one.bu.lt
      have h2 := H5.out.two.bu.lt
      simp at hi
      omega⟩
    generalize w5.alloc (.cells #[.pointer (some ⟨e, 0, none⟩), .pointer (some ⟨e', 0, none⟩)] 24) = w6 at *
    generalize w5.heap.size = gq at *
    clear H5
    have HG := Lib.hid H6.out.2.2
    clear ck wx x0 x1
    go_loopg [63] 2 (fun gk vi wr => ∃ i : Nat, vi = .int .i64 (i : Int) ∧ i ≤ 2 ∧ 2 - i ≤ gk ∧ Aside (Pair w wr 1000 e b g (if i = 0 then X else X.take k) (if i = 0 then [] else X.drop k) e' b' g' (if i ≤ 1 then X else X.take k) (if i ≤ 1 then [] else X.drop k) ∧ wr.heap[gq]? = some (.cells #[.pointer (some ⟨e, 0, none⟩), .pointer (some ⟨e', 0, none⟩)] 24 (0, 0))))
    case atStart => exact ⟨0, rfl, by omega, by omega, H6.out.1, H6.out.2.1⟩
    case round =>
      obtain ⟨i, rfl, hi, hg, HS⟩ := hrel
      rcases (by omega : i = 0 ∨ i = 1 ∨ i = 2) with hi2 | hi2 | hi2
      · subst hi2
        have H7 : Aside (Pair w wr 1000 e b g X [] e' b' g' X [] ∧ wr.heap[gq]? = some (.cells #[.pointer (some ⟨e, 0, none⟩), .pointer (some ⟨e', 0, none⟩)] 24 (0, 0))) := HS.out
        have d0 : wr.cell? ⟨gq, 0, none⟩ = some (.pointer (some ⟨e, 0, none⟩)) := by rw [cell_of_row wr gq _ _ _ _ H7.out.2]; rfl
        have KD : ∀ W', Stp [] wr [] W' → Calls Tryd.prog 13 #[.pointer (some ⟨e, 0, none⟩), .agg #[.int .i64 6, .int .i64 0]] W' fun en w' => en = .returned (.tuple #[.bool (chg ⟨0, [], X ++ []⟩ X []), .int .i64 0]) ∧ Eb w w' e b g 1000 [] (X ++ []) ∧ Stp [e, b, g] wr [e, b, g] w' := do_eb H7.out.1.one 6 0 (by decide)
        rw [List.append_nil] at KD
        have KD := Lib.hid KD
        generalize chg ⟨0, [], X⟩ X [] = bb at *
        clear HS
        go_wp2_with fail
        refine (KD.out _ (Stp.refl _ _)).mono ?_
        rintro _ w7 ⟨rfl, h7, s7⟩
        have H8 : Aside (Pair w w7 1000 e b g [] X e' b' g' X [] ∧ w7.heap[gq]? = some (.cells #[.pointer (some ⟨e, 0, none⟩), .pointer (some ⟨e', 0, none⟩)] 24 (0, 0))) := ⟨H7.out.1.act1 h7 s7, (s7.block gq (Array.getElem?_eq_some_iff.1 H7.out.2).1 (fun hh => by
          have := HG.out gq (by simp at hh ⊢; omega)
          omega)).trans H7.out.2⟩
        clear h7 s7 KD H7 d0
        go_wp2_with fail
        rename_i wz
        go_loopg [71] k (fun gk vi wr => ∃ j : Nat, vi = .int .i64 (j : Int) ∧ j ≤ k ∧ k - j ≤ gk ∧ Aside (Pair w wr 1000 e b g (X.take j) (X.drop j) e' b' g' X [] ∧ wr.heap[gq]? = some (.cells #[.pointer (some ⟨e, 0, none⟩), .pointer (some ⟨e', 0, none⟩)] 24 (0, 0))))
        case atStart => exact ⟨0, rfl, Nat.zero_le _, by omega, H8.out⟩
        case round =>
          obtain ⟨j, rfl, hj, hg3, HS⟩ := hrel
          by_cases hlt : j < k
          · have hltz : (j : Int) < (k : Int) := by omega
            have hst := right_step 1000 X j (by have := HQ.out; omega)
            have KD := do_eb HS.out.1.one 5 0 (by decide)
            rw [hst.1, hst.2] at KD
            have KD := Lib.hid KD
            have HJ : Aside (j < k) := hlt
            clear hlt hst
            go_wp2_with fail
            refine (KD.out _ (Stp.refl _ _)).mono ?_
            rintro _ w8 ⟨rfl, h8, s8⟩
            have H9 : Aside (Pair w w8 1000 e b g (X.take (j + 1)) (X.drop (j + 1)) e' b' g' X [] ∧ w8.heap[gq]? = some (.cells #[.pointer (some ⟨e, 0, none⟩), .pointer (some ⟨e', 0, none⟩)] 24 (0, 0))) := ⟨HS.out.1.act1 h8 s8, (s8.block gq (Array.getElem?_eq_some_iff.1 HS.out.2).1 (fun hh => by
              have := HG.out gq (by simp at hh ⊢; omega)
              omega)).trans HS.out.2⟩
            clear h8 s8 KD
            go_wp2
            go_roundg (k - (j + 1))
            case measure => have := HJ.out; omega
            case rel => exact ⟨j + 1, by go_num, by have := HJ.out; omega, by omega, H9.out⟩
          · have hltz : ¬ (j : Int) < (k : Int) := by omega
            obtain rfl : j = k := by omega
            have H9 : Aside (Pair w wr 1000 e b g (X.take j) (X.drop j) e' b' g' X [] ∧ wr.heap[gq]? = some (.cells #[.pointer (some ⟨e, 0, none⟩), .pointer (some ⟨e', 0, none⟩)] 24 (0, 0))) := HS.out
            clear HS H8
            go_wp2_with fail
            go_roundg 1
            case measure => omega
            case rel => exact ⟨1, by go_num, by omega, by omega, H9.out⟩
      · subst hi2
        have H7 : Aside (Pair w wr 1000 e b g (X.take k) (X.drop k) e' b' g' X [] ∧ wr.heap[gq]? = some (.cells #[.pointer (some ⟨e, 0, none⟩), .pointer (some ⟨e', 0, none⟩)] 24 (0, 0))) := HS.out
        have d0 : wr.cell? ⟨gq, 1, none⟩ = some (.pointer (some ⟨e', 0, none⟩)) := by rw [cell_of_row wr gq _ _ _ _ H7.out.2]; rfl
        have KD : ∀ W', Stp [] wr [] W' → Calls Tryd.prog 13 #[.pointer (some ⟨e', 0, none⟩), .agg #[.int .i64 6, .int .i64 0]] W' fun en w' => en = .returned (.tuple #[.bool (chg ⟨0, [], X ++ []⟩ X []), .int .i64 0]) ∧ Eb w w' e' b' g' 1000 [] (X ++ []) ∧ Stp [e', b', g'] wr [e', b', g'] w' := do_eb H7.out.1.two 6 0 (by decide)
        rw [List.append_nil] at KD
        have KD := Lib.hid KD
        generalize chg ⟨0, [], X⟩ X [] = bb at *
        clear HS
        go_wp2_with fail
        refine (KD.out _ (Stp.refl _ _)).mono ?_
        rintro _ w7 ⟨rfl, h7, s7⟩
        have H8 : Aside (Pair w w7 1000 e b g (X.take k) (X.drop k) e' b' g' [] X ∧ w7.heap[gq]? = some (.cells #[.pointer (some ⟨e, 0, none⟩), .pointer (some ⟨e', 0, none⟩)] 24 (0, 0))) := ⟨H7.out.1.act2 h7 s7, (s7.block gq (Array.getElem?_eq_some_iff.1 H7.out.2).1 (fun hh => by
          have := HG.out gq (by simp at hh ⊢; omega)
          omega)).trans H7.out.2⟩
        clear h7 s7 KD H7 d0
        go_wp2_with fail
        rename_i wz
        go_loopg [71] k (fun gk vi wr => ∃ j : Nat, vi = .int .i64 (j : Int) ∧ j ≤ k ∧ k - j ≤ gk ∧ Aside (Pair w wr 1000 e b g (X.take k) (X.drop k) e' b' g' (X.take j) (X.drop j) ∧ wr.heap[gq]? = some (.cells #[.pointer (some ⟨e, 0, none⟩), .pointer (some ⟨e', 0, none⟩)] 24 (0, 0))))
        case atStart => exact ⟨0, rfl, Nat.zero_le _, by omega, H8.out⟩
        case round =>
          obtain ⟨j, rfl, hj, hg3, HS⟩ := hrel
          by_cases hlt : j < k
          · have hltz : (j : Int) < (k : Int) := by omega
            have hst := right_step 1000 X j (by have := HQ.out; omega)
            have KD := do_eb HS.out.1.two 5 0 (by decide)
            rw [hst.1, hst.2] at KD
            have KD := Lib.hid KD
            have HJ : Aside (j < k) := hlt
            clear hlt hst
            go_wp2_with fail
            refine (KD.out _ (Stp.refl _ _)).mono ?_
            rintro _ w8 ⟨rfl, h8, s8⟩
            have H9 : Aside (Pair w w8 1000 e b g (X.take k) (X.drop k) e' b' g' (X.take (j + 1)) (X.drop (j + 1)) ∧ w8.heap[gq]? = some (.cells #[.pointer (some ⟨e, 0, none⟩), .pointer (some ⟨e', 0, none⟩)] 24 (0, 0))) := ⟨HS.out.1.act2 h8 s8, (s8.block gq (Array.getElem?_eq_some_iff.1 HS.out.2).1 (fun hh => by
              have := HG.out gq (by simp at hh ⊢; omega)
              omega)).trans HS.out.2⟩
            clear h8 s8 KD
            go_wp2
            go_roundg (k - (j + 1))
            case measure => have := HJ.out; omega
            case rel => exact ⟨j + 1, by go_num, by have := HJ.out; omega, by omega, H9.out⟩
          · have hltz : ¬ (j : Int) < (k : Int) := by omega
            obtain rfl : j = k := by omega
            have H9 : Aside (Pair w wr 1000 e b g (X.take j) (X.drop j) e' b' g' (X.take j) (X.drop j) ∧ wr.heap[gq]? = some (.cells #[.pointer (some ⟨e, 0, none⟩), .pointer (some ⟨e', 0, none⟩)] 24 (0, 0))) := HS.out
            clear HS H8
            go_wp2_with fail
            go_roundg 0
            case measure => omega
            case rel => exact ⟨2, by go_num, by omega, by omega, H9.out⟩
      · subst hi2
        have H7 : Aside (Pair w wr 1000 e b g (X.take k) (X.drop k) e' b' g' (X.take k) (X.drop k)) := HS.out.1
        have hcat : X.take k ++ X.drop k = X := List.take_append_drop k X
        have KC := bcount_run H7.out.one.bu
        rw [hcat, ← HQ.out] at KC
        have KC := Lib.hid KC
        clear HS hcat
        go_wp2_with fail
        refine KC.out.mono ?_
        rintro _ wr ⟨rfl, rfl⟩
        have KD : ∀ W', Stp [] wr [] W' → Calls Tryd.prog 13 #[.pointer (some ⟨e, 0, none⟩), .agg #[.int .i64 9, .int .i64 0]] W' fun en w' => en = .returned (.tuple #[.bool (chg ⟨0, X.take k, []⟩ (X.take k) (X.drop k)), .int .i64 0]) ∧ Eb w w' e b g 1000 (X.take k) [] ∧ Stp [e, b, g] wr [e, b, g] w' := do_eb H7.out.one 9 0 (by decide)
        have KD := Lib.hid KD
        generalize chg ⟨0, X.take k, []⟩ (X.take k) (X.drop k) = bb at *
        go_wp2_with fail
        refine (KD.out _ (Stp.refl _ _)).mono ?_
        rintro _ w7 ⟨rfl, h7, s7⟩
        have H8 : Aside (Pair w w7 1000 e b g (X.take k) [] e' b' g' (X.take k) (X.drop k)) := H7.out.act1 h7 s7
        have KD : ∀ W', Stp [] w7 [] W' → Calls Tryd.prog 13 #[.pointer (some ⟨e', 0, none⟩), .agg #[.int .i64 8, .int .i64 0]] W' fun en w' => en = .returned (.tuple #[.bool (chg ⟨0, [], X.drop k⟩ (X.take k) (X.drop k)), .int .i64 0]) ∧ Eb w w' e' b' g' 1000 [] (X.drop k) ∧ Stp [e', b', g'] w7 [e', b', g'] w' := do_eb H8.out.two 8 0 (by decide)
        have KD := Lib.hid KD
        generalize chg ⟨0, [], X.drop k⟩ (X.take k) (X.drop k) = bb2 at *
        clear h7 s7 H7 KC
        go_wp2_with fail
        refine (KD.out _ (Stp.refl _ _)).mono ?_
        rintro _ w8 ⟨rfl, h8, s8⟩
        have H9 : Aside (Pair w w8 1000 e b g (X.take k) [] e' b' g' [] (X.drop k)) := H8.out.act2 h8 s8
        clear h8 s8 H8 KD
        have hx0 : (st (fl (X.take k)) ++ st (fl (X.drop k))) = st t := by rw [st_append, ← fl_app, List.take_append_drop, HX.out.2]
        have hb1 : (fl (X.take k)).length ≤ 1000 := by have := H9.out.one.bu.lens; simp at this; omega
        have hb2 : (fl (X.drop k)).length ≤ 1000 := by have := H9.out.two.bu.lens; simp at this; omega
        have KT1 : ∀ W', Stp [] w8 [] W' → Calls Tryd.prog 21 #[.pointer (some ⟨e, 0, none⟩)] W' fun en w' => en = .returned (.string (st (fl (X.take k)))) ∧ Stp [] w8 [] w' := fun W' hs => by
          have h := text_run (H9.out.one.bu.stays hs)
          rw [List.append_nil] at h
          exact h.mono fun _ _ ⟨h1, h2⟩ => ⟨h1, hs.trans h2⟩
        have KT2 : ∀ W', Stp [] w8 [] W' → Calls Tryd.prog 21 #[.pointer (some ⟨e', 0, none⟩)] W' fun en w' => en = .returned (.string (st (fl (X.drop k)))) ∧ Stp [] w8 [] w' := fun W' hs => by
          have h := text_run (H9.out.two.bu.stays hs)
          rw [List.nil_append] at h
          exact h.mono fun _ _ ⟨h1, h2⟩ => ⟨h1, hs.trans h2⟩
        have hnee : e' ≠ e := (H9.out.ap e' (by simp)).1
        have KT : ∀ W' x, Stp [] w8 [] W' → (x = e ∨ x = e') → Calls Tryd.prog 21 #[.pointer (some ⟨x, 0, none⟩)] W' fun en w' => ∃ y, (x = e → y = st (fl (X.take k))) ∧ (x = e' → y = st (fl (X.drop k))) ∧ en = .returned (.string y) ∧ Stp [] w8 [] w' := fun W' x hs h => by
          rcases h with rfl | rfl
          · exact (KT1 W' hs).mono fun _ _ h => ⟨_, (fun _ => rfl), (fun h => absurd h.symm hnee), h⟩
          · exact (KT2 W' hs).mono fun _ _ h => ⟨_, (fun h => absurd h hnee), (fun _ => rfl), h⟩
        have KT := Lib.hid KT
        clear KT1 KT2
        have hr1 : ¬ 9223372036854775807 < (st (fl (X.take k))).size + (st (fl (X.drop k))).size := by rw [st_size, st_size]; omega
        have ht : ((st (fl (X.take k)) ++ st (fl (X.drop k))).toList == (st t).toList) = true := by rw [hx0]; exact beq_self_eq_true _
        have hkq : k ≤ X.length := by have := HQ.out; omega
        have KC1 : ∀ W', Stp [] w8 [] W' → Calls Tryd.prog 23 #[.pointer (some ⟨e, 0, none⟩)] W' (Gives (.int .i64 (k : Int)) W') := fun W' hs => by
          have h := bcount_run (H9.out.one.bu.stays hs)
          rw [List.append_nil, List.length_take, Nat.min_eq_left hkq] at h
          exact h
        have KC2 : ∀ W', Stp [] w8 [] W' → Calls Tryd.prog 23 #[.pointer (some ⟨e', 0, none⟩)] W' (Gives (.int .i64 ((q - k : Nat) : Int)) W') := fun W' hs => by
          have h := bcount_run (H9.out.two.bu.stays hs)
          rw [List.nil_append, List.length_drop, ← HQ.out] at h
          exact h
        have KA1 : ∀ W', Stp [] w8 [] W' → Calls Tryd.prog 24 #[.pointer (some ⟨e, 0, none⟩)] W' (Gives (.int .i64 (k : Int)) W') := fun W' hs => by
          have h := bat_run (H9.out.one.bu.stays hs)
          rw [List.length_take, Nat.min_eq_left hkq] at h
          exact h
        have KA2 : ∀ W', Stp [] w8 [] W' → Calls Tryd.prog 24 #[.pointer (some ⟨e', 0, none⟩)] W' (Gives (.int .i64 0) W') := fun W' hs => bat_run (H9.out.two.bu.stays hs)
        have KCC : ∀ W' x, Stp [] w8 [] W' → (x = e ∨ x = e') → Calls Tryd.prog 23 #[.pointer (some ⟨x, 0, none⟩)] W' fun en w' => ∃ y : Int, (x = e → y = (k : Int)) ∧ (x = e' → y = ((q - k : Nat) : Int)) ∧ en = .returned (.int .i64 y) ∧ w' = W' := fun W' x hs h => by
          rcases h with rfl | rfl
          · exact (KC1 W' hs).mono fun _ _ h => ⟨_, (fun _ => rfl), (fun h => absurd h.symm hnee), h⟩
          · exact (KC2 W' hs).mono fun _ _ h => ⟨_, (fun h => absurd h hnee), (fun _ => rfl), h⟩
        have KAA : ∀ W' x, Stp [] w8 [] W' → (x = e ∨ x = e') → Calls Tryd.prog 24 #[.pointer (some ⟨x, 0, none⟩)] W' fun en w' => ∃ y : Int, (x = e → y = (k : Int)) ∧ (x = e' → y = 0) ∧ en = .returned (.int .i64 y) ∧ w' = W' := fun W' x hs h => by
          rcases h with rfl | rfl
          · exact (KA1 W' hs).mono fun _ _ h => ⟨_, (fun _ => rfl), (fun h => absurd h.symm hnee), h⟩
          · exact (KA2 W' hs).mono fun _ _ h => ⟨_, (fun h => absurd h hnee), (fun _ => rfl), h⟩
        have KCC := Lib.hid KCC
        have KAA := Lib.hid KAA
        clear KC1 KC2 KA1 KA2
        have hsub : IntKind.i64.wrap ((q : Int) - (k : Int)) = ((q - k : Nat) : Int) := by rw [IntKind.wrap_i64]; omega
        have CV : Aside (∀ W', Stp [] w8 [] W' → (convert 36 9 (.slice a0 n cap0)).run Tryd.prog W' = .ok (.string (st t)) W') := fun W' hs => conv_bts cap0 n (HT.out.1.stays (H9.out.one.stp.trans hs)) HT.out.2.1
        have hcur : Stp [] w8 [] w8.drew := Stp.drew _ _
        clear hx0 hb1 hb2 hkq hnee
        generalize q - k = qk at *
        go_wp2_with fail
        go_region_held3 (fun W' => (convert 36 9 (.slice a0 n cap0)).run Tryd.prog W' = .ok (.string (st t)) W')
          (first | exact CV.out _ hcur | assumption)
          (first
            | (go_at_call 21; refine (KT.out _ _ hcur ?_).mono ?_; (first | exact Or.inl rfl | exact Or.inr rfl); rintro _ w9 ⟨y, hy1, hy2, rfl, s9⟩; (first | (obtain rfl := hy1 rfl) | (obtain rfl := hy2 rfl)); clear hy1 hy2; replace hcur := s9)
            | (go_at_call 23; refine (KCC.out _ _ hcur ?_).mono ?_; (first | exact Or.inl rfl | exact Or.inr rfl); rintro _ w9 ⟨y, hy1, hy2, rfl, rfl⟩; (first | (obtain rfl := hy1 rfl) | (obtain rfl := hy2 rfl)); clear hy1 hy2)
            | (go_at_call 24; refine (KAA.out _ _ hcur ?_).mono ?_; (first | exact Or.inl rfl | exact Or.inr rfl); rintro _ w9 ⟨y, hy1, hy2, rfl, rfl⟩; (first | (obtain rfl := hy1 rfl) | (obtain rfl := hy2 rfl)); clear hy1 hy2))
        all_goals
          go_wp2
          go_ret
          exact ⟨rfl, H9.out.one.stp.trans hcur⟩
  · have hr := insS_no hf 1000 [] []
    have KI := ins_eb H3.out.one HT.out.2.2.1 a0 n cap0 t HT.out.1 HT.out.2.1 HT.out.2.2.2.1 HT.out.2.2.2.2
    rw [hr] at KI
    have KI := Lib.hid KI
    clear hf hr
    go_wp2_with fail
    refine (KI.out _ (Stp.refl _ _)).mono ?_
    rintro _ w4 ⟨rfl, h4, s4⟩
    have H4 : Aside (Stp [] w [] w4) := h4.stp
    clear h4 s4 H3 KI
    go_wp2_with fail
    refine (alive_run _).mono ?_
    rintro _ w5 ⟨rfl, s5⟩
    have H5 : Aside (Stp [] w [] w5) := H4.out.trans s5
    clear s5 H4
    go_wp2
    go_ret
    exact ⟨rfl, H5.out⟩
end Go.Proofs.YtblmpaplggnajaaDoor
