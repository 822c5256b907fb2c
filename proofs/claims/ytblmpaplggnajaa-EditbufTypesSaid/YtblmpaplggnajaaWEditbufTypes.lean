/-
  The walk of EditbufTypes: characters are there as they were typed; that many Backs take all of them.
-/
import Derived.Test.YtblmpaplggnajaaInts
namespace Go.Proofs.Ytblmpaplggnajaa
open Go.RowKit Go.Lib
set_option linter.unusedVariables false

/-- A slice's numbers. -/
def Is (w : World) (a : Option Addr) (l : List Int) : Prop := l ≠ [] → ∃ b off, a = some ⟨b, off, none⟩ ∧ b < w.heap.size ∧ ∀ i, i < l.length → w.cell? ⟨b, off + i, none⟩ = some (.int .i64 (l[i]!))
theorem Is.at {w wr : World} {a : Option Addr} {l : List Int} (h : Is w a l) {F : List Nat} (hs : Stp [] w F wr) {i : Nat} (hi : i < l.length) : ∃ b off, a = some ⟨b, off, none⟩ ∧ wr.cell? ⟨b, off + i, none⟩ = some (.int .i64 (l[i]!)) := by
  obtain ⟨b, off, h1, hb, h2⟩ := h (by intro e; subst e; simp at hi)
  exact ⟨b, off, h1, (hs.cell (a := ⟨b, off + i, none⟩) hb (by simp)).trans (h2 i hi)⟩
/-- The characters among numbers that may be shown. -/
def shw (l : List Int) : List Int := l.filter (fun c => U.prB c)
theorem shw_take {l : List Int} {i : Nat} (hi : i < l.length) : shw (l.take (i + 1)) = shw (l.take i) ++ (if U.prB (l[i]!) = true then [l[i]!] else []) := by
  unfold shw
  rw [List.take_succ_eq_append_getElem hi, getElem!_pos l i hi, List.filter_append]
  congr 1
  by_cases h : U.prB l[i] = true <;> simp [h]
theorem shw_len (l : List Int) : (shw l).length ≤ l.length := List.length_filter_le _ _
theorem shw_pr {l : List Int} : ∀ c ∈ shw l, U.prB c = true := fun c hc => by simpa using (List.mem_filter.1 hc).2
/-- As characters. -/
def nat (l : List Int) : List Nat := l.map Int.toNat
theorem fl_len_le (A : List Nat) : (fl A).length ≤ 4 * A.length := by
  induction A with
  | nil => simp [fl]
  | cons c A ih =>
    rw [fl_cons, List.length_append, List.length_cons]
    have := (enc8_len c).2
    omega
theorem do_char {N : Nat} {c : Nat} {A B : List Nat} (hp : U.prB (c : Int) = true) (hf : (fl (A ++ B)).length + 4 ≤ N) : doS N 0 (c : Int) A B = ⟨0, A ++ [c], B⟩ := by
  have h1 : (fl [c]).length ≤ 4 := by rw [fl_one]; exact (enc8_len c).2
  unfold doS putS layS
  rw [if_pos rfl, if_pos hp, Int.toNat_natCast, if_pos (by omega)]
theorem nat_prB {l : List Int} (h : ∀ c ∈ l, U.prB c = true) : Pr (nat l) := fun c hc => by
  obtain ⟨z, hz, rfl⟩ := List.mem_map.1 hc
  have h1 := h z hz
  have h2 := of_decide_eq_true h1
  rw [Int.toNat_of_nonneg (by omega)]
  exact h1
theorem nat_at {l : List Int} (h : ∀ c ∈ l, U.prB c = true) {i : Nat} (hi : i < l.length) : l[i]! = (((nat l)[i]! : Nat) : Int) := by
  have h1 := h l[i] (List.getElem_mem hi)
  have h2 := of_decide_eq_true h1
  rw [getElem!_pos l i hi, getElem!_pos (nat l) i (by simpa [nat] using hi)]
  simp only [nat, List.getElem_map]
  rw [Int.toNat_of_nonneg (by omega)]
theorem take_snoc {X : List Nat} {k : Nat} (hk : k < X.length) : X.take (k + 1) = X.take k ++ [X[k]!] := by
  rw [List.take_succ_eq_append_getElem hk, getElem!_pos X k hk]
set_option maxHeartbeats 1000000 in
set_option maxRecDepth 100000 in
theorem types_walk (a0 : Option Addr) (cap0 n : Nat) (l : List Int) (w : World) (hb : Is w a0 l) (hn : n = l.length) (hm : n ≤ 9223372036854775807) :
    Calls Try.prog 3 #[.slice a0 n cap0] w (Tells (.bool true) w) := by
  have HT : Aside (Is w a0 l ∧ n = l.length) := ⟨hb, hn⟩
  have KB : ∀ W, Calls Try.prog 4 #[.int .i64 1024] W (Begun 1024 W) := fun W => begin_run 1024 W (by omega) (by omega)
  have KB := Lib.hid KB
  clear hb hn
  have HD : (decide (200 < (n : Int)) = true ∨ decide (200 < (n : Int)) = false) := by cases decide (200 < (n : Int)) <;> simp
  go_enter Try.func3, Try.ntmps3
  go_wp2_with fail
  refine (KB.out _).mono ?_
  rintro _ w1 ⟨e, b, g, rfl, h1⟩
  have H1 : Aside (Eb w w1 e b g 1024 [] []) := h1
  clear h1
  go_wp2_with fail
  refine (KB.out _).mono ?_
  rintro _ w2 ⟨e', b', g', rfl, h2⟩
  have H2 : Aside (Pair w w2 1024 e b g [] [] e' b' g' [] []) := Pair.mk' H1.out h2
  clear h2 H1 KB
  go_wp2_with fail
  refine (alive_run w2).mono ?_
  rintro _ w3 ⟨rfl, s3⟩
  have H3 : Aside (Pair w w3 1024 e b g [] [] e' b' g' [] []) := H2.out.stays s3
  clear H2 s3
  rcases HD with hd | hd
  · go_wp2_with fail
    refine (alive_run w3).mono ?_
    rintro _ w4 ⟨rfl, s4⟩
    have H4 : Aside (Stp [] w [] w4) := H3.out.one.stp.trans s4
    clear H3 s4
    go_wp2
    go_ret
    exact ⟨rfl, H4.out⟩
  have hn2 : n ≤ 200 := by have := of_decide_eq_false hd; omega
  go_wp2_with fail
  go_loopg [7, 45] n (fun gk v7 vi wr => ∃ (i : Nat) (ao : Option Addr) (no co : Nat), vi = .int .i64 (i : Int) ∧ v7 = .slice ao no co ∧ i ≤ n ∧ n - i ≤ gk ∧ Aside (Stp [] w3 [] wr ∧ OwnI wr w3.heap.size (.slice ao no co) (shw (l.take i))))
  case atStart => exact ⟨0, none, 0, 0, rfl, rfl, by omega, by omega, Stp.refl _ _, World.ownsRow_nil _ _ _ _⟩
  case round =>
    obtain ⟨i, ao, no, co, rfl, rfl, hi, hg, HS⟩ := hrel
    by_cases hlt : i < n
    · have hltz : (i : Int) < (n : Int) := by omega
      have hil : i < l.length := by rw [← HT.out.2]; exact hlt
      obtain ⟨ab, off, rfl, c0⟩ := HT.out.1.at (H3.out.one.stp.trans HS.out.1) hil
      have hst := shw_take hil
      have hsl : (shw (l.take i)).length ≤ 200 := by have := shw_len (l.take i); simp at this; omega
      have HX := Lib.hid (And.intro hst (And.intro hlt hsl))
      have KP := Lib.hid (fun W => U.pr_any (l[i]!) W)
      generalize l[i]! = x at *
      clear hst hil hsl
      cases hp : U.prB x with
      | true =>
        rw [hp] at KP HX
        clear hp
        go_wp2_with fail
        refine (KP.out _).mono ?_
        rintro _ w4 ⟨rfl, rfl⟩
        go_wp2_with (first
          | (at_builtin
             refine wpList_appI rfl (.tmp 51) (.tmp 53) rfl w3.heap.size (.slice ao no co) (shw (l.take i)) rfl (World.ownsRow.alloc HS.out.2 _) ⟨w4.heap.size, 0, none⟩ 1 [x] 1 rfl rfl (one_int w4 x) (by have := HX.out.2.2; simp; omega) (by have := HS.out.1.size; rw [World.size_alloc]; omega) ?_
             intro v5 w5 ho5 hg5
             have H5 : Aside (Stp [] w3 [] w5 ∧ OwnI w5 w3.heap.size v5 (shw (l.take i) ++ [x])) := ⟨(HS.out.1.trans (Stp.alloc [] w4 _)).app hg5 (fun k hk => (World.ownsRow.lt HS.out.2 k hk).1), ho5⟩
             clear ho5 hg5))
        go_roundg (n - (i + 1))
        case measure => have := HX.out.2.1; omega
        case rel =>
          obtain ⟨a6, c6, e6⟩ := H5.out.2.slice
          refine ⟨i + 1, a6, _, c6, by go_num, e6, by have := HX.out.2.1; omega, by omega, H5.out.1, ?_⟩
          rw [HX.out.1, ← e6]
          simpa using H5.out.2
      | false =>
        rw [hp] at KP HX
        clear hp
        go_wp2_with fail
        refine (KP.out _).mono ?_
        rintro _ w4 ⟨rfl, rfl⟩
        go_wp2
        go_roundg (n - (i + 1))
        case measure => have := HX.out.2.1; omega
        case rel =>
          refine ⟨i + 1, ao, no, co, by go_num, rfl, by have := HX.out.2.1; omega, by omega, HS.out.1, ?_⟩
          rw [HX.out.1]
          simpa using HS.out.2
    · have hltz : ¬ (i : Int) < (n : Int) := by omega
      obtain rfl : i = n := by omega
      have H4 : Aside (Pair w wr 1024 e b g [] [] e' b' g' [] [] ∧ OwnI wr w3.heap.size (.slice ao no co) (shw l)) := ⟨H3.out.stays HS.out.1, by
        have := HS.out.2
        rw [List.take_of_length_le (by rw [HT.out.2]; exact Nat.le_refl _)] at this
        exact this⟩
      clear HS
      have hL1 := shw_len l
      have hpr := shw_pr (l := l)
      generalize shw l = L at *
      have hX := nat_prB hpr
      have hna := fun (k : Nat) (hk : k < L.length) => nat_at hpr hk
      have hXl : (nat L).length = L.length := by simp [nat]
      generalize nat L = X at *
      have hnl : no = L.length := by
        obtain ⟨a7, c7, e7⟩ := H4.out.2.slice
        injection e7
      have hl2 : L.length ≤ 200 := by have := HT.out.2; omega
      have HX := Lib.hid (And.intro hX (And.intro hna (And.intro hXl (And.intro hnl hl2))))
      have hno : no ≤ 200 := by omega
      clear hX hna hXl hnl hl2 hL1 hpr
      go_wp2_with fail
      go_loopg [10, 11, 58] no (fun gk v10 v11 vi wr => ∃ k : Nat, vi = .int .i64 (k : Int) ∧ k ≤ no ∧ no - k ≤ gk ∧ v10 = .string (st (fl (X.take k))) ∧ v11 = .string (st (fl (X.take k).reverse)) ∧
        Aside (OwnI wr w3.heap.size (.slice ao no co) L ∧ ∃ A' B', Pair w wr 1024 e b g (X.take k) [] e' b' g' A' B' ∧ A' ++ B' = (X.take k).reverse))
      case atStart => exact ⟨0, rfl, Nat.zero_le _, by omega, rfl, rfl, H4.out.2, [], [], H4.out.1, rfl⟩
      case round =>
        obtain ⟨k, rfl, hk, hg2, rfl, rfl, HS⟩ := hrel
        obtain ⟨A', B', hAB⟩ : ∃ A' B', Pair w wr 1024 e b g (X.take k) [] e' b' g' A' B' ∧ A' ++ B' = (X.take k).reverse := HS.out.2
        have HAB := Lib.hid hAB
        clear hAB
        by_cases hlt : k < no
        · have hltz : (k : Int) < (no : Int) := by omega
          have hkl : k < L.length := by have := HX.out.2.2.2.1; omega
          have hkx : k < X.length := by have := HX.out.2.2.1; omega
          obtain ⟨hq8, ab, e8, c0⟩ := HS.out.1.cell hkl
          clear hq8
          subst e8
          have hna := HX.out.2.1 k hkl
          have hpx : U.prB ((X[k]! : Nat) : Int) = true := HX.out.1 _ (by rw [getElem!_pos X k hkx]; exact List.getElem_mem hkx)
          have htk := take_snoc hkx
          have hfl : (fl (X.take k)).length ≤ 796 := by
            have h1 := fl_len_le (X.take k)
            have h2 := HX.out.2.2.2.2
            have h3 := HX.out.2.2.1
            simp at h1
            omega
          rw [hna] at c0
          have HK := Lib.hid (And.intro hpx (And.intro htk (And.intro hfl hlt)))
          generalize X[k]! = x at *
          clear hna hkl hkx hpx htk hfl hlt
          have hx1 := (pr_ch HK.out.1).2
          have KU := Lib.hid (fun W => U.rput_any x W hx1)
          clear hx1
          go_wp2_with fail
          refine (KU.out _).mono ?_
          rintro _ w5 ⟨v5, rfl, ho5, hb5⟩
          have ho5 := own_of_U ho5 (U.enc_lt x (pr_ch HK.out.1).2)
          rw [show (U.enc x).map UInt8.ofNat = enc8 x from rfl] at ho5
          obtain ⟨a5, c5, rfl, hbt5, _, _, _⟩ := ho5.bts
          have cv := conv_bts c5 (enc8 x).length hbt5 rfl
          have s5 := Stp.of_below hb5
          have H5 : Aside (OwnI w5 w3.heap.size (.slice (some ⟨ab, 0, none⟩) no co) L ∧ Pair w w5 1024 e b g (X.take k) [] e' b' g' A' B') := ⟨HS.out.1.other s5 (fun k _ h => by cases h), HAB.out.1.stays s5⟩
          have hab : w3.heap.size ≤ ab ∧ ab < w5.heap.size := by
            have := World.ownsRow.lt H5.out.1 ab rfl
            exact this
          have HAx := Lib.hid hab
          clear ho5 hb5 hbt5 s5 hab KU
          have KD := do_eb H5.out.2.one 0 (x : Int) (by decide)
          rw [do_char HK.out.1 (by rw [List.append_nil]; have := HK.out.2.2.1; omega)] at KD
          have KD := Lib.hid KD
          have r1 : ¬ 9223372036854775807 < (st (fl (X.take k))).size + (st (enc8 x)).size := by
            have h1 := HK.out.2.2.1
            have h2 := (enc8_len x).2
            rw [st_size, st_size]
            omega
          have r2 : ¬ 9223372036854775807 < (st (enc8 x)).size + (st (fl (X.take k).reverse)).size := by
            have h1 := fl_len_le (X.take k).reverse
            have h2 := HX.out.2.2.2.2
            have h3 := HX.out.2.2.1
            have h4 := (enc8_len x).2
            rw [st_size, st_size]
            simp at h1
            omega
          generalize (enc8 x).length = xl at *
          go_wp2_with fail
          refine (KD.out _ (Stp.refl _ _)).mono ?_
          rintro _ w6 ⟨rfl, h6, s6⟩
          have hne : ∀ F : List Nat, (∀ k ∈ F, k < w3.heap.size) → ∀ k, (Value.slice (some ⟨ab, 0, none⟩) no co).ownBlock = some k → k ∉ F := fun F hF k hk hk2 => by
            have := hF k hk2
            have h2 := HAx.out.1
            obtain rfl : ab = k := by simpa [Value.ownBlock] using hk
            omega
          have HNE := Lib.hid hne
          have hsz : ∀ k ∈ [e, b, g, e', b', g'], k < w3.heap.size := fun k hk => by
            have h1 := H3.out.one.bu.lt
            have h2 := H3.out.two.bu.lt
            simp at hk
            omega
          have HSZ := Lib.hid hsz
          have H6 : Aside (OwnI w6 w3.heap.size (.slice (some ⟨ab, 0, none⟩) no co) L ∧ Pair w w6 1024 e b g (X.take k ++ [x]) [] e' b' g' A' B') := ⟨H5.out.1.other s6 (hne _ (fun k hk => hsz k (by simp at hk ⊢; omega))), H5.out.2.act1 h6 s6⟩
          clear h6 s6 hne hsz KD
          have KD := do_eb H6.out.2.two 6 0 (by decide)
          have KD : ∀ W', Stp [] w6 [] W' → Calls Try.prog 8 #[.pointer (some ⟨e', 0, none⟩), .agg #[.int .i64 6, .int .i64 0]] W' fun en w' => en = .returned (.tuple #[.bool (chg ⟨0, [], A' ++ B'⟩ A' B'), .int .i64 0]) ∧ Eb w w' e' b' g' 1024 [] (A' ++ B') ∧ Stp [e', b', g'] w6 [e', b', g'] w' := KD
          have KD := Lib.hid KD
          go_wp2_with fail
          refine (KD.out _ (Stp.refl _ _)).mono ?_
          rintro _ w7 ⟨rfl, h7, s7⟩
          have H7 : Aside (OwnI w7 w3.heap.size (.slice (some ⟨ab, 0, none⟩) no co) L ∧ Pair w w7 1024 e b g (X.take k ++ [x]) [] e' b' g' [] (A' ++ B')) := ⟨H6.out.1.other s7 (HNE.out _ (fun k hk => HSZ.out k (by simp at hk ⊢; omega))), H6.out.2.act2 h7 s7⟩
          clear h7 s7 KD
          have KD := do_eb H7.out.2.two 0 (x : Int) (by decide)
          rw [do_char HK.out.1 (by
            rw [List.nil_append, HAB.out.2]
            have h1 := fl_len_le (X.take k).reverse
            have h2 := HX.out.2.2.2.2
            have h3 := HX.out.2.2.1
            simp at h1
            omega)] at KD
          have KD := Lib.hid KD
          go_wp2_with fail
          refine (KD.out _ (Stp.refl _ _)).mono ?_
          rintro _ w8 ⟨rfl, h8, s8⟩
          have H8 : Aside (OwnI w8 w3.heap.size (.slice (some ⟨ab, 0, none⟩) no co) L ∧ Pair w w8 1024 e b g (X.take k ++ [x]) [] e' b' g' [x] (A' ++ B')) := ⟨H7.out.1.other s8 (HNE.out _ (fun k hk => HSZ.out k (by simp at hk ⊢; omega))), H7.out.2.act2 h8 s8⟩
          clear h8 s8 KD
          go_wp2
          go_roundg (no - (k + 1))
          case measure => have := HK.out.2.2.2; omega
          case rel =>
            refine ⟨k + 1, by go_num, by have := HK.out.2.2.2; omega, by omega, ?_, ?_, H8.out.1, [x], A' ++ B', ?_, ?_⟩
            · rw [HK.out.2.1, fl_app, fl_one, ← st_append]
            · rw [HK.out.2.1, List.reverse_append, List.reverse_singleton, fl_app, fl_one, ← st_append]
            · rw [HK.out.2.1]
              exact H8.out.2
            · rw [HK.out.2.1, List.reverse_append, List.reverse_singleton, HAB.out.2]
        · have hltz : ¬ (k : Int) < (no : Int) := by omega
          obtain rfl : k = no := by omega
          have hXk : X.take k = X := List.take_of_length_le (by have := HX.out.2.2; omega)
          have H5 : Aside (Pair w wr 1024 e b g X [] e' b' g' A' B' ∧ A' ++ B' = X.reverse) := by
            have := HAB.out
            rw [hXk] at this
            exact this
          rw [hXk]
          have HX2 := Lib.hid (And.intro HX.out.1 (show X.length = k by have := HX.out.2.2; omega))
          have hk200 : k ≤ 200 := by have := HX.out.2.2; omega
          clear HS HAB hXk HX H4
          have KT := text_run H5.out.1.one.bu
          rw [List.append_nil] at KT
          have KT := Lib.hid KT
          go_wp2_with fail
          refine KT.out.mono ?_
          rintro _ w5 ⟨rfl, s5⟩
          have H6 : Aside (Pair w w5 1024 e b g X [] e' b' g' A' B') := H5.out.1.stays s5
          have KT2 := text_run H6.out.two.bu
          rw [H5.out.2] at KT2
          have KT2 := Lib.hid KT2
          clear s5 KT
          have ht := beq_self_eq_true ((st (fl X)).toList)
          go_wp2_with fail
          refine KT2.out.mono ?_
          rintro _ w6 ⟨rfl, s6⟩
          have H7 : Aside (Pair w w6 1024 e b g X [] e' b' g' A' B') := H6.out.stays s6
          have KA := bat_run H7.out.one.bu
          rw [HX2.out.2] at KA
          have KA := Lib.hid KA
          clear s6 KT2 H6 H5
          go_wp2_with fail
          refine KA.out.mono ?_
          rintro _ _ ⟨rfl, rfl⟩
          go_wp2_with fail
          rename_i wz
          go_loopg [102] k (fun gk vi wr => ∃ j : Nat, vi = .int .i64 (j : Int) ∧ j ≤ k ∧ k - j ≤ gk ∧ Aside (Eb w wr e b g 1024 (X.take (k - j)) []))
          case atStart => exact ⟨0, rfl, Nat.zero_le _, by omega, by rw [Nat.sub_zero, List.take_of_length_le (by rw [HX2.out.2]; exact Nat.le_refl _)]; exact H7.out.one⟩
          case round =>
            obtain ⟨j, rfl, hj, hg3, HS⟩ := hrel
            by_cases hlt : j < k
            · have hltz : (j : Int) < (k : Int) := by omega
              have hm : (X.take (k - j)).dropLast = X.take (k - (j + 1)) := by
                rw [List.dropLast_eq_take, List.length_take, List.take_take]
                congr 1
                have := HX2.out.2
                omega
              have KD := do_eb HS.out 2 0 (by decide)
              have hc : chg (doS 1024 2 0 (X.take (k - j)) []) (X.take (k - j)) [] = true := by
                have := HX2.out.2
                show (decide ((X.take (k - j)).dropLast.length ≠ (X.take (k - j)).length) || _) = true
                rw [hm, List.length_take, List.length_take]
                have : decide (min (k - (j + 1)) X.length ≠ min (k - j) X.length) = true := decide_eq_true (by omega)
                rw [this]
                rfl
              rw [hc] at KD
              have KD : ∀ W', Stp [] wr [] W' → Calls Try.prog 8 #[.pointer (some ⟨e, 0, none⟩), .agg #[.int .i64 2, .int .i64 0]] W' fun en w' => en = .returned (.tuple #[.bool true, .int .i64 0]) ∧ Eb w w' e b g 1024 (X.take (k - j)).dropLast [] ∧ Stp [e, b, g] wr [e, b, g] w' := KD
              rw [hm] at KD
              have KD := Lib.hid KD
              have HJ : Aside (j < k) := hlt
              clear hm hc hlt
              go_wp2_with fail
              refine (KD.out _ (Stp.refl _ _)).mono ?_
              rintro _ w8 ⟨rfl, h8, s8⟩
              have H8 : Aside (Eb w w8 e b g 1024 (X.take (k - (j + 1))) []) := h8
              clear h8 s8 KD
              go_wp2
              go_roundg (k - (j + 1))
              case measure => have := HJ.out; omega
              case rel => exact ⟨j + 1, by go_num, by have := HJ.out; omega, by omega, H8.out⟩
            · have hltz : ¬ (j : Int) < (k : Int) := by omega
              obtain rfl : j = k := by omega
              have H8 : Aside (Eb w wr e b g 1024 [] []) := by
                have := HS.out
                rw [Nat.sub_self, List.take_zero] at this
                exact this
              have KD : ∀ W', Stp [] wr [] W' → Calls Try.prog 8 #[.pointer (some ⟨e, 0, none⟩), .agg #[.int .i64 2, .int .i64 0]] W' fun en w' => en = .returned (.tuple #[.bool false, .int .i64 0]) ∧ Eb w w' e b g 1024 [] [] ∧ Stp [e, b, g] wr [e, b, g] w' := do_eb H8.out 2 0 (by decide)
              have KD := Lib.hid KD
              clear HS
              go_wp2_with fail
              refine (KD.out _ (Stp.refl _ _)).mono ?_
              rintro _ w9 ⟨rfl, h9, s9⟩
              have H9 : Aside (Eb w w9 e b g 1024 [] []) := h9
              have KL : Calls Try.prog 11 #[.pointer (some ⟨e, 0, none⟩)] w9 (Gives (.int .i64 0) w9) := blen_run h9.bu
              have KL := Lib.hid KL
              clear h9 s9 KD H8
              go_wp2_with fail
              refine KL.out.mono ?_
              rintro _ _ ⟨rfl, rfl⟩
              go_wp2
              go_ret
              exact ⟨rfl, H9.out.stp⟩
end Go.Proofs.Ytblmpaplggnajaa
