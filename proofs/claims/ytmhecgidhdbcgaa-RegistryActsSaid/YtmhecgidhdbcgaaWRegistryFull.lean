/-
  RegistryFull, walked.
-/
import Derived.Test.YtmhecgidhdbcgaaInts
namespace Go.Proofs.Ytmhecgidhdbcgaa
open Go.RowKit Go.Lib Go.Maps
set_option linter.unusedVariables false

/-- The name of the arena k. -/
def nmF (k : Nat) : ByteArray := ⟨#[120]⟩ ++ str [ltr (k % 26), ltr (k / 26)]
theorem nmF_size (k : Nat) : (nmF k).size = 3 := by
  unfold nmF
  rw [app_size]
  rfl
theorem nmF_inj {i j : Nat} (hi : i < 100) (hj : j < 100) (h : nmF i = nmF j) : i = j := by
  have h1 := app_inj h
  simp only [List.cons.injEq, and_true] at h1
  have h2 := ltr_inj (by omega) (by omega) h1.1
  have h3 := ltr_inj (by omega) (by omega) h1.2
  omega
theorem nmF_le (k : Nat) : (nmF k).size ≤ maxLen := by
  rw [nmF_size]
  decide
theorem nmF_ne (k : Nat) : nmF k ≠ ⟨#[]⟩ := fun e => by
  have := congrArg ByteArray.size e
  rw [nmF_size] at this
  cases this
theorem refuse_full {L : List Ent} {s : ByteArray} (h1 : s ≠ ⟨#[]⟩) (h2 : ∀ x ∈ L, x.name ≠ s) (h3 : 16 ≤ L.length) : refuse L s = 4 := by
  unfold refuse
  rw [if_neg h1, if_neg (by rw [Bool.not_eq_true]; exact List.any_eq_false.2 (fun x hx => by simpa using h2 x hx)), if_pos h3]
/-- How many cells each has. -/
def szs (L : List Ent) : List Int := L.map (fun x => (x.N : Int))
theorem szs_length (L : List Ent) : (szs L).length = L.length := List.length_map _
theorem szs_snoc (L : List Ent) (e : Ent) : szs (L ++ [e]) = szs L ++ [(e.N : Int)] := by simp [szs]
theorem szs_get (L : List Ent) {j : Nat} (h : j < L.length) : (szs L)[j]! = ((L[j]).N : Int) := by
  rw [getElem!_pos _ j (by rw [szs_length]; exact h)]
  simp [szs]
/-- How many cells the first ones have. -/
def sumT (L : List Ent) (j : Nat) : Nat := ((L.take j).map Ent.N).sum
theorem sumT_succ (L : List Ent) {j : Nat} (h : j < L.length) : sumT L (j + 1) = sumT L j + (L[j]).N := by
  unfold sumT
  rw [List.take_succ_eq_append_getElem h, List.map_append, List.sum_append]
  simp
theorem sumT_le (L : List Ent) (j : Nat) (h : ∀ x ∈ L, x.N ≤ 4096) : sumT L j ≤ j * 4096 := by
  unfold sumT
  refine Nat.le_trans (sum_le Ent.N (L.take j) (fun y hy => h y (List.mem_of_mem_take hy))) ?_
  rw [List.length_take]
  exact Nat.mul_le_mul_right _ (Nat.min_le_left _ _)
theorem sumT_all (L : List Ent) : sumT L L.length = (L.map Ent.N).sum := by
  unfold sumT
  rw [List.take_length]
/-- What is there behind k rounds. -/
structure Fl (w wr : World) (r k : Nat) (vm : Value) (L : List Ent) : Prop where
  ex : ∃ F m v D, Rx wr F r m v D L ∧ Stp [] w F wr
  row : OwnI wr w.heap.size vm (szs L)
  nil : ∀ x ∈ L, x.l = []
  name : ∀ x ∈ L, ∃ j, j < k ∧ x.name = nmF j
theorem stp_over {w W W' : World} {F G G' : List Nat} (h : Stp [] w F W) (hs : Stp G W G' W') (hG : ∀ k ∈ G, w.heap.size ≤ k) : Stp [] w F W' :=
  ⟨hs.os.trans h.os, hs.tape.trans h.tape, hs.output.trans h.output, Nat.le_trans h.size hs.size, fun k hk hF => (hs.block k (Nat.lt_of_lt_of_le hk h.size) (fun g => by have := hG k g; omega)).trans (h.block k hk hF), h.foot⟩
theorem conv_two (W : World) (x y : UInt8) (z t : Int) (hz : z = (x.toNat : Int)) (ht : t = (y.toNat : Int)) : (convert 47 9 (.slice (some ⟨W.heap.size, 0, none⟩) 2 2)).run Try.prog (W.alloc (.cells #[.int .u8 z, .int .u8 t] 5)) = .ok (.string (str [x, y])) (W.alloc (.cells #[.int .u8 z, .int .u8 t] 5)) := by
  subst hz ht
  exact conv_bts 2 2 (Blk.bts (C := [x, y]) (by unfold Blk; rw [heap_alloc_new]; rfl)) rfl

set_option maxHeartbeats 4000000 in
set_option maxRecDepth 100000 in
theorem full_at (a0 : Option Addr) (cap0 n : Nat) (l : List Int) (w : World) (hU : Is w a0 l) (hn : l.length = n) (h60 : n ≤ 60) :
    Calls Try.prog 7 #[.slice a0 n cap0] w (Truth w) := by
  have HU := Lib.hid (And.intro hU hn)
  have h60z : ¬ (60 : Int) < (n : Int) := by omega
  clear hU hn
  go_enter Try.func7, Try.ntmps7
  go_wp2_with fail
  refine (newr_run _).mono ?_
  rintro _ w1 ⟨r, F1, rfl, hR1, st1⟩
  have H1 := Lib.hid (And.intro hR1 st1)
  clear hR1 st1
  go_wp2_with fail
  refine (aliver_run _).mono ?_
  rintro _ w2 ⟨rfl, st2⟩
  have H2 : Aside (Fl w (w2.alloc (.cells #[] 3)) r 0 (.slice (some ⟨w2.heap.size, 0, none⟩) 0 0) []) := by
    obtain ⟨⟨m, v, D, X⟩, st⟩ := H1.out
    have st3 := st2.trans (Stp.alloc [] w2 (.cells #[] 3))
    exact ⟨⟨F1, m, v, D, X.stays st3, st.trans (st3.widen (fun k h => .inl h))⟩, (OwnI.new w2).mono (Nat.le_trans st.size st2.size), (fun x h => by cases h), (fun x h => by cases h)⟩
  clear H1 st2
  go_wp2
  generalize w2.alloc (.cells #[] 3) = w3 at *
  generalize w2.heap.size = p2 at *
  go_loopg [4, 28] n (fun gk vm vi wr => ∃ (k : Nat) (L : List Ent), vi = .int .i64 (k : Int) ∧ k ≤ n ∧ n - k ≤ gk ∧ Aside (Fl w wr r k vm L))
  case atStart => exact ⟨0, [], rfl, by omega, by omega, H2⟩
  case round =>
    clear H2
    obtain ⟨k, L, rfl, hk, hg, HS⟩ := hrel
    by_cases hlt : k < n
    · have hltz : (k : Int) < (n : Int) := by omega
      obtain ⟨⟨F, m, v, D, X, st⟩, hrow, hnil, hnm⟩ := HS.out
      obtain ⟨ab, off, rfl, hab, hcs⟩ := HU.out.1 (by intro e; have := HU.out.2; rw [e] at this; simp at this; omega)
      obtain ⟨z, hz⟩ : ∃ z, z = l[k]! := ⟨_, rfl⟩
      have cz := hcs k (by have := HU.out.2; omega)
      rw [← hz] at cz
      have c1 : wr.cell? ⟨ab, off + k, none⟩ = some (.int .i64 z) := (st.cell (a := ⟨ab, off + k, none⟩) hab (fun h => by cases h)).trans cz
      have hk60 : k < 60 := by omega
      have cvn := conv_two wr (ltr (k % 26)) (ltr (k / 26)) (97 + (k : Int) % 26) (97 + (k : Int) / 26) (by rw [ltr_val (by omega)]; omega) (by rw [ltr_val (by omega)]; omega)
      obtain ⟨o2, ho2⟩ : ∃ o2, o2 = Obj.cells #[.int .u8 (97 + (k : Int) % 26), .int .u8 (97 + (k : Int) / 26)] 5 := ⟨_, rfl⟩
      have e0 : nmF k = ⟨#[120]⟩ ++ str [ltr (k % 26), ltr (k / 26)] := rfl
      have hno : ∀ e ∈ L, e.name ≠ nmF k := fun e he q => by
        obtain ⟨j, hj, hj2⟩ := hnm e he
        have := nmF_inj (i := j) (j := k) (by omega) (by omega) (hj2.symm.trans q)
        omega
      have hfl : Fl w (wr.alloc o2) r (k + 1) u4 L := ⟨⟨F, m, v, D, X.stays (Stp.alloc [] wr o2), st.trans (Stp.alloc F wr o2)⟩, hrow.other (Stp.alloc [] wr o2) (fun _ _ h => by cases h), hnil, fun x hx => by
        obtain ⟨j, hj, e⟩ := hnm x hx
        exact ⟨j, by omega, e⟩⟩
      have HX := Lib.hid (And.intro (X.exact.stays (Stp.alloc [] wr o2)) (And.intro ((X.exact_stp st).trans (Stp.alloc _ wr o2)) (And.intro hno hfl)))
      obtain ⟨am, cm, hvm⟩ := hrow.slice
      rw [szs_length] at hvm
      obtain ⟨tk, htk⟩ : ∃ tk, tk = str [ltr (k % 26), ltr (k / 26)] := ⟨_, rfl⟩
      have hts : tk.size = 2 := by rw [htk, str_size]; rfl
      have hadd1 : ¬ 9223372036854775807 < 1 + tk.size := by omega
      have hadd2 : ¬ 9223372036854775807 < (⟨#[120]⟩ : ByteArray).size + tk.size := by
        have : (⟨#[120]⟩ : ByteArray).size = 1 := rfl
        omega
      rw [← htk] at cvn e0
      rw [← ho2] at cvn
      have HO := Lib.hid ho2
      have HT := Lib.hid e0
      have hl16 := X.top
      have hk60 : k < 60 := by omega
      clear cz hcs hz HS X st hnm hnil hrow hno hfl htk hts hab e0
      subst hvm
      by_cases hfull : L.length = 16
      · have K1 := Lib.hid (make_no HX.out.1 (nmF k) (nmF_le k) z 4 (refuse_full (nmF_ne k) HX.out.2.2.1 (by omega)) (by decide))
        rw [HT.out] at K1
        have hfz : ((L.length : Int) == 16) = true := by rw [hfull]; rfl
        subst ho2
        go_wp2_with fail
        refine K1.out.mono ?_
        rintro _ w2 ⟨rfl, hw2⟩
        have HF : Aside (Fl w w2 r (k + 1) (.slice am L.length cm) L) := by rw [hw2]; exact HX.out.2.2.2
        clear K1 cvn hadd1 hadd2 c1 HX hw2 HO HT
        go_wp2
        go_roundg (n - (k + 1))
        case measure => omega
        case rel => exact ⟨k + 1, L, by go_num, by omega, by omega, by have := HF.out; rw [hfull] at this; exact this⟩
      · have hfz : ((L.length : Int) == 16) = false := beq_eq_false_iff_ne.2 (by omega)
        by_cases hz1 : z < 1
        · have K1 := Lib.hid (make_out HX.out.1 (nmF k) (nmF_le k) z (refuse_new (nmF_ne k) HX.out.2.2.1 (by omega)) (.inl hz1))
          rw [HT.out] at K1
          subst ho2
          go_wp2_with fail
          refine K1.out.mono ?_
          rintro _ w2 ⟨rfl, hw2⟩
          have HF : Aside (Fl w w2 r (k + 1) (.slice am L.length cm) L) := by rw [hw2]; exact HX.out.2.2.2
          clear K1 cvn hadd1 hadd2 c1 HX hw2 HO HT
          go_wp2
          go_roundg (n - (k + 1))
          case measure => omega
          case rel => exact ⟨k + 1, L, by go_num, by omega, by omega, HF⟩
        · by_cases hz2 : 4096 < z
          · have K1 := Lib.hid (make_out HX.out.1 (nmF k) (nmF_le k) z (refuse_new (nmF_ne k) HX.out.2.2.1 (by omega)) (.inr hz2))
            rw [HT.out] at K1
            subst ho2
            go_wp2_with fail
            refine K1.out.mono ?_
            rintro _ w2 ⟨rfl, hw2⟩
            have HF : Aside (Fl w w2 r (k + 1) (.slice am L.length cm) L) := by rw [hw2]; exact HX.out.2.2.2
            clear K1 cvn hadd1 hadd2 c1 HX hw2 HO HT
            go_wp2
            go_roundg (n - (k + 1))
            case measure => omega
            case rel => exact ⟨k + 1, L, by go_num, by omega, by omega, HF⟩
          · obtain ⟨nz, rfl⟩ : ∃ nz : Nat, z = (nz : Int) := ⟨z.toNat, by omega⟩
            have K1 := Lib.hid (make_at HX.out.1 (nmF k) (nmF_le k) (nz : Int) nz rfl (refuse_new (nmF_ne k) HX.out.2.2.1 (by omega)) (by omega) (by omega))
            have HW : Aside (∃ wa, wa = wr.alloc o2) := ⟨_, rfl⟩
            obtain ⟨wa, hwa⟩ := HW.out
            rw [HT.out] at K1
            rw [← hwa] at K1 HX
            rw [ho2] at hwa cvn
            rw [← hwa] at cvn
            have hwa' := hwa.symm
            clear hwa ho2 HW
            have hlt16 : L.length < 16 := by omega
            go_wp2_with fail
            try rw [hwa']
            go_wp2_with fail
            try rw [hwa']
            refine K1.out.mono ?_
            rintro _ w2 ⟨b, g, F2, rfl, ⟨m2, v2, D2, X2⟩, st2, hb, hg⟩
            have hrw := HX.out.2.2.2.row
            have row2 : OwnI w2 w.heap.size (.slice am L.length cm) (szs L) := hrw.other st2 (fun q hq => by
              obtain ⟨cur, hc⟩ := own_obj hrw hq
              exact HX.out.1.foot_ne hc (by decide) (by decide) (by decide) (by decide))
            have H2 := Lib.hid (And.intro X2 (And.intro (HX.out.2.1.trans st2) (And.intro row2 (And.intro HX.out.2.2.2.nil HX.out.2.2.2.name))))
            have K2 := Lib.hid (cap_cl (X2.ars ⟨⟨#[120]⟩ ++ tk, b, g, nz, []⟩ (by simp)))
            have K3 := Lib.hid (len_zero (X2.ars ⟨⟨#[120]⟩ ++ tk, b, g, nz, []⟩ (by simp)))
            simp only at K2 K3
            clear hrw row2 X2 st2 hb hg HX K1 cvn hadd1 hadd2 c1 hwa' HO
            go_wp2_with fail
            refine K2.out.mono ?_
            rintro _ w2 ⟨rfl, rfl⟩
            clear K2
            go_wp2_with fail
            refine K3.out.mono ?_
            rintro _ w2 ⟨rfl, rfl⟩
            clear K3
            have H3f : Aside (∀ v3 w3, OwnI w3 w.heap.size v3 (szs L ++ [(nz : Int)]) → (w2.alloc (.cells #[.int .i64 (nz : Int)] 3)).grownBy w3 (Value.slice am L.length cm).ownBlock → Fl w w3 r (k + 1) v3 (L ++ [⟨nmF k, b, g, nz, []⟩])) := fun v3 w3 ho3 hg3 => by
              obtain ⟨X2, S2, row2, hnil, hnm⟩ := H2.out
              have st3 : Stp ((Value.slice am L.length cm).ownBlock.toList) w2 [] w3 := (Stp.alloc _ w2 _).trans (Stp.of_grown hg3 (fun q e => by rw [e]; simp) (fun _ h => by cases h))
              rw [← HT.out] at X2
              refine ⟨⟨_, m2, v2, D2, X2.exact.other st3 (fun q hq e => ?_), stp_over (X2.exact_stp S2) st3 (fun q hq => (World.ownsRow.lt row2 q (by simpa using hq)).1)⟩, by rw [szs_snoc]; exact ho3, fun x hx => ?_, fun x hx => ?_⟩
              · obtain ⟨cur, hc⟩ := own_obj row2 (k := q) (by simpa using e)
                exact X2.foot_ne hc (by decide) (by decide) (by decide) (by decide) hq
              · rcases List.mem_append.1 hx with hx | hx
                · exact hnil x hx
                · simp at hx
                  rw [hx]
              · rcases List.mem_append.1 hx with hx | hx
                · exact hnm x hx
                · simp at hx
                  rw [hx]
                  exact ⟨k, by omega, rfl⟩
            go_wp2_with (first
              | (at_builtin
                 refine wpList_appI rfl (.tmp 67) (.tmp 69) rfl w.heap.size (.slice am L.length cm) (szs L) rfl (World.ownsRow.alloc H2.out.2.2.1 _) ⟨w2.heap.size, 0, none⟩ 1 [(nz : Int)] 1 rfl rfl (one_int w2 nz) (by rw [szs_length]; simp; omega) (by have := H2.out.2.1.size; rw [World.size_alloc]; omega) ?_
                 intro v3 w3 ho3 hg3
                 have H3 : Aside (Fl w w3 r (k + 1) v3 (L ++ [⟨nmF k, b, g, nz, []⟩])) := H3f.out v3 w3 ho3 hg3
                 clear ho3 hg3))
            clear H2
            go_roundg (n - (k + 1))
            case measure => omega
            case rel => exact ⟨k + 1, _, by go_num, by omega, by omega, H3⟩
    · have hltz : ¬ (k : Int) < (n : Int) := by omega
      obtain rfl : k = n := by omega
      obtain ⟨am, cm, hvm⟩ := HS.out.row.slice
      rw [szs_length] at hvm
      have hl16 : L.length ≤ 16 := by
        obtain ⟨F, m, v, D, X, _⟩ := HS.out.ex
        exact X.top
      have hN : Aside (∀ x ∈ L, x.N ≤ 4096) := by
        obtain ⟨F, m, v, D, X, _⟩ := HS.out.ex
        exact fun x hx => (X.ars x hx).top
      subst hvm
      generalize wr = wz at *
      go_wp2
      go_loopg [9, 97] L.length (fun gk vs vi wx => ∃ j : Nat, vs = .int .i64 (sumT L j : Nat) ∧ vi = .int .i64 (j : Int) ∧ j ≤ L.length ∧ L.length - j ≤ gk ∧ Aside (wx = wz))
      case atStart => exact ⟨0, rfl, rfl, by omega, by omega, rfl⟩
      case round =>
        obtain ⟨j, rfl, rfl, hj, hgj, HJ⟩ := hrel
        obtain rfl : wr = wz := HJ.out
        by_cases hlj : j < L.length
        · have hljz : (j : Int) < (L.length : Int) := by omega
          obtain ⟨hqq, gm, rfl, hc1⟩ := HS.out.row.cell (i := j) (by rw [szs_length]; exact hlj)
          rw [szs_get L hlj] at hc1
          have hsum := Lib.hid (sumT_succ L hlj)
          have hle := sumT_le L j hN.out
          have hle2 := hN.out _ (List.getElem_mem hlj)
          clear hqq
          generalize sumT L j = T at *
          generalize (L[j]).N = nn at *
          have hb1 : (T : Int) ≤ 1000000 := by omega
          have hb2 : (nn : Int) ≤ 1000000 := by omega
          go_wp2
          go_roundg (L.length - (j + 1))
          case measure => omega
          case rel => exact ⟨j + 1, by rw [hsum.out]; go_num, by go_num, by omega, by omega, rfl⟩
        · have hljz : ¬ (j : Int) < (L.length : Int) := by omega
          obtain rfl : j = L.length := by omega
          rw [sumT_all]
          obtain ⟨⟨F, m, v, D, X, st⟩, hrow, hnil, hnm⟩ := HS.out
          have hz : L.all (fun x => zeros x.l) = true := List.all_eq_true.2 (fun x hx => by rw [hnil x hx]; rfl)
          have K1 := Lib.hid (names_run X)
          have HX := Lib.hid (And.intro X (And.intro st hz))
          generalize hT : (L.map Ent.N).sum = T at *
          have HT := Lib.hid hT
          clear X st hrow hnil hnm HS hz hN hT
          go_wp2_with fail
          refine K1.out.mono ?_
          rintro _ w5 ⟨v5, rfl, ho5, st5⟩
          obtain ⟨a5, c5, hv5, _⟩ := ho5.form
          rw [List.length_map] at hv5
          have H5 := Lib.hid (And.intro (HX.out.1.stays st5) (HX.out.2.1.none.trans st5))
          have K2 := Lib.hid (cells_at H5.out.1 (T : Int) (by rw [HT.out]))
          clear K1 ho5 st5
          subst hv5
          go_wp2_with fail
          refine K2.out.mono ?_
          rintro _ w6 ⟨rfl, st6⟩
          have H6 := Lib.hid (And.intro (H5.out.1.stays st6) (H5.out.2.trans st6))
          have K3 := Lib.hid (zeror_run H6.out.1)
          rw [HX.out.2.2] at K3
          clear K2 st6 H5
          go_wp2_with fail
          refine K3.out.mono ?_
          rintro _ w7 ⟨rfl, st7⟩
          have H7 := Lib.hid (And.intro (H6.out.1.stays st7) (H6.out.2.trans st7))
          have K4 := Lib.hid (cleanr_run H7.out.1)
          clear K3 st7 H6
          go_wp2_with fail
          refine K4.out.mono ?_
          rintro _ w8 ⟨rfl, st8⟩
          have H8 := Lib.hid (H7.out.2.trans st8)
          clear K4 st8 H7
          go_wp2
          go_ret
          exact ⟨rfl, H8.out.under⟩
set_option maxRecDepth 100000 in
theorem full_walk (a0 : Option Addr) (cap0 : Nat) (l : List Int) (w : World) (hU : Is w a0 l) (hn : l.length ≤ 9223372036854775807) :
    Calls Try.prog 7 #[.slice a0 l.length cap0] w (Truth w) := by
  by_cases h60 : l.length ≤ 60
  · exact full_at a0 cap0 l.length l w hU rfl h60
  · have h60z : (60 : Int) < (l.length : Int) := by omega
    generalize l.length = n at *
    clear hU
    go_enter Try.func7, Try.ntmps7
    go_wp2_with fail
    refine (newr_run _).mono ?_
    rintro _ w1 ⟨r, F1, rfl, hR1, st1⟩
    have H1 := Lib.hid st1.none
    clear hR1 st1
    go_wp2_with fail
    refine (aliver_run _).mono ?_
    rintro _ w2 ⟨rfl, st2⟩
    have H2 := Lib.hid (H1.out.trans st2)
    clear st2 H1
    go_wp2_with fail
    refine (aliver_run _).mono ?_
    rintro _ w3 ⟨rfl, st3⟩
    have H3 := Lib.hid (H2.out.trans st3)
    clear st3 H2
    go_wp2
    go_ret
    exact ⟨rfl, H3.out.under⟩
end Go.Proofs.Ytmhecgidhdbcgaa
