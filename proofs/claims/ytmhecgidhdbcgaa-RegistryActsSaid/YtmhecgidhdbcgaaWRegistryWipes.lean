/-
  RegistryWipes, walked.
-/
import Derived.Test.YtmhecgidhdbcgaaArgs
import Derived.Test.YtmhecgidhdbcgaaWRegistryShares
namespace Go.Proofs.Ytmhecgidhdbcgaa
open Go.RowKit Go.Lib Go.Maps
set_option linter.unusedVariables false

/-- The letter a and so on. -/
def ltr (k : Nat) : UInt8 := UInt8.ofNat (97 + k)
theorem ltr_val {k : Nat} (h : k < 100) : (ltr k).toNat = 97 + k := by
  unfold ltr
  rw [UInt8.toNat_ofNat']
  omega
theorem ltr_inj {i j : Nat} (hi : i < 100) (hj : j < 100) (h : ltr i = ltr j) : i = j := by
  have := congrArg UInt8.toNat h
  rw [ltr_val hi, ltr_val hj] at this
  omega
/-- The name of the arena k. -/
def nmI (k : Nat) : ByteArray := ⟨#[110]⟩ ++ str [ltr k]
theorem app_data (s : ByteArray) (l : List UInt8) : (s ++ str l).data.toList = s.data.toList ++ l := by
  rw [ByteArray.data_append, Array.toList_append, str_data]
theorem app_size (s : ByteArray) (l : List UInt8) : (s ++ str l).size = s.size + l.length := by
  rw [ByteArray.size_append, str_size]
theorem app_inj {s : ByteArray} {l m : List UInt8} (h : s ++ str l = s ++ str m) : l = m := by
  have := congrArg (fun x => x.data.toList) h
  simp only [app_data] at this
  exact List.append_cancel_left this
theorem nmI_size (k : Nat) : (nmI k).size = 2 := by
  unfold nmI
  rw [app_size]
  rfl
theorem nmI_inj {i j : Nat} (hi : i < 100) (hj : j < 100) (h : nmI i = nmI j) : i = j := by
  have := app_inj h
  exact ltr_inj hi hj (by simpa using this)
theorem nmI_le (k : Nat) : (nmI k).size ≤ maxLen := by
  rw [nmI_size]
  decide
theorem nmI_ne (k : Nat) : nmI k ≠ ⟨#[]⟩ := fun e => by
  have := congrArg ByteArray.size e
  rw [nmI_size] at this
  cases this
theorem refuse_new {L : List Ent} {s : ByteArray} (h1 : s ≠ ⟨#[]⟩) (h2 : ∀ x ∈ L, x.name ≠ s) (h3 : L.length < 16) : refuse L s = 0 := by
  unfold refuse
  rw [if_neg h1, if_neg (by rw [Bool.not_eq_true]; exact List.any_eq_false.2 (fun x hx => by simpa using h2 x hx)), if_neg (by omega)]
/-- What is there behind k rounds. -/
structure Wp (w wr : World) (r k : Nat) (d : Bool) : Prop where
  ex : ∃ F m v D L, Rx wr F r m v D L ∧ Stp [] w F wr ∧ L.map Ent.name = (List.range k).map nmI ∧ (∀ x ∈ L, x.N = 100) ∧ d = !(L.all (fun x => zeros x.l))
theorem conv_one (W : World) (x : UInt8) (z : Int) (hz : z = (x.toNat : Int)) : (convert 47 9 (.slice (some ⟨W.heap.size, 0, none⟩) 1 1)).run Try.prog (W.alloc (.cells #[.int .u8 z] 5)) = .ok (.string (str [x])) (W.alloc (.cells #[.int .u8 z] 5)) := by
  subst hz
  exact conv_bts 1 1 (Blk.bts (C := [x]) (by unfold Blk; rw [heap_alloc_new]; rfl)) rfl

theorem wipe_zeros (L : List Ent) : (wipe L).all (fun x => zeros x.l) = true := by
  refine List.all_eq_true.2 (fun x hx => ?_)
  obtain ⟨y, _, rfl⟩ := List.mem_map.1 hx
  rfl
theorem len_zero {W : World} {b g N : Nat} (h : Ar W b g N []) : Calls Try.prog 22 #[.pointer (some ⟨b, 0, none⟩)] W (Gives (.int .i64 0) W) := len_cl h
theorem zero_zero {W : World} {b g N : Nat} (h : Ar W b g N []) : Calls Try.prog 23 #[.pointer (some ⟨b, 0, none⟩)] W (Tells (.bool true) W) := (zero_run h).mono (by
  rintro e w' ⟨he, q, rfl⟩
  exact ⟨he, Stp.drewN [] W q⟩)
theorem cell_zero {W : World} {b g N : Nat} (h : Ar W b g N []) (i : Nat) (hi : i < N) : Calls Try.prog 24 #[.pointer (some ⟨b, 0, none⟩), .int .i64 (i : Int)] W (Gives (.tuple #[.int .u8 0, .int .i64 0]) W) := by
  have e : (pad N [])[i]! = 0 := by
    rw [getElem!_pos _ i (by simp [pad]; omega)]
    simp [pad]
  have := cell_run h i hi
  rw [e] at this
  exact this
theorem upd_snoc {L : List Ent} {s : ByteArray} {b g N : Nat} {x : List UInt8} (h : ∀ y ∈ L, y.b ≠ b) : upd (L ++ [⟨s, b, g, N, []⟩]) b x = L ++ [⟨s, b, g, N, x⟩] := by
  unfold upd
  rw [List.map_append]
  congr 1
  · conv => rhs; rw [← List.map_id L]
    refine List.map_congr_left (fun y hy => ?_)
    simp [h y hy]
  · simp

set_option maxHeartbeats 4000000 in
set_option maxRecDepth 100000 in
theorem wipes_at (a0 : Option Addr) (cap0 n : Nat) (l : List Sb) (w : World) (hU : Ss w a0 l) (hn : l.length = n) (h16 : n ≤ 16) :
    Calls Try.prog 5 #[.slice a0 n cap0] w (Truth w) := by
  have HU := Lib.hid (And.intro hU hn)
  have h16z : ¬ (16 : Int) < (n : Int) := by omega
  clear hU hn
  go_enter Try.func5, Try.ntmps5
  go_wp2_with fail
  refine (newr_run _).mono ?_
  rintro _ w1 ⟨r, F1, rfl, hR1, st1⟩
  have H1 := Lib.hid (And.intro hR1 st1)
  clear hR1 st1
  go_wp2_with fail
  refine (aliver_run _).mono ?_
  rintro _ w2 ⟨rfl, st2⟩
  have H2 : Aside (Wp w w2 r 0 false) := by
    obtain ⟨⟨m, v, D, X⟩, st⟩ := H1.out
    exact ⟨F1, m, v, D, [], X.stays st2, st.trans (st2.widen (fun k h => .inl h)), rfl, (fun x h => by cases h), rfl⟩
  clear H1 st2
  go_wp2
  go_loopg [4, 32] n (fun gk vd vi wr => ∃ (k : Nat) (d : Bool), vd = .bool d ∧ vi = .int .i64 (k : Int) ∧ k ≤ n ∧ n - k ≤ gk ∧ Aside (Wp w wr r k d))
  case atStart => exact ⟨0, false, rfl, rfl, by omega, by omega, H2⟩
  case round =>
    clear H2
    obtain ⟨k, d, rfl, rfl, hk, hg, HS⟩ := hrel
    by_cases hlt : k < n
    · have hltz : (k : Int) < (n : Int) := by omega
      obtain ⟨F, m, v, D, L, X, st, hnm, hN, hd⟩ := HS.out.ex
      obtain ⟨ab, off, rfl, hab, hcs⟩ := HU.out.1 (by intro e; have := HU.out.2; rw [e] at this; simp at this; omega)
      obtain ⟨y, hy⟩ : ∃ y, y = l[k]! := ⟨_, rfl⟩
      obtain ⟨cy, by1, by2, by3⟩ := hcs k (by have := HU.out.2; omega)
      rw [← hy] at cy by1 by2 by3
      have c1 : wr.cell? ⟨ab, off + k, none⟩ = some (.slice y.p y.x.length y.cap) := (st.cell (a := ⟨ab, off + k, none⟩) hab (fun h => by cases h)).trans cy
      obtain ⟨n0, hn0⟩ : ∃ n0, n0 = min y.x.length 100 := ⟨_, rfl⟩
      have hm0 := min_any y.x.length 100 n0 100 rfl hn0
      have s1 := cut_h y.p y.x.length y.cap n0 (by omega)
      have hx : (y.x.take n0).length = n0 := by rw [List.length_take]; omega
      have hq : n0 ≤ 100 := by omega
      have hbx : Bts w y.p (y.x.take n0) := Bts.head (M' := y.x.drop n0) (by rw [List.take_append_drop]; exact by1)
      generalize y.x.take n0 = x at *
      generalize y.x.length = yl at *
      generalize y.p = yp at *
      generalize y.cap = yc at *
      have cvn := conv_one wr (ltr k) (97 + (k : Int)) (by rw [ltr_val (by omega)]; omega)
      have e0 : nmI k = ⟨#[110]⟩ ++ str [ltr k] := rfl
      have hll : L.length = k := by
        have := congrArg List.length hnm
        simpa using this
      have hno : ∀ e ∈ L, e.name ≠ nmI k := fun e he q => by
        have h1 : e.name ∈ (List.range k).map nmI := hnm ▸ List.mem_map_of_mem he
        obtain ⟨j, hj, hj2⟩ := List.mem_map.1 h1
        have hj3 := List.mem_range.1 hj
        have := nmI_inj (i := j) (j := k) (by omega) (by omega) (hj2.trans q)
        omega
      have K1 := Lib.hid (make_at (X.stays (Stp.alloc [] wr (.cells #[.int .u8 (97 + (k : Int))] 5))) (nmI k) (nmI_le k) 100 100 rfl (refuse_new (nmI_ne k) hno (by omega)) (by omega) (by omega))
      have HL := Lib.hid (And.intro X (And.intro st (And.intro hnm (And.intro hN (And.intro hd (And.intro hx (And.intro hbx hq)))))))
      rw [e0] at K1
      obtain ⟨tk, htk⟩ : ∃ tk, tk = str [ltr k] := ⟨_, rfl⟩
      have hts : tk.size = 1 := by rw [htk, str_size]; rfl
      have hadd1 : ¬ 9223372036854775807 < 1 + tk.size := by omega
      have hadd2 : ¬ 9223372036854775807 < (⟨#[110]⟩ : ByteArray).size + tk.size := by
        have : (⟨#[110]⟩ : ByteArray).size = 1 := rfl
        omega
      rw [← htk] at cvn K1
      have HT := Lib.hid (And.intro htk e0)
      clear cy hcs hy HS X st hnm hN hd hx hbx hll hno e0 htk hts by1 by2 by3 hq hn0 hab
      go_wp2_with fail
      refine K1.out.mono ?_
      rintro _ w2 ⟨b, g, F2, rfl, ⟨m2, v2, D2, X2⟩, st2, hb, hg⟩
      obtain ⟨X, st, hnm, hN, hd, hx, hbx, hq⟩ := HL.out
      have S2 : Stp [] w F2 w2 := (st.trans (Stp.alloc _ _ _)).trans st2
      have hgw : w.heap.size ≤ g := Nat.le_trans (st.trans (Stp.alloc F _ _)).size hg
      have K2 := Lib.hid (insert_first (X2.ars ⟨⟨#[110]⟩ ++ tk, b, g, 100, []⟩ (by simp)) yp x n0 yc (hbx.stays S2) (fun hn => hbx.apart hgw hn) hx.symm hq)
      have H2 := Lib.hid (And.intro X2 (And.intro S2 (show ∀ y ∈ L, y.b ≠ b from fun y hy => by have := (X.ars y hy).lt; have := (Stp.alloc (F) wr (.cells #[.int .u8 (97 + (k : Int))] 5)).size; omega)))
      clear X st hnm hN hd hx hbx hq X2 st2 hb hg S2 hgw K1 cvn hadd1 hadd2 c1 s1 hm0
      go_wp2_with fail
      refine K2.out.mono ?_
      rintro _ w3 ⟨rfl, ha3, st3⟩
      have H3 : Aside (∃ F m v D, Rx w3 F r m v D (L ++ [⟨nmI k, b, g, 100, x⟩]) ∧ Stp [] w F w3) := by
        obtain ⟨X2, S2, hne⟩ := H2.out
        have hact := X2.act (x := ⟨⟨#[110]⟩ ++ tk, b, g, 100, []⟩) (by simp) ha3 st3
        rw [upd_snoc hne, HT.out.1] at hact
        refine ⟨F2, m2, v2, D2, hact, S2.trans (st3.remake (fun q hq => ?_) (fun q hq => .inl hq))⟩
        have := X2.fa ⟨⟨#[110]⟩ ++ tk, b, g, 100, []⟩ (by simp)
        simp at hq
        rcases hq with e | e
        · rw [e]; exact this.1
        · rw [e]; exact this.2
      clear H2 K2 ha3 st3
      go_wp2
      go_loopg [4, 67] n0 (fun gk vd vi wr => ∃ (j : Nat) (e : Bool), vd = .bool e ∧ vi = .int .i64 (j : Int) ∧ j ≤ n0 ∧ n0 - j ≤ gk ∧ Aside (wr = w3 ∧ e = (d || !(zeros (x.take j)))))
      case atStart => exact ⟨0, d, rfl, rfl, by omega, by omega, rfl, by simp [zeros]⟩
      case round =>
        obtain ⟨j, e, rfl, rfl, hj, hgj, HJ⟩ := hrel
        obtain rfl : wr = w3 := HJ.out.1
        have hq100 : n0 ≤ 100 := HL.out.2.2.2.2.2.2.2
        by_cases hlj : j < n0
        · have hljz : (j : Int) < (n0 : Int) := by omega
          obtain ⟨F3, m3, v3, D3, X3, S3⟩ := H3.out
          obtain ⟨tb, toff, rfl, hc1⟩ := (HL.out.2.2.2.2.2.2.1.stays S3).at (i := j) (by rw [HL.out.2.2.2.2.2.1]; exact hlj)
          have HZ : Aside (zeros (x.take (j + 1)) = (zeros (x.take j) && (x[j]! == 0))) := by
            have hjx : j < x.length := by rw [HL.out.2.2.2.2.2.1]; exact hlj
            show _ = _
            rw [List.take_succ_eq_append_getElem hjx, zeros_append, getElem!_pos x j hjx]
            simp [zeros]
          obtain ⟨c, hc⟩ : ∃ c, c = x[j]! := ⟨_, rfl⟩
          rw [← hc] at hc1 HZ
          have HE := Lib.hid HJ.out.2
          clear X3 S3 hc
          unfold bval at hc1
          by_cases hcz : c = 0
          · have hbz := byte_eq hcz
            have HC := Lib.hid hcz
            generalize ((c.toNat : Nat) : Int) = z at *
            clear hcz
            rcases e with _ | _
            · go_wp2
              go_roundg (n0 - (j + 1))
              case measure => omega
              case rel => exact ⟨j + 1, false, rfl, by go_num, by omega, by omega, rfl, by have := HE.out; rw [HZ.out, HC.out]; simpa using this⟩
            · go_wp2
              go_roundg (n0 - (j + 1))
              case measure => omega
              case rel => exact ⟨j + 1, true, rfl, by go_num, by omega, by omega, rfl, by have := HE.out; rw [HZ.out, HC.out]; simpa using this⟩
          · have hbz := byte_ne hcz
            have HC := Lib.hid hcz
            generalize ((c.toNat : Nat) : Int) = z at *
            clear hcz
            rcases e with _ | _
            · go_wp2
              go_roundg (n0 - (j + 1))
              case measure => omega
              case rel => exact ⟨j + 1, true, rfl, by go_num, by omega, by omega, rfl, by rw [HZ.out]; simp [HC.out]⟩
            · go_wp2
              go_roundg (n0 - (j + 1))
              case measure => omega
              case rel => exact ⟨j + 1, true, rfl, by go_num, by omega, by omega, rfl, by rw [HZ.out]; simp [HC.out]⟩
        · have hljz : ¬ (j : Int) < (n0 : Int) := by omega
          have H4 : Aside (Wp w wr r (k + 1) e) := by
            obtain ⟨F3, m3, v3, D3, X3, S3⟩ := H3.out
            obtain ⟨X, st, hnm, hN, hd, hx, hbx, hq⟩ := HL.out
            refine ⟨F3, m3, v3, D3, _, X3, S3, ?_, fun y hy => ?_, ?_⟩
            · rw [List.map_append, hnm, List.range_succ, List.map_append]
              rfl
            · rcases List.mem_append.1 hy with hy | hy
              · exact hN y hy
              · simp at hy
                rw [hy]
            · have h1 := HJ.out.2
              rw [List.take_of_length_le (by omega), hd] at h1
              rw [h1]
              simp
          clear HJ H3 HL
          go_wp2
          go_roundg (n - (k + 1))
          case measure => omega
          case rel => exact ⟨k + 1, e, rfl, by go_num, by omega, by omega, H4⟩
    · have hltz : ¬ (k : Int) < (n : Int) := by omega
      obtain rfl : k = n := by omega
      obtain ⟨F, m, v, D, L, X, st, hnm, hN, hd⟩ := HS.out.ex
      obtain ⟨A, hA⟩ : ∃ A, A = L.all (fun x => zeros x.l) := ⟨_, rfl⟩
      have K5 := Lib.hid (zeror_run X)
      rw [← hA] at K5 hd
      have H5 := Lib.hid (And.intro X (And.intro st (And.intro hnm hN)))
      clear X st hnm hN hA HS
      subst hd
      have hAA : (A == !A) = false := by cases A <;> rfl
      go_wp2_with fail
      refine K5.out.mono ?_
      rintro _ w5 ⟨rfl, st5⟩
      have H6 := Lib.hid (And.intro (H5.out.1.stays st5) (H5.out.2.1.trans (st5.widen (F := F) (G := F) (fun q h => .inl h))))
      have K6 := Lib.hid (cleanr_run H6.out.1)
      clear st5 K5
      go_wp2_with fail
      refine K6.out.mono ?_
      rintro _ w6 ⟨rfl, st6⟩
      have H7 := Lib.hid (And.intro (H6.out.1.stays st6) (H6.out.2.trans (st6.widen (F := F) (G := F) (fun q h => .inl h))))
      have K7 := Lib.hid (wiper_run H7.out.1)
      clear st6 K6 H6
      go_wp2_with fail
      refine K7.out.mono ?_
      rintro _ w7 ⟨rfl, ⟨m7, v7, D7, X7⟩, st7⟩
      have H8 : Aside (Rx w7 F r m7 v7 D7 (wipe L) ∧ Stp [] w F w7) := ⟨X7, H7.out.2.trans st7⟩
      have HL : Aside (L.map Ent.name = (List.range k).map nmI ∧ ∀ x ∈ L, x.N = 100) := H5.out.2.2
      clear X7 st7 H7 K7 H5 hAA
      go_wp2
      go_loopg [91] k (fun gk vi wr => ∃ i : Nat, vi = .int .i64 (i : Int) ∧ i ≤ k ∧ k - i ≤ gk ∧ Aside (Rx wr F r m7 v7 D7 (wipe L) ∧ Stp [] w F wr))
      case atStart => exact ⟨0, rfl, by omega, by omega, H8⟩
      case round =>
        clear H8
        obtain ⟨i, rfl, hi, hgi, HI⟩ := hrel
        by_cases hli : i < k
        · have hliz : (i : Int) < (k : Int) := by omega
          obtain ⟨y, hy, hyn⟩ : ∃ y ∈ L, y.name = nmI i := by
            have h1 : nmI i ∈ L.map Ent.name := by
              rw [HL.out.1]
              exact List.mem_map_of_mem (List.mem_range.2 hli)
            obtain ⟨y, hy, e⟩ := List.mem_map.1 h1
            exact ⟨y, hy, e⟩
          have hyN := HL.out.2 y hy
          have he : (⟨nmI i, y.b, y.g, 100, []⟩ : Ent) ∈ wipe L := List.mem_map.2 ⟨y, hy, by rw [← hyn, ← hyN]⟩
          have cvn := conv_one wr (ltr i) (97 + (i : Int)) (by rw [ltr_val (by omega)]; omega)
          have e0 : nmI i = ⟨#[110]⟩ ++ str [ltr i] := rfl
          have st : Stp [] wr [] (wr.alloc (.cells #[.int .u8 (97 + (i : Int))] 5)) := Stp.alloc [] wr _
          have K1 := Lib.hid (get_yes (HI.out.1.stays st) he)
          have HX : Aside (Rx (wr.alloc (.cells #[.int .u8 (97 + (i : Int))] 5)) F r m7 v7 D7 (wipe L) ∧ Stp [] w F (wr.alloc (.cells #[.int .u8 (97 + (i : Int))] 5))) := ⟨HI.out.1.stays st, HI.out.2.trans (st.widen (fun q h => .inl h))⟩
          have HE := Lib.hid he
          rw [e0] at K1
          obtain ⟨tk, htk⟩ : ∃ tk, tk = str [ltr i] := ⟨_, rfl⟩
          have hts : tk.size = 1 := by rw [htk, str_size]; rfl
          have hadd1 : ¬ 9223372036854775807 < 1 + tk.size := by omega
          have hadd2 : ¬ 9223372036854775807 < (⟨#[110]⟩ : ByteArray).size + tk.size := by
            have : (⟨#[110]⟩ : ByteArray).size = 1 := rfl
            omega
          rw [← htk] at cvn K1
          generalize y.b = yb at *
          generalize y.g = yg at *
          clear hy hyn hyN he e0 st htk hts HI
          go_wp2_with fail
          refine K1.out.mono ?_
          rintro _ w9 ⟨rfl, hw9⟩
          rw [← hw9] at HX
          have K2 := Lib.hid (len_zero (HX.out.1.ars _ HE.out))
          have K3 := Lib.hid (zero_zero (HX.out.1.ars _ HE.out))
          clear K1 cvn hadd1 hadd2 hw9
          go_wp2_with fail
          refine K2.out.mono ?_
          rintro _ w9 ⟨rfl, rfl⟩
          clear K2
          go_wp2_with fail
          refine K3.out.mono ?_
          rintro _ w10 ⟨rfl, st10⟩
          have HY : Aside (Rx w10 F r m7 v7 D7 (wipe L) ∧ Stp [] w F w10) := ⟨HX.out.1.stays st10, HX.out.2.trans (st10.widen (fun q h => .inl h))⟩
          clear K3 HX st10
          go_wp2
          go_loopg [117] 100 (fun gk vi wr => ∃ j : Nat, vi = .int .i64 (j : Int) ∧ j ≤ 100 ∧ 100 - j ≤ gk ∧ Aside (wr = w10))
          case atStart => exact ⟨0, rfl, by omega, by omega, rfl⟩
          case round =>
            obtain ⟨j, rfl, hj, hgj, HJ⟩ := hrel
            obtain rfl : wr = w10 := HJ.out
            by_cases hlj : j < 100
            · have hljz : (j : Int) < 100 := by omega
              have K4 := Lib.hid (cell_zero (HY.out.1.ars _ HE.out) j hlj)
              go_wp2_with fail
              refine K4.out.mono ?_
              rintro _ wr ⟨rfl, rfl⟩
              clear K4
              go_wp2
              go_roundg (100 - (j + 1))
              case measure => omega
              case rel => exact ⟨j + 1, by go_num, by omega, by omega, rfl⟩
            · have hljz : ¬ (j : Int) < 100 := by omega
              go_wp2
              go_roundg (k - (i + 1))
              case measure => omega
              case rel => exact ⟨i + 1, by go_num, by omega, by omega, HY⟩
        · have hliz : ¬ (i : Int) < (k : Int) := by omega
          have K1 := Lib.hid (zeror_run HI.out.1)
          rw [wipe_zeros] at K1
          go_wp2_with fail
          refine K1.out.mono ?_
          rintro _ w5 ⟨rfl, st5⟩
          have H6 := Lib.hid (And.intro (HI.out.1.stays st5) (HI.out.2.trans (st5.widen (F := F) (G := F) (fun q h => .inl h))))
          have K6 := Lib.hid (cleanr_run H6.out.1)
          clear st5 K1 HI
          go_wp2_with fail
          refine K6.out.mono ?_
          rintro _ w6 ⟨rfl, st6⟩
          have H7 := Lib.hid (H6.out.2.none.trans st6)
          clear st6 K6 H6
          go_wp2
          go_ret
          exact ⟨rfl, H7.out.under⟩
set_option maxRecDepth 100000 in
theorem wipes_walk (a0 : Option Addr) (cap0 : Nat) (l : List Sb) (w : World) (hU : Ss w a0 l) (hn : l.length ≤ 9223372036854775807) :
    Calls Try.prog 5 #[.slice a0 l.length cap0] w (Truth w) := by
  by_cases h16 : l.length ≤ 16
  · exact wipes_at a0 cap0 l.length l w hU rfl h16
  · have h16z : (16 : Int) < (l.length : Int) := by omega
    generalize l.length = n at *
    clear hU
    go_enter Try.func5, Try.ntmps5
    go_wp2_with fail
    refine (newr_run _).mono ?_
    rintro _ w1 ⟨r, F1, rfl, hR1, st1⟩
    have H1 := Lib.hid st1.none
    clear hR1 st1
    go_wp2_with fail
    refine (aliver_run _).mono ?_
    rintro _ w2 ⟨rfl, st2⟩
    have H2 := Lib.hid (H1.out.trans st2)
    clear st2 H1
    go_wp2_with fail
    refine (aliver_run _).mono ?_
    rintro _ w3 ⟨rfl, st3⟩
    have H3 := Lib.hid (H2.out.trans st3)
    clear st3 H2
    go_wp2
    go_ret
    exact ⟨rfl, H3.out.under⟩
end Go.Proofs.Ytmhecgidhdbcgaa
