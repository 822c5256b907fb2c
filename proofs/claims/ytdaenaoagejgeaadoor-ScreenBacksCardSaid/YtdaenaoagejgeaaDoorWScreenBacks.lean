/-
  The walk of ScreenBacks.
-/
import Derived.Test.YtdaenaoagejgeaaDoorSays
namespace Go.Proofs.YtdaenaoagejgeaaDoor
open Go.RowKit Go.Lib
set_option linter.unusedVariables false

/-- A screen of one row of n times x, and its text. -/
def BkR (w wr : World) (s n col B : Nat) (X : ByteArray) : Prop := ∃ F L, Ks w wr s F L ∧ held L = [] ∧ seen L = ⟨[], List.replicate n 120, col, 0, false, 0⟩ ∧ L.length ≤ B ∧ X = st (List.replicate n 120)
theorem laid_x (n c : Nat) : laid (List.replicate n c) n c = List.replicate (n + 1) c := by
  unfold laid
  rw [if_neg (by simp), List.length_replicate, Nat.sub_self, List.replicate_succ']
  simp
theorem fl_x : ∀ n, fl (List.replicate n 120) = List.replicate n 120
  | 0 => rfl
  | n + 1 => by
    rw [List.replicate_succ, fl_cons, fl_x n]
    rfl
section
variable {w wr w' : World} {s n col B : Nat} {X : ByteArray}
theorem BkR.stp (h : BkR w wr s n col B X) : Stp [] w [] wr := by
  obtain ⟨F, L, h1, _⟩ := h
  exact h1.stp
theorem BkR.stays (h : BkR w wr s n col B X) (hs : Stp [] wr [] w') : BkR w w' s n col B X := by
  obtain ⟨F, L, h1, h2⟩ := h
  exact ⟨F, L, h1.stays hs, h2⟩
theorem BkR.size (h : BkR w wr s n col B X) : X.size = n := by
  obtain ⟨F, L, _, _, _, _, rfl⟩ := h
  rw [st_size, List.length_replicate]
theorem BkR.x (h : BkR w wr s n n B X) (hT : Tabs w) (hB : B ≤ 80000) : Calls Tryd.prog 11 #[.pointer (some ⟨s, 0, none⟩), .slice (some ⟨wr.heap.size, 0, none⟩) 1 1] (wr.alloc (.cells #[.int .u8 120] 5))
    (fun e w' => e = .returned (.int .i64 0) ∧ BkR w w' s (n + 1) (n + 1) (B + 1) (X ++ ⟨#[120]⟩)) := by
  obtain ⟨F, L, h1, h2, h3, h4, rfl⟩ := h
  refine ((h1.stays (Stp.alloc [] wr _)).feed hT _ 1 1 [120] (Blk.bts (C := [120]) (heap_alloc_new wr _)) rfl (fun h => by cases h) (by simp; omega)).mono ?_
  rintro e w' ⟨rfl, F', k, _⟩
  obtain ⟨g1, g2⟩ := seen_lit1 (c := 120) h2 (by decide) (by decide)
  refine ⟨rfl, F', _, k, g2, ?_, by simp; omega, ?_⟩
  · rw [g1, h3]
    simp only [show (120 : UInt8).toNat = 120 from rfl, laid_x]
  · rw [List.replicate_succ', ← st_append]
    rfl
theorem BkR.go {a : Option Addr} {k c M : Nat} (h : BkR w wr s n col B X) (hT : Tabs w) (hB : B ≤ 80000) (h1 : 1 ≤ M) (h2 : M ≤ 9999) (hs : Stp [] wr [] w') (hb : Bts w' a (SD M)) (hk : k = (SD M).length) (hM : k ≤ 7) :
    Calls Tryd.prog 11 #[.pointer (some ⟨s, 0, none⟩), .slice a k c] w' (fun e w3 => e = .returned (.int .i64 0) ∧ BkR w w3 s n (col - M) (B + 7) X) := by
  obtain ⟨F, L, q1, q2, q3, q4, rfl⟩ := h
  have hne : a = none → c = 0 := fun e => by
    obtain ⟨b, off, e2, _⟩ := hb (by unfold SD; simp)
    rw [e] at e2
    cases e2
  refine ((q1.stays hs).feed hT a k c (SD M) hb hk hne (by omega)).mono ?_
  rintro e w3 ⟨rfl, F', k1, _⟩
  obtain ⟨g1, g2⟩ := seen_SD q2 h1 h2
  refine ⟨rfl, F', _, k1, g2, ?_, by rw [List.length_append]; omega, rfl⟩
  rw [g1, q3]
theorem BkR.says (h : BkR w wr s n col B X) (hB : B ≤ 80000) : ∃ tx, Says wr s 0 (col : Int) 0 0 1 false tx ∧ tx 0 = X := by
  obtain ⟨F, L, q1, q2, q3, q4, rfl⟩ := h
  have h1 := q1.says (by omega)
  have e : rowsL L = [List.replicate n 120] := by unfold rowsL; rw [q3]; rfl
  rw [e, q3] at h1
  refine ⟨_, h1, ?_⟩
  show st (fl (List.replicate n 120)) = _
  rw [fl_x]
end
theorem SD_len {M : Nat} (h : M ≤ 9999) : (SD M).length ≤ 7 := by
  have := dig_len (b := 10) (by omega) 3 M (by omega)
  unfold SD
  simp
  omega
/-- What a number's digits are, so far. -/
def DgR (M x : Nat) (D : ByteArray) : Prop := ∃ d, D = st d ∧ (x = 0 → d = dig 10 M) ∧ (0 < x → dig 10 x ++ d = dig 10 M)
theorem DgR.step {M x : Nat} {D : ByteArray} (h : DgR M x D) (hx : 0 < x) : DgR M (x / 10) (st [dch (x % 10)] ++ D) := by
  obtain ⟨d, rfl, _, h2⟩ := h
  have h3 := h2 hx
  refine ⟨dch (x % 10) :: d, by rw [st_append]; rfl, fun e => ?_, fun e => ?_⟩
  · have hlt : x < 10 := by omega
    rw [dig_lt hlt] at h3
    rw [Nat.mod_eq_of_lt hlt]
    exact h3
  · rw [dig_ge (by omega) (by omega)] at h3
    rw [← h3]
    simp
theorem DgR.done {M : Nat} {D : ByteArray} (h : DgR M 0 D) : (⟨#[27, 91]⟩ : ByteArray) ++ D ++ ⟨#[68]⟩ = st (SD M) := by
  obtain ⟨d, rfl, h1, _⟩ := h
  rw [h1 rfl]
  have e1 : (⟨#[27, 91]⟩ : ByteArray) = st [27, 91] := rfl
  have e2 : (⟨#[68]⟩ : ByteArray) = st [68] := rfl
  rw [e1, e2, st_append, st_append]
  rfl
theorem dch_nat : ∀ z, z < 10 → ((dch z).toNat : Int) = 48 + (z : Int) := by decide
theorem conv_dig (W : World) (z : Nat) (hz : z < 10) : (convert 25 9 (.slice (some ⟨W.heap.size, 0, none⟩) 1 1)).run Tryd.prog (W.alloc (.cells #[.int .u8 (48 + (z : Int))] 5)) = .ok (.string (st [dch z])) (W.alloc (.cells #[.int .u8 (48 + (z : Int))] 5)) := by
  have h := Blk.bts (C := [dch z]) (heap_alloc_new W _)
  have e : ([dch z].map bval).toArray = #[.int .u8 (48 + (z : Int))] := by
    simp [bval, dch_nat z hz]
  rw [e] at h
  exact conv_bts 1 1 h rfl
set_option maxHeartbeats 2000000 in
set_option maxRecDepth 100000 in
theorem backs_walk (n : Nat) (a1 : Option Addr) (cap1 m : Nat) (l : List UInt8) (w : World) (hn : n < 256) (hb : Bts w a1 l) (hm : m = l.length) (hT : Tabs w) :
    Calls Tryd.prog 8 #[.int .u8 (n : Int), .slice a1 m cap1] w (Tells (.bool true) w) := by
  have HT : Aside (Tabs w ∧ Bts w a1 l ∧ m = l.length) := ⟨hT, hb, hm⟩
  have K1 := Lib.hid (knew_run (Stp.refl [] w))
  clear hT hb hm
  have HD : (decide (60 < (m : Int)) = true ∨ decide (60 < (m : Int)) = false) := by cases decide (60 < (m : Int)) <;> simp
  go_enter Tryd.func8, Tryd.ntmps8
  go_wp2_with fail
  refine K1.out.mono ?_
  rintro _ w1 ⟨s, F, rfl, k1, hF, t1⟩
  have H1 : Aside (Ks w w1 s F []) := k1
  have KA := Lib.hid (alive_run w1 (k1.tabs HT.out.1))
  clear K1 k1 hF t1
  go_wp2_with fail
  refine KA.out.mono ?_
  rintro _ w2 ⟨rfl, s2⟩
  have H2 : Aside (Ks w w2 s F []) := H1.out.stays s2
  clear KA H1 s2
  rcases HD with hd | hd
  · have KA := Lib.hid (alive_run w2 (H2.out.tabs HT.out.1))
    go_wp2_with fail
    refine KA.out.mono ?_
    rintro _ w3 ⟨rfl, s3⟩
    go_wp2
    go_ret
    exact ⟨rfl, H2.out.stp.trans s3⟩
  have hm60 : (m : Int) ≤ 60 := by have := of_decide_eq_false hd; omega
  have H3 : Aside (BkR w w2 s 0 0 0 ⟨#[]⟩) := ⟨F, [], H2.out, rfl, rfl, by simp, rfl⟩
  clear H2 hd
  go_wp2_with fail
  go_loopg [6, 29] n (fun gk v6 vi wr => ∃ (i : Nat) (X : ByteArray), vi = .int .u8 (i : Int) ∧ v6 = .string X ∧ i ≤ n ∧ n - i ≤ gk ∧ Aside (BkR w wr s i i i X))
  case atStart => exact ⟨0, _, rfl, rfl, by omega, by omega, H3.out⟩
  case round =>
    obtain ⟨i, X, rfl, rfl, hi, hg, HS⟩ := hrel
    by_cases hlt : i < n
    · have hltz : (i : Int) < (n : Int) := by omega
      have hi2 : (i : Int) < 255 := by omega
      have KF := Lib.hid (HS.out.x HT.out.1 (by omega))
      have zX := HS.out.size
      go_wp2_with fail
      refine KF.out.mono ?_
      rintro _ w4 ⟨rfl, h4⟩
      have H4 : Aside (BkR w w4 s (i + 1) (i + 1) (i + 1) (X ++ ⟨#[120]⟩)) := h4
      clear KF HS h4
      go_wp2_with fail
      go_roundg (n - (i + 1))
      case measure => omega
      case rel => exact ⟨i + 1, _, by go_num, rfl, by omega, by omega, H4.out⟩
    · have hltz : ¬ (i : Int) < (n : Int) := by omega
      obtain rfl : i = n := by omega
      have H5 : Aside (BkR w wr s i i 256 X) := by
        obtain ⟨F, L, q1, q2, q3, q4, q5⟩ := HS.out
        exact ⟨F, L, q1, q2, q3, by omega, q5⟩
      clear HS H3
      go_wp2_with fail
      go_loopg [7, 41] m (fun gk v7 vi wq => ∃ (k col : Nat), vi = .int .i64 (k : Int) ∧ v7 = .int .i64 (col : Int) ∧ k ≤ m ∧ m - k ≤ gk ∧ col ≤ 255 ∧ Aside (BkR w wq s i col (256 + 7 * k) X))
      case atStart => exact ⟨0, i, rfl, by go_num, by omega, by omega, by omega, H5.out⟩
      case round =>
        obtain ⟨k, col, rfl, rfl, hk, hgk, hcol, HS⟩ := hrel
        by_cases hlt : k < m
        · have hltk : (k : Int) < (m : Int) := by omega
          obtain ⟨b, off, rfl, hc⟩ : ∃ b off, a1 = some ⟨b, off, none⟩ ∧ wr.cell? ⟨b, off + k, none⟩ = some (bval (l[k]!)) := (HT.out.2.1.stays HS.out.stp).at (by rw [← HT.out.2.2]; exact hlt)
          unfold bval at hc
          have hc256 : (l[k]!).toNat < 256 := UInt8.toNat_lt _
          generalize (l[k]!).toNat = c at *
          obtain ⟨M, hM⟩ : ∃ M : Nat, M = 1 + c := ⟨_, rfl⟩
          have HM := Lib.hid hM
          have hM0 : 0 < M := by omega
          have hM1 : M ≤ 256 := by omega
          have H6 : Aside (DgR M M ⟨#[]⟩ ∧ Stp [] wr [] wr) := ⟨⟨[], rfl, fun e => by omega, fun _ => by simp⟩, Stp.refl _ _⟩
          have hmx : max 0 ((col : Int) - (1 + (c : Int))) = ((col - M : Nat) : Int) := by omega
          have hc5 : (c : Int) ≤ 255 := by omega
          clear hM
          have HQ := Lib.hid (And.intro HS.out (Stp.refl [] wr))
          clear HS
          generalize wr = w0 at *
          go_wp2_with fail
          go_loopg [11, 12] M (fun gk v11 v12 wr => ∃ (x : Nat) (D : ByteArray), v12 = .int .i64 (x : Int) ∧ v11 = .string D ∧ x ≤ gk ∧ x ≤ 256 ∧ D.size ≤ 256 - x ∧ Aside (DgR M x D ∧ Stp [] w0 [] wr))
          case atStart => exact ⟨M, _, by rw [HM.out]; go_num, rfl, by omega, hM1, by show 0 ≤ _; omega, H6.out⟩
          case round =>
            obtain ⟨x, D, rfl, rfl, hx, hx6, hD, HI⟩ := hrel
            by_cases hx0 : 0 < x
            · have hxz : (0 : Int) < (x : Int) := by omega
              have hx6z : (x : Int) ≤ 256 := by omega
              obtain ⟨z, hz, hz9⟩ : ∃ z : Nat, (x : Int) % 10 = (z : Int) ∧ z < 10 := ⟨x % 10, by omega, by omega⟩
              obtain ⟨y, hy⟩ : ∃ y : Nat, (x : Int) / 10 = (y : Int) := ⟨x / 10, by omega⟩
              have hz10 : (z : Int) ≤ 9 := by omega
              have hs := HI.out.1.step hx0
              rw [show x % 10 = z by omega, show x / 10 = y by omega] at hs
              have cv := conv_dig wr z hz9
              have z1 : (st [dch z]).size = 1 := rfl
              generalize st [dch z] = Y at *
              have HN : Aside (DgR M y (Y ++ D) ∧ Stp [] w0 [] (wr.alloc (.cells #[.int .u8 (48 + (z : Int))] 5))) := ⟨hs, HI.out.2.trans (Stp.alloc [] wr _)⟩
              have hyx : y < x := by omega
              clear hs HI
              go_wp2_with fail
              go_roundg y
              case measure => omega
              case rel => exact ⟨y, _, by go_num, rfl, by omega, by omega, by rw [ByteArray.size_append]; omega, HN.out⟩
            · have hxz : ¬ (0 : Int) < (x : Int) := by omega
              obtain rfl : x = 0 := by omega
              obtain ⟨ab, cb, w5, hcv, hbt, hlen, hcm, s5⟩ := conv_st wr (SD M) (by have := SD_len (M := M) (by omega); omega)
              rw [← HI.out.1.done] at hcv
              have KF := Lib.hid (HQ.out.1.go HT.out.1 (c := cb) (by omega) hM0 (by omega) (HI.out.2.trans s5) hbt rfl (SD_len (by omega)))
              have hq7 := SD_len (M := M) (by omega)
              generalize (SD M).length = q at *
              clear HI hbt s5 H6
              go_wp2_with fail
              refine KF.out.mono ?_
              rintro _ w6 ⟨rfl, h6⟩
              have H7 : Aside (BkR w w6 s i (col - M) (256 + 7 * k + 7) X) := h6
              obtain ⟨tx, hsay, htx⟩ := h6.says (by omega)
              have HY := Lib.hid hsay
              have zX := h6.size
              have hcM : ((col - M : Nat) : Int) ≤ 255 := by omega
              have hcc : col - M ≤ 255 := by omega
              clear KF h6 hsay hcv HQ
              generalize col - M = co at *
              go_wp2_with fail
              refine (HY.out.place _ (Stp.refl _ _)).mono ?_
              rintro _ w7 ⟨rfl, s7⟩
              go_wp2_with fail
              have KR := Lib.hid (HY.out.row _ s7 0 (by omega))
              rw [htx] at KR
              refine KR.out.mono ?_
              rintro _ w8 ⟨rfl, s8⟩
              have H8 : Aside (BkR w w8 s i co (256 + 7 * (k + 1)) X) := by
                have := H7.out.stays (s7.trans s8)
                exact this
              clear H7 HY KR s7 s8
              go_wp2_with fail
              go_roundg (m - (k + 1))
              case measure => omega
              case rel => exact ⟨k + 1, co, by go_num, rfl, by omega, by omega, by omega, H8.out⟩
        · have hltk : ¬ (k : Int) < (m : Int) := by omega
          obtain ⟨tx, hsay, _⟩ := HS.out.says (by omega)
          have KO := Lib.hid (hsay.odd _ (Stp.refl _ _))
          have HZ := Lib.hid HS.out.stp
          clear hsay HS
          go_wp2_with fail
          refine KO.out.mono ?_
          rintro _ w7 ⟨rfl, s7⟩
          go_wp2
          go_ret
          exact ⟨rfl, HZ.out.trans s7⟩
end Go.Proofs.YtdaenaoagejgeaaDoor
