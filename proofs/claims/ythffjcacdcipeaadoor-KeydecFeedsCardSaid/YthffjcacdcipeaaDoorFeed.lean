/-
  The decoder: Feed: the keys that bytes more end.
-/
import Derived.Test.YthffjcacdcipeaaDoorTake
namespace Go.Proofs.YthffjcacdcipeaaDoor
open Go.RowKit Go.Lib
set_option linter.unusedVariables false

/-- What Feed answers. -/
def Fed (W0 : World) (d b g N : Nat) (r : Rd) (e : Ending) (w' : World) : Prop := ∃ v', e = .returned (.tuple #[v', .int .i64 0]) ∧ TkAt W0 d b g N v' r.ks r.h r.p w'
theorem feed_nil (v : Value) (W : World) : Calls Tryd.prog 13 #[.pointer none, v] W (Gives (.tuple #[.slice none 0 0, .int .i64 1]) W) := by
  go_enter Tryd.func13, Tryd.ntmps13
  go_wp2
  go_ret2
  exact ⟨rfl, rfl⟩
theorem rd_snoc (p : Bool) (l s : List UInt8) (k : Nat) (hk : k < s.length) :
    rd p (l ++ s.take (k + 1)) = ⟨(rd p (l ++ s.take k)).ks ++ (rd (rd p (l ++ s.take k)).p ((rd p (l ++ s.take k)).h ++ [s[k]!])).ks, (rd (rd p (l ++ s.take k)).p ((rd p (l ++ s.take k)).h ++ [s[k]!])).h, (rd (rd p (l ++ s.take k)).p ((rd p (l ++ s.take k)).h ++ [s[k]!])).p⟩ := by
  rw [List.take_succ_eq_append_getElem hk, ← List.append_assoc, rd_app, getElem!_pos s k hk]
set_option maxHeartbeats 1000000 in
set_option maxRecDepth 100000 in
theorem feed_run {W : World} {d b g N : Nat} {l : List UInt8} {p : Bool} (h : Dc W d b g N l p) (hT : U.Tabs W) (hf : fst1 p l = none) (a : Option Addr) (n cap : Nat) (s : List UInt8) (hb : Bts W a s) (hd : s ≠ [] → ∀ ad, a = some ad → ad.block ≠ d ∧ ad.block ≠ b ∧ ad.block ≠ g)
    (hn : n = s.length) (hm : n ≤ 800000) : Calls Tryd.prog 13 #[.pointer (some ⟨d, 0, none⟩), .slice a n cap] W (Fed W d b g N (rd p (l ++ s))) := by
  obtain ⟨i0, hi0, hz0, hz1, hz2⟩ := info_parts key_row
  have HB := Lib.hid (And.intro h (And.intro hT (And.intro hb (And.intro hd (And.intro hn (And.intro hf (h.lt)))))))
  clear h hT hb hd hn hf
  obtain ⟨R, hR⟩ : ∃ R, R = rd p (l ++ s) := ⟨_, rfl⟩
  rw [← hR]
  have HR := Lib.hid hR
  clear hR
  have hc1 : IntKind.i64.wrap ((n : Int) + 1) = (n : Int) + 1 := by rw [IntKind.wrap_i64]; omega
  go_enter Tryd.func13, Tryd.ntmps13
  go_wp2_with (at_make; refine wpList_make_own _ rfl _ _ 30 rfl W.heap.size 41 i0 _ 2 Tryd.underlying30 hi0 hz0 hz1 _ _ _ (n + 1) rfl rfl (by omega) (by rw [hz2]; omega) (by unfold maxLen; omega) (Nat.le_refl _) ?_; intro w1 hown hgrow)
  have H1 : Aside (TkAt W d b g N (.slice (some ⟨W.heap.size, 0, none⟩) 0 (n + 1)) [] l p w1) := ⟨hown, Dc.grew HB.out.1 hgrow (fun k hk => by cases hk), (Stp.refl [d, b, g] W).grew hgrow (fun k hk => by cases hk)⟩
  clear hown hgrow hi0 hz0 hz1 hz2
  generalize Value.slice (some ⟨W.heap.size, 0, none⟩) 0 (n + 1) = v0 at *
  go_loopg [6, 17] n (fun gk v6 vi wr => ∃ k : Nat, vi = .int .i64 (k : Int) ∧ k ≤ n ∧ n - k ≤ gk ∧ Aside (TkAt W d b g N v6 (rd p (l ++ s.take k)).ks (rd p (l ++ s.take k)).h (rd p (l ++ s.take k)).p wr))
  case atStart =>
    refine ⟨0, rfl, Nat.zero_le _, Nat.le_refl _, ?_⟩
    show TkAt _ _ _ _ _ _ _ _ _ _
    rw [List.take_zero, List.append_nil, rd_none HB.out.2.2.2.2.2.1]
    exact H1.out
  case round =>
    obtain ⟨k, rfl, hk, hg, HS⟩ := hrel
    by_cases hlt : k < n
    · have hltz : (k : Int) < (n : Int) := by omega
      have hks : k < s.length := by rw [← HB.out.2.2.2.2.1]; exact hlt
      obtain ⟨bb, off, rfl, hc0⟩ := HB.out.2.2.1.at hks
      have hcell : wr.cell? ⟨bb, off + k, none⟩ = some (bval (s[k]!)) := (HS.out.stp.cell (a := ⟨bb, off + k, none⟩) (block_lt_of_cell hc0) (by
        have h3 : bb ≠ d ∧ bb ≠ b ∧ bb ≠ g := HB.out.2.2.2.1 (by intro e; subst e; simp at hks) ⟨bb, off, none⟩ rfl
        simp [h3.1, h3.2.1, h3.2.2])).trans hc0
      have HN : Aside (rd p (l ++ s.take (k + 1)) = ⟨(rd p (l ++ s.take k)).ks ++ (rd (rd p (l ++ s.take k)).p ((rd p (l ++ s.take k)).h ++ [s[k]!])).ks, (rd (rd p (l ++ s.take k)).p ((rd p (l ++ s.take k)).h ++ [s[k]!])).h, (rd (rd p (l ++ s.take k)).p ((rd p (l ++ s.take k)).h ++ [s[k]!])).p⟩) := rd_snoc p l s k hks
      have HH : Aside ((rd p (l ++ s.take k)).h.length ≤ 34 ∧ (rd p (l ++ s.take k)).ks.length ≤ 900000) := ⟨rd_held _ _, by
        have := rd_len p (l ++ s.take k)
        have := fst1_held HB.out.2.2.2.2.2.1
        simp at *
        omega⟩
      clear hc0
      generalize rd p (l ++ s.take k) = Q at *
      generalize s[k]! = c at *
      have c0 := HS.out.dc.c0
      have hlen : (Q.h.length : Int) ≤ 34 := by have := HH.out.1; omega
      have KL : Hid (∀ W', Stp [] wr [] W' → Calls Tryd.prog 30 #[.pointer (some ⟨b, 0, none⟩)] W' (Gives (.int .i64 (Q.h.length : Int)) W')) := Lib.hid fun W' hs => len_cl (HS.out.dc.ar.stays hs)
      have KI : Hid (Calls Tryd.prog 26 #[.pointer (some ⟨b, 0, none⟩), .int .i64 (Q.h.length : Int), .slice (some ⟨wr.heap.size, 0, none⟩) 1 1] (wr.alloc (.cells #[bval c] 5)).drew
          fun e w' => e = .returned (.int .i64 0) ∧ Ar w' b g N (Q.h ++ [c]) ∧ Stp [b, g] wr [b, g] w') := Lib.hid (by
        have hS : Stp [] wr [] (wr.alloc (.cells #[bval c] 5)).drew := (Stp.alloc [] wr _).trans (Stp.drew [] _)
        have hA := HS.out.dc.ar.stays hS
        have hl := HS.out.dc.lt
        have hN := HS.out.dc.big
        refine (insert_run hA Q.h.length (some ⟨wr.heap.size, 0, none⟩) [c] 1 1 ((one_new wr c).stays (Stp.drew [] _)) (fun _ ad e => by cases e; show wr.heap.size ≠ g; omega) rfl (Nat.le_refl _) (by have := HH.out.1; omega)).mono ?_
        rintro e w' ⟨he, ha, h3⟩
        rw [List.take_length, List.drop_length, List.append_nil] at ha
        exact ⟨he, ha, (hS.more (by simp)).trans h3⟩)
      unfold bval at hcell KI
      have HC : Aside (Value.int .u8 (c.toNat : Int) = bval c) := rfl
      generalize ((c.toNat : Nat) : Int) = z at *
      go_wp2_with fail
      go_region_held3 (fun w' => w'.cell? ⟨d, 0, none⟩ = some (.pointer (some ⟨b, 0, none⟩)))
        (first | assumption | go_keep)
        ((first
          | (go_at_call 30
             (first | (with_reducible refine (KL.out _ (Stp.drew [] wr)).mono ?_) | (with_reducible refine (KL.out _ (Stp.refl [] wr)).mono ?_) | (refine (KL.out _ ((Stp.alloc [] wr _).trans (Stp.drew [] _))).mono ?_))
             rintro _ w2 ⟨rfl, rfl⟩)
          | (go_at_call 26
             (with_reducible refine KI.out.mono ?_)
             rintro _ w3 ⟨rfl, ha3, s3⟩
             have H3 : Aside (TkAt W d b g N u6 Q.ks (Q.h ++ [c]) Q.p w3) := by
               have h1 := HB.out.2.2.2.2.2.2
               have h2 := HS.out.row.lt
               exact ⟨HS.out.row.other s3 (fun k hk => by have := (h2 k hk).1; simp; omega), HS.out.dc.turn s3 ha3, HS.out.stp.into s3 (fun i hi => .inl (by simp at hi; simp; omega)) (fun i hi => .inl hi)⟩
             have c0w3 := H3.out.dc.c0
             clear ha3 s3)))
      all_goals
        clear KL KI hcell c0 HS
        have KT := Lib.hid (take_run HB.out.2.2.2.2.2.2 H3.out HB.out.2.1 (by have := HH.out.1; simp; omega) HH.out.2)
        clear c0w3
        go_wp2_with fail
        refine KT.out.mono ?_
        rintro _ w4 ⟨v4, rfl, h4⟩
        have H4 : Aside (TkAt W d b g N v4 (rd p (l ++ s.take (k + 1))).ks (rd p (l ++ s.take (k + 1))).h (rd p (l ++ s.take (k + 1))).p w4) := by
          show TkAt _ _ _ _ _ _ _ _ _ _
          rw [HN.out]
          exact h4
        clear KT h4 H3
        go_wp2
        go_roundg (n - (k + 1))
        case measure => omega
        case rel => exact ⟨k + 1, by go_num, by omega, by omega, H4.out⟩
    · have hltz : ¬ (k : Int) < (n : Int) := by omega
      obtain rfl : k = n := by omega
      go_wp2
      go_ret2
      have e := HS.out
      rw [List.take_of_length_le (by rw [HB.out.2.2.2.2.1]; exact Nat.le_refl _)] at e
      rw [HR.out]
      exact ⟨_, rfl, e⟩
end Go.Proofs.YthffjcacdcipeaaDoor
