/-
  The program's mayBeShown: whether a text is the bytes of characters that may be shown.
-/
import Derived.Test.YtjenbhaaahpliaaDoorUText
import Derived.Test.YtjenbhaaahpliaaDoorFine
namespace Go.Proofs.YtjenbhaaahpliaaDoor
open Go.RowKit Go.Shelf Go.Lib
set_option linter.unusedVariables false

theorem own_of_U {w : World} {base : Nat} {v : Value} {l : List Nat} (h : U.Own w base v l) (hl : ∀ x ∈ l, x < 256) : Own w base v (l.map UInt8.ofNat) := by
  have e1 : (l.map UInt8.ofNat).map bval = l.map U.bval := by
    rw [List.map_map]
    refine List.map_congr_left (fun x hx => ?_)
    show Value.int .u8 (((UInt8.ofNat x).toNat : Nat) : Int) = Value.int .u8 (x : Int)
    rw [UInt8.toNat_ofNat', Nat.mod_eq_of_lt (hl x hx)]
  unfold Own
  rw [e1, List.length_map]
  exact h
theorem ustr_st (l : List UInt8) : U.str (l.map UInt8.toNat) = st l := by
  rw [← str_st]
  unfold U.str str
  rw [List.map_map]
  rfl
theorem textL8 (l : List UInt8) : (U.textL (l.map UInt8.toNat)).map UInt8.ofNat = fl (chs l) := by
  unfold U.textL fl chs enc8
  rw [List.map_flatMap]
theorem textL_lt (l : List UInt8) : ∀ x ∈ U.textL (l.map UInt8.toNat), x < 256 := U.flat_lt (U.chars_all (nat_lt l))
/-- Is it its own text? -/
def Rt (l : List UInt8) : Prop := fl (chs l) = l
theorem rt_fi {l : List UInt8} (h : Fi l) : Rt l := h.of.2
theorem rt_step {m : List UInt8} (hm : m ≠ []) (h : Rt m) : (nx8 m).2.2 = 0 ∧ Rt (m.drop (nx8 m).2.1) := by
  have hne : m.map UInt8.toNat ≠ [] := by simpa using hm
  have e : chs m = U.chr (m.map UInt8.toNat) :: chs (m.drop (nx8 m).2.1) := by
    unfold chs
    rw [U.chars_cons hne (nat_lt m), List.map_drop]
    rfl
  have hc : U.isCh (U.chr (m.map UInt8.toNat) : Int) = true := U.chr_isCh (nat_lt m)
  have h2 : enc8 (U.chr (m.map UInt8.toNat)) ++ fl (chs (m.drop (nx8 m).2.1)) = m := by
    rw [← fl_cons, ← e]
    exact h
  generalize U.chr (m.map UInt8.toNat) = c at *
  have e3 := nx8_enc hc (fl (chs (m.drop (nx8 m).2.1)))
  rw [h2] at e3
  refine ⟨by rw [e3], ?_⟩
  unfold Rt
  have e4 : (nx8 m).2.1 = (enc8 c).length := by rw [e3]
  have h5 := congrArg (List.drop (nx8 m).2.1) h2
  rw [e4] at h5 ⊢
  rw [List.drop_left' rfl] at h5
  exact h5
theorem cmp_fi {l : List UInt8} (h : Rt l → (Fi l ↔ Fi [])) : ((st (fl (chs l))).toList == (st l).toList) = fiB l := by
  by_cases hr : Rt l
  · have e : fl (chs l) = l := hr
    rw [e, (fi_iff l).2 ((h hr).2 Fi.nil)]
    simp
  · have h1 : fiB l = false := by
      cases hb : fiB l
      · rfl
      · exact absurd (rt_fi ((fi_iff l).1 hb)) hr
    rw [h1]
    exact st_no (fun e => hr (st_inj e))
theorem iter_stp (w : World) (k : Nat) (s : ByteArray) (p : Nat) (B : Nat) (hB : B ≤ k) : Below B w (w.iterAt k s p) :=
  ⟨rfl, rfl, rfl, by rw [iterAt_size]; exact Nat.le_refl _, fun i hi => iterAt_other w k i s p (by omega)⟩
set_option maxHeartbeats 1000000 in
set_option maxRecDepth 100000 in
theorem may_run (l : List UInt8) (w : World) (hl : l.length ≤ 100000) (hT : U.Tabs w) : Calls Tryd.prog 27 #[.string (st l)] w (Tells (.bool (fiB l)) w) := by
  have HT := Lib.hid hT
  clear hT
  have hsz := st_size l
  go_enter Tryd.func27, Tryd.ntmps27
  go_wp2
  go_loopg [4] (l.length + 1) (fun gk v4 wr => ∃ p : Nat, p ≤ l.length ∧ l.length - p < gk ∧ wr.heap[w.heap.size]? = some (.stringIter (st l) p) ∧ Aside (Below w.heap.size w wr ∧ (Rt l → Rt (l.drop p) ∧ (Fi l ↔ Fi (l.drop p)))))
  case atStart => exact ⟨0, Nat.zero_le _, by omega, World.iter_heap w _ _, (Below.refl _ _).alloc (Nat.le_refl _) _, fun h => ⟨h, Iff.rfl⟩⟩
  case round =>
    obtain ⟨p, hp, hg, hit, HS⟩ := hrel
    have Hit := Lib.hid hit
    by_cases hpl : p < l.length
    · have hnx := fun ty => run_next_any_at (P := Tryd.prog) wr w.heap.size (st l) p ty hit (by rw [st_size]; exact hpl)
      rw [← ustr_st, U.decode_str _ (nat_lt l), ustr_st, ← List.map_drop] at hnx
      obtain ⟨m, hm⟩ : ∃ m, m = l.drop p := ⟨_, rfl⟩
      rw [← hm] at hnx
      have hml : l.length - p = m.length := by rw [hm, List.length_drop]
      have hne : m ≠ [] := by intro e; rw [e] at hml; simp at hml; omega
      have hmn : m.map UInt8.toNat ≠ [] := by simpa using hne
      obtain ⟨hd1, hd2, hd3⟩ := U.decL_chr hmn (nat_lt m)
      have hk := nx8_pos hne
      have hic := U.chr_isCh (nat_lt m)
      have hRT := rt_step hne
      obtain ⟨D, hD⟩ : ∃ D, U.decL (m.map UInt8.toNat) = D := ⟨_, rfl⟩
      rw [hD] at hnx hd1 hd2 hd3
      obtain ⟨c, wd⟩ := D
      simp only at hd1 hd2 hd3 hnx
      rw [← hd1] at hic
      have hcb : c ≤ 1114111 := by have := of_decide_eq_true hic; omega
      have hwd : 1 ≤ wd ∧ wd ≤ l.length - p := by
        by_cases h0 : (nx8 m).2.2 = 0
        · have := hd2 h0
          unfold nx8 at hk
          omega
        · have := hd3 h0
          omega
      have HF : Aside (Rt l → c = (nx8 m).1 ∧ wd = (nx8 m).2.1 ∧ (nx8 m).2.2 = 0 ∧ Rt (m.drop wd) ∧ (Fi l ↔ Fi m)) := fun hr => by
        have h1 := HS.out.2 hr
        rw [← hm] at h1
        obtain ⟨h2, h3⟩ := hRT h1.1
        have h4 : wd = (nx8 m).2.1 := hd2 h2
        refine ⟨?_, h4, h2, by rw [h4]; exact h3, h1.2⟩
        rw [hd1]
        unfold U.chr
        exact if_pos h2
      have HM := Lib.hid (And.intro hm hne)
      have KP := Lib.hid (fun W => U.pr_any (c : Int) W)
      clear hd1 hd2 hd3 hk hic hRT hD hmn hml hm hne hit
      cases hp : U.prB (c : Int) with
      | true =>
        rw [hp] at KP
        have HP := Lib.hid hp
        clear hp
        go_wp2_with fail
        refine (KP.out _).mono ?_
        rintro _ _ ⟨rfl, rfl⟩
        go_wp2
        go_roundg (l.length - (p + wd) + 1)
        case measure => omega
        case rel =>
          refine ⟨p + wd, by omega, by omega, iterAt_heap wr _ _ p _ Hit.out, HS.out.1.trans (iter_stp wr _ _ _ _ (Nat.le_refl _)), fun hr => ?_⟩
          obtain ⟨h1, h2, h3, h4, h5⟩ := HF.out hr
          have hs := Fi.step HM.out.2 h3 (by rw [← h1]; exact HP.out)
          rw [← List.drop_drop, ← HM.out.1]
          refine ⟨h4, h5.trans ?_⟩
          rw [← h2] at hs
          exact ⟨fun h => by rw [hs.1] at h; exact Fi.cancel hs.2 h, fun h => by rw [hs.1]; exact Fi.app hs.2 h⟩
      | false =>
        rw [hp] at KP
        have HP := Lib.hid hp
        clear hp
        go_wp2_with fail
        refine (KP.out _).mono ?_
        rintro _ _ ⟨rfl, rfl⟩
        go_wp2
        go_ret
        have hf : fiB l = false := by
          cases hb : fiB l
          · rfl
          · have hfi := (fi_iff l).1 hb
            obtain ⟨h1, h2, h3, h4, h5⟩ := HF.out (rt_fi hfi)
            exact absurd (h5.1 hfi) (Fi.no HM.out.2 (.inr (by rw [← h1]; exact HP.out)))
        rw [hf]
        exact ⟨rfl, Stp.of_below (HS.out.1.trans (iter_stp wr _ _ _ _ (Nat.le_refl _)))⟩
    · obtain rfl : p = l.length := by omega
      have hnx := fun ty => run_next_end_at (P := Tryd.prog) wr w.heap.size (st l) l.length ty hit (by rw [st_size]; omega)
      have hcmp := cmp_fi (l := l) (fun hr => by have := (HS.out.2 hr).2; simpa using this)
      obtain ⟨a, cc, wa, hcv, hbt, hcc, hcm, hs⟩ := conv_st wr l (by omega)
      have hta : U.Tabs wa := (HT.out.below HS.out.1).below hs.under
      have KT := U.text_any a cc (l.map UInt8.toNat) wa (bts_to_U hbt) (by simpa using hcc) hcm (by simpa using hl) hta
      rw [List.length_map] at KT
      have KT := Lib.hid KT
      have HB := Lib.hid (HS.out.1.trans (hs.under.mono HS.out.1.size))
      clear hit hbt hs hta
      go_wp2_with fail
      refine KT.out.mono ?_
      rintro _ w1 ⟨v, rfl, ho, hb⟩
      have ho2 := own_of_U ho (textL_lt l)
      rw [textL8] at ho2
      obtain ⟨a1, c1, rfl, hbt1, _, _, _⟩ := ho2.bts
      have hc1 := conv_bts c1 _ hbt1 rfl
      go_wp2
      go_ret
      exact ⟨rfl, Stp.of_below (HB.out.trans (hb.mono HB.out.size))⟩
end Go.Proofs.YtjenbhaaahpliaaDoor
