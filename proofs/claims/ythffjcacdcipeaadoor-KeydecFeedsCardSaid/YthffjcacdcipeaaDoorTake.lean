/-
  The decoder: take: the keys that end in what is held.
-/
import Derived.Test.YthffjcacdcipeaaDoorFr
import Derived.Test.YthffjcacdcipeaaDoorRow
namespace Go.Proofs.YthffjcacdcipeaaDoor
open Go.RowKit Go.Lib
set_option linter.unusedVariables false

/-- What take and Feed leave: a row of keys, and the decoder. -/
structure TkAt (W0 : World) (d b g N : Nat) (v : Value) (ks : List Ky) (h : List UInt8) (p : Bool) (w' : World) : Prop where
  row : KOwn w' W0.heap.size v ks
  dc : Dc w' d b g N h p
  stp : Stp [d, b, g] W0 [d, b, g] w'
def Took (W0 : World) (d b g N : Nat) (ks : List Ky) (r : Rd) (e : Ending) (w' : World) : Prop := ∃ v', e = .returned v' ∧ TkAt W0 d b g N v' ks r.h r.p w'
set_option maxHeartbeats 1000000 in
set_option maxRecDepth 100000 in
theorem take_run {W0 W : World} {d b g N : Nat} {l : List UInt8} {p : Bool} {v : Value} {xs : List Ky} (hlo : d < W0.heap.size ∧ b < W0.heap.size ∧ g < W0.heap.size) (h : TkAt W0 d b g N v xs l p W) (hT0 : U.Tabs W0) (h36 : l.length ≤ 36) (hx : xs.length ≤ 900000) :
    Calls Tryd.prog 31 #[.pointer (some ⟨d, 0, none⟩), v] W (Took W0 d b g N (xs ++ (rd p l).ks) (rd p l)) := by
  have HL := Lib.hid (And.intro hlo (And.intro hT0 hx))
  have HS : Aside (TkAt W0 d b g N v xs l p W) := h
  clear h hlo hT0 hx
  obtain ⟨R, hR⟩ : ∃ R, R = rd p l := ⟨_, rfl⟩
  rw [← hR]
  have HR := Lib.hid hR
  clear hR
  go_enter Tryd.func31, Tryd.ntmps31
  go_wp2
  go_step3
  go_wp2
  go_step3
  go_wp2
  go_loopg [1] l.length (fun gk v1 wr => ∃ (ys : List Ky) (l' : List UInt8) (p' : Bool), l'.length ≤ gk ∧ l'.length ≤ 36 ∧ Aside (TkAt W0 d b g N v1 (xs ++ ys) l' p' wr ∧ ys.length + l'.length ≤ l.length ∧ R = ⟨ys ++ (rd p' l').ks, (rd p' l').h, (rd p' l').p⟩))
  case atStart => exact ⟨[], l, p, Nat.le_refl _, h36, by rw [List.append_nil]; exact HS.out, by simp, by show R = _; rw [HR.out]; rfl⟩
  case round =>
    obtain ⟨ys, l', p', hgk, h36', HQ⟩ := hrel
    have c0 := HQ.out.1.dc.c0
    have K1 := Lib.hid (len_cl HQ.out.1.dc.ar)
    by_cases hl0 : l' = []
    · subst hl0
      have HE : Aside (R = ⟨ys, [], p'⟩) := by
        have e := HQ.out.2.2
        rw [rd_nil, List.append_nil] at e
        exact e
      have i0 : ¬ (0 : Int) < (([] : List UInt8).length : Int) := by simp
      go_wp2_with fail
      refine K1.out.mono ?_
      rintro _ w1 ⟨rfl, rfl⟩
      clear K1 c0
      go_wp2
      rw [Exit.noGoto_ret]
      go_ret
      rw [HE.out]
      exact ⟨_, rfl, HQ.out.1⟩
    · have i0 : 0 < l'.length := List.length_pos_iff.2 hl0
      have HT : Aside (U.Tabs wr) := utabs_other HL.out.2.1 HQ.out.1.stp (by
        have := HQ.out.1.dc.lo
        intro k hk
        simp at hk
        omega)
      obtain ⟨o, ho⟩ : ∃ o, o = fst1 p' l' := ⟨_, rfl⟩
      have K2 : Hid (Calls Tryd.prog 44 #[.pointer (some ⟨d, 0, none⟩)] wr (DNext d b g N l' p' wr o)) := Lib.hid (by rw [ho]; exact first_run HQ.out.1.dc HT.out hl0 h36')
      have HO := Lib.hid ho
      clear ho HT hl0
      go_wp2_with fail
      refine K1.out.mono ?_
      rintro _ w1 ⟨rfl, rfl⟩
      clear K1
      go_wp2_with fail
      refine K2.out.mono ?_
      clear K2
      cases o with
      | none =>
        rintro _ w2 ⟨z, q, rfl, hq, hd2, s2⟩
        have hq0 : (q == 0) = false := beq_eq_false_iff_ne.2 hq
        have HE : Aside (R = ⟨ys, l', p'⟩) := by
          have e := HQ.out.2.2
          rw [rd_none HO.out.symm, List.append_nil] at e
          exact e
        have H2 : Aside (TkAt W0 d b g N u1 (xs ++ ys) l' p' (w2.alloc (.cells #[.int .i64 0, .int .i64 0] 41))) := by
          have hs := HQ.out.1.stp.into (s2.trans (Stp.alloc [d] w2 (.cells #[.int .i64 0, .int .i64 0] 41))) (fun i hi => .inl (by simp at hi; simp [hi])) (K := [d, b, g]) (fun i hi => .inl hi)
          exact ⟨(HQ.out.1.row.other s2 (fun k hk => by have := (HQ.out.1.row.lt k hk).1; have := HL.out.1; simp; omega)).stays (Stp.alloc [] w2 _), hd2.stays (Stp.alloc [] w2 _), hs⟩
        clear hd2 s2 hq HQ HO c0 i0
        unfold kv
        go_wp2
        rw [Exit.noGoto_ret]
        go_ret
        rw [HE.out]
        exact ⟨_, rfl, H2.out⟩
      | some f =>
        rintro _ w2 ⟨rfl, hd2, s2⟩
        obtain ⟨x, n, p2⟩ := f
        have H2 : Aside (TkAt W0 d b g N u1 (xs ++ ys) l' p2 (w2.alloc (.cells #[.int .i64 x.1, .int .i64 x.2] 41))) := by
          have hs := HQ.out.1.stp.into (s2.trans (Stp.alloc [d] w2 (.cells #[.int .i64 x.1, .int .i64 x.2] 41))) (fun i hi => .inl (by simp at hi; simp [hi])) (K := [d, b, g]) (fun i hi => .inl hi)
          exact ⟨(HQ.out.1.row.other s2 (fun k hk => by have := (HQ.out.1.row.lt k hk).1; have := HL.out.1; simp; omega)).stays (Stp.alloc [] w2 _), hd2.stays (Stp.alloc [] w2 _), hs⟩
        have HE : Aside (R = ⟨ys ++ [x] ++ (rd p2 (l'.drop n)).ks, (rd p2 (l'.drop n)).h, (rd p2 (l'.drop n)).p⟩ ∧ 1 ≤ n ∧ n ≤ l'.length ∧ ys.length + l'.length ≤ l.length) := by
          have e := HQ.out.2.2
          have hb := fst1_bd HO.out.symm
          rw [rd_some HO.out.symm] at e
          exact ⟨by rw [e]; simp, hb.1, hb.2, HQ.out.2.1⟩
        clear hd2 s2 HQ HO c0 i0
        have H3 : Aside (TkAt W0 d b g N u1 (xs ++ ys) l' p2 ((w2.alloc (.cells #[.int .i64 x.1, .int .i64 x.2] 41)).alloc (.cells #[.int .i64 x.1, .int .i64 x.2] 41)) ∧ Kts ((w2.alloc (.cells #[.int .i64 x.1, .int .i64 x.2] 41)).alloc (.cells #[.int .i64 x.1, .int .i64 x.2] 41)) (some ⟨w2.heap.size + 1, 0, none⟩) [x]) := by
          have hk := key_new (w2.alloc (.cells #[.int .i64 x.1, .int .i64 x.2] 41)) x
          rw [World.size_alloc] at hk
          exact ⟨⟨H2.out.row.stays (Stp.alloc [] _ _), H2.out.dc.stays (Stp.alloc [] _ _), H2.out.stp.trans (Stp.alloc [d, b, g] _ _)⟩, hk⟩
        clear H2
        unfold kvp kv
        go_wp2_with (at_builtin; refine wpList_appK rfl (.tmp 23) (.tmp 25) rfl W0.heap.size u1 (xs ++ ys) rfl H3.out.1.row (some ⟨w2.heap.size + 1, 0, none⟩) 1 1 [x] rfl rfl H3.out.2 (fun h => by cases h) (by have := HL.out.2.2; have := HE.out.2.2.2; have := HE.out.2.1; have := HE.out.2.2.1; simp; omega) H3.out.1.stp.size ?_; intro v' w4 hrow hgrow; have H4 : Aside (TkAt W0 d b g N v' (xs ++ (ys ++ [x])) l' p2 w4) := ⟨by rw [← List.append_assoc]; exact hrow, Dc.grew H3.out.1.dc hgrow (fun k hk => by have := (H3.out.1.row.lt k hk).1; have := HL.out.1; omega), H3.out.1.stp.grew hgrow (fun k hk => (H3.out.1.row.lt k hk).1)⟩; have c0 := H4.out.dc.c0; clear hrow hgrow)
        refine (delete_run H4.out.dc.ar 0 n (Nat.zero_le _) HE.out.2.2.1).mono ?_
        rintro _ w5 ⟨rfl, ha, s5⟩
        rw [List.take_zero, List.nil_append] at ha
        have H5 : Aside (TkAt W0 d b g N v' (xs ++ (ys ++ [x])) (l'.drop n) p2 w5) := by
          have h1 := H4.out
          have h2 := HL.out.1
          exact ⟨h1.row.other s5 (fun k hk => by have := (h1.row.lt k hk).1; simp; omega), h1.dc.turn s5 ha, h1.stp.into s5 (fun i hi => .inl (by simp at hi; simp; omega)) (fun i hi => .inl hi)⟩
        have h1 := HE.out.2.1
        have h2 := HE.out.2.2.1
        clear ha s5 H3 H4 c0
        go_wp2
        go_roundg ((l'.drop n).length)
        case measure => rw [List.length_drop]; omega
        case rel => exact ⟨ys ++ [x], l'.drop n, p2, Nat.le_refl _, by rw [List.length_drop]; omega, H5.out, by have := HE.out.2.2.2; simp; omega, HE.out.1⟩
end Go.Proofs.YthffjcacdcipeaaDoor
