/-
  AttrsBack's walk.
-/
import Derived.Test.YtcjmnmcldppdhaaDoorAlive
import Derived.Deep.DeepCutAuto
import Derived.Deep.CutBlock
namespace Go.Proofs.YtcjmnmcldppdhaaDoor
open Go.RowKit Go.Lib
set_option linter.unusedVariables false

set_option maxHeartbeats 1000000 in
set_option maxRecDepth 100000 in
theorem back_long (f m t f' m' t' : Nat) (s : ByteArray) (w : World) (hs : 500 < s.size) (hm : s.size ≤ maxLen) (hT : Tabs w) : Calls Tryd.prog 5 #[av f m t, av f' m' t', .string s] w (Truth w) := by
  have HT : Aside (Tabs w) := hT
  have K : ∀ W, Stp [] w [] W → Calls Tryd.prog 12 #[] W (Tells (.bool true) W) := fun W hs => alive_run W (HT.out.stays hs)
  have HK := Lib.hid K
  have hz : (500 : Int) < (s.size : Int) := by omega
  clear hT K hs hm
  unfold av
  go_enter Tryd.func5, Tryd.ntmps5
  go_wp2_with (go_at_call 12; refine (HK.out _ ((Stp.alloc [] _ _).trans (Stp.alloc [] _ _))).mono ?_; rintro _ w1 ⟨rfl, h1⟩)
  go_ret
  exact ⟨rfl, (((Stp.alloc [] _ _).trans (Stp.alloc [] _ _)).trans h1).under⟩

/-- Two attributes are alike, or not; and so their texts. -/
theorem alike_cases {f m t f' m' t' : Nat} (h : Ok f m t) (h' : Ok f' m' t') :
    (f = f' ∧ m = m' ∧ t = t') ∨ ((f ≠ f' ∨ m ≠ m' ∨ t ≠ t') ∧ ((st (text f m t)).toList == (st (text f' m' t')).toList) = false) := by
  by_cases e : f = f' ∧ m = m' ∧ t = t'
  · exact .inl e
  · refine .inr ⟨?_, st_no fun g => e (text_inj h h' (st_inj g))⟩
    by_cases e1 : f = f'
    · by_cases e2 : m = m'
      · exact .inr (.inr fun e3 => e ⟨e1, e2, e3⟩)
      · exact .inr (.inl e2)
    · exact .inl e1

set_option maxHeartbeats 4000000 in
set_option maxRecDepth 100000 in
theorem back_short (f m t f' m' t' : Nat) (l : List UInt8) (w : World) (ho : Ok f m t) (ho' : Ok f' m' t') (hs : l.length ≤ 500) (hT : Tabs w) : Calls Tryd.prog 5 #[av f m t, av f' m' t', .string (st l)] w (Truth w) := by
  have HT : Aside (Tabs w) := hT
  have K1 : Hid (∀ W, Stp [] w [] W → Calls Tryd.prog 21 #[.agg #[.int .u32 (f : Int), .int .u8 (m : Int), .int .u8 (t : Int)]] W (Tells (.string (st (text f m t))) W)) := Lib.hid fun W hs => text_run ho W (HT.out.stays hs)
  have K2 : Hid (∀ W, Stp [] w [] W → Calls Tryd.prog 21 #[.agg #[.int .u32 (f' : Int), .int .u8 (m' : Int), .int .u8 (t' : Int)]] W (Tells (.string (st (text f' m' t'))) W)) := Lib.hid fun W hs => text_run ho' W (HT.out.stays hs)
  have K3 : Hid (∀ W, Stp [] w [] W → Calls Tryd.prog 19 #[.string (st (text f m t))] W (Tells (.tuple #[.agg #[.int .u32 (f : Int), .int .u8 (m : Int), .int .u8 (t : Int)], .int .i64 0]) W)) := Lib.hid fun W hs => by
    have := read_run (text f m t) (by have := text_len ho; omega) W (HT.out.stays hs)
    rw [rv_text ho] at this
    exact this
  have K4 : Hid (∀ W, Stp [] w [] W → Calls Tryd.prog 19 #[.string (st l)] W (Tells (rv l) W)) := Lib.hid fun W hs => read_run l (by omega) W (HT.out.stays hs)
  have K5 : Hid (∀ W, Stp [] w [] W → Calls Tryd.prog 12 #[] W (Tells (.bool true) W)) := Lib.hid fun W hs => alive_run W (HT.out.stays hs)
  have HC : Aside ((f = f' ∧ m = m' ∧ t = t') ∨ ((f ≠ f' ∨ m ≠ m' ∨ t ≠ t') ∧ ((st (text f m t)).toList == (st (text f' m' t')).toList) = false)) := alike_cases ho ho'
  have hsz := st_size l
  have hz : ¬ (500 : Int) < (l.length : Int) := by omega
  have HL : Aside (l.length ≤ 500) := hs
  clear hT ho ho' hs
  unfold av
  go_enter Tryd.func5, Tryd.ntmps5
  go_wp2_with fail
  have H0 : Aside (At3 ((w.alloc (.cells #[.int .u32 (f : Int), .int .u8 (m : Int), .int .u8 (t : Int)] 24)).alloc (.cells #[.int .u32 (f' : Int), .int .u8 (m' : Int), .int .u8 (t' : Int)] 24)) w.heap.size f m t ∧
      At3 ((w.alloc (.cells #[.int .u32 (f : Int), .int .u8 (m : Int), .int .u8 (t : Int)] 24)).alloc (.cells #[.int .u32 (f' : Int), .int .u8 (m' : Int), .int .u8 (t' : Int)] 24)) (w.heap.size + 1) f' m' t' ∧
      Stp [] w [] ((w.alloc (.cells #[.int .u32 (f : Int), .int .u8 (m : Int), .int .u8 (t : Int)] 24)).alloc (.cells #[.int .u32 (f' : Int), .int .u8 (m' : Int), .int .u8 (t' : Int)] 24))) :=
    ⟨(At3.new w f m t).stays (Stp.alloc [] _ _), heap_alloc2_new w _ _, (Stp.alloc [] _ _).trans (Stp.alloc [] _ _)⟩
  generalize (w.alloc (.cells #[.int .u32 (f : Int), .int .u8 (m : Int), .int .u8 (t : Int)] 24)).alloc (.cells #[.int .u32 (f' : Int), .int .u8 (m' : Int), .int .u8 (t' : Int)] 24) = w0 at *
  generalize w.heap.size = ga at *
  generalize ga + 1 = gb at *
  refine (K1.out _ H0.out.2.2).mono ?_
  rintro _ w1 ⟨rfl, h1⟩
  go_wp2_with fail
  refine (K3.out _ (H0.out.2.2.trans h1)).mono ?_
  rintro _ w2 ⟨rfl, h2⟩
  have H2 : Aside (At3 w2 ga f m t ∧ At3 w2 gb f' m' t' ∧ Stp [] w [] w2) := ⟨(H0.out.1.stays h1).stays h2, (H0.out.2.1.stays h1).stays h2, (H0.out.2.2.trans h1).trans h2⟩
  clear h1 h2 H0 K3
  go_upto_region 4 with fail
  have H3 : Aside (At3 (w2.alloc (.cells #[.int .u32 (f : Int), .int .u8 (m : Int), .int .u8 (t : Int)] 24)) ga f m t ∧ At3 (w2.alloc (.cells #[.int .u32 (f : Int), .int .u8 (m : Int), .int .u8 (t : Int)] 24)) gb f' m' t' ∧
      At3 (w2.alloc (.cells #[.int .u32 (f : Int), .int .u8 (m : Int), .int .u8 (t : Int)] 24)) w2.heap.size f m t ∧ Stp [] w [] (w2.alloc (.cells #[.int .u32 (f : Int), .int .u8 (m : Int), .int .u8 (t : Int)] 24))) :=
    ⟨H2.out.1.stays (Stp.alloc [] _ _), H2.out.2.1.stays (Stp.alloc [] _ _), At3.new w2 f m t, H2.out.2.2.trans (Stp.alloc [] _ _)⟩
  generalize w2.alloc (.cells #[.int .u32 (f : Int), .int .u8 (m : Int), .int .u8 (t : Int)] 24) = w3 at *
  generalize w2.heap.size = gx at *
  clear H2
  go_cut [42] (fun s42 wx => s42 = .bool false ∧ Aside (Stp [] w [] wx))
  case first =>
    clear K4 HL
    have hk0 : Aside (∀ W, Stp [] w3 [] W → Stp [] w3 [] W ∧ W.cell? ⟨ga, 0, none⟩ = some (.int .u32 (f : Int)) ∧ W.cell? ⟨ga, 1, none⟩ = some (.int .u8 (m : Int)) ∧ W.cell? ⟨ga, 2, none⟩ = some (.int .u8 (t : Int)) ∧
        W.cell? ⟨gb, 0, none⟩ = some (.int .u32 (f' : Int)) ∧ W.cell? ⟨gb, 1, none⟩ = some (.int .u8 (m' : Int)) ∧ W.cell? ⟨gb, 2, none⟩ = some (.int .u8 (t' : Int)) ∧
        W.cell? ⟨gx, 0, none⟩ = some (.int .u32 (f : Int)) ∧ W.cell? ⟨gx, 1, none⟩ = some (.int .u8 (m : Int)) ∧ W.cell? ⟨gx, 2, none⟩ = some (.int .u8 (t : Int))) :=
      fun W hs => ⟨hs, (H3.out.1.stays hs).cells.1, (H3.out.1.stays hs).cells.2.1, (H3.out.1.stays hs).cells.2.2.1, (H3.out.2.1.stays hs).cells.1, (H3.out.2.1.stays hs).cells.2.1, (H3.out.2.1.stays hs).cells.2.2.1, (H3.out.2.2.1.stays hs).cells.1, (H3.out.2.2.1.stays hs).cells.2.1, (H3.out.2.2.1.stays hs).cells.2.2.1⟩
    have hcur : Stp [] w3 [] w3.drew := Stp.drew _ _
    rcases HC.out with ⟨e1, e2, e3⟩ | ⟨hne, hq⟩
    · subst e1 e2 e3
      have hq : ((st (text f m t)).toList == (st (text f m t)).toList) = true := st_yes rfl
      clear HC
      generalize st (text f m t) = ta at *
      go_region_held (fun W => Stp [] w3 [] W ∧ W.cell? ⟨ga, 0, none⟩ = some (.int .u32 (f : Int)) ∧ W.cell? ⟨ga, 1, none⟩ = some (.int .u8 (m : Int)) ∧ W.cell? ⟨ga, 2, none⟩ = some (.int .u8 (t : Int)) ∧
          W.cell? ⟨gb, 0, none⟩ = some (.int .u32 (f : Int)) ∧ W.cell? ⟨gb, 1, none⟩ = some (.int .u8 (m : Int)) ∧ W.cell? ⟨gb, 2, none⟩ = some (.int .u8 (t : Int)) ∧
          W.cell? ⟨gx, 0, none⟩ = some (.int .u32 (f : Int)) ∧ W.cell? ⟨gx, 1, none⟩ = some (.int .u8 (m : Int)) ∧ W.cell? ⟨gx, 2, none⟩ = some (.int .u8 (t : Int)))
        (first | exact hk0.out _ hcur | assumption)
        (first
          | (go_at_call 12; refine (K5.out _ (H3.out.2.2.2.trans hcur)).mono ?_; rintro _ w4 ⟨rfl, s4⟩; replace hcur := hcur.trans s4; clear s4)
          | (go_at_call 21; refine (K1.out _ (H3.out.2.2.2.trans hcur)).mono ?_; rintro _ w5 ⟨rfl, s5⟩; replace hcur := hcur.trans s5; clear s5))
      all_goals
        go_wp2_with fail
        go_meet
        exact ⟨rfl, H3.out.2.2.2.trans hcur⟩
    · clear HC
      generalize st (text f m t) = ta at *
      generalize st (text f' m' t') = tb at *
      rcases hne with hne | hne | hne
      · have hne2 : ¬ (f : Int) = (f' : Int) := by omega
        have hne1 : ((f : Int) == (f' : Int)) = false := beq_eq_false_iff_ne.2 hne2
        go_region_held (fun W => Stp [] w3 [] W ∧ W.cell? ⟨ga, 0, none⟩ = some (.int .u32 (f : Int)) ∧ W.cell? ⟨ga, 1, none⟩ = some (.int .u8 (m : Int)) ∧ W.cell? ⟨ga, 2, none⟩ = some (.int .u8 (t : Int)) ∧
            W.cell? ⟨gb, 0, none⟩ = some (.int .u32 (f' : Int)) ∧ W.cell? ⟨gb, 1, none⟩ = some (.int .u8 (m' : Int)) ∧ W.cell? ⟨gb, 2, none⟩ = some (.int .u8 (t' : Int)) ∧
            W.cell? ⟨gx, 0, none⟩ = some (.int .u32 (f : Int)) ∧ W.cell? ⟨gx, 1, none⟩ = some (.int .u8 (m : Int)) ∧ W.cell? ⟨gx, 2, none⟩ = some (.int .u8 (t : Int)))
          (first | exact hk0.out _ hcur | assumption)
          (first
            | (go_at_call 12; refine (K5.out _ (H3.out.2.2.2.trans hcur)).mono ?_; rintro _ w4 ⟨rfl, s4⟩; replace hcur := hcur.trans s4; clear s4)
            | (go_at_call_of 21 (Value.agg #[.int .u32 (f : Int), .int .u8 (m : Int), .int .u8 (t : Int)]); refine (K1.out _ (H3.out.2.2.2.trans hcur)).mono ?_; rintro _ w5 ⟨rfl, s5⟩; replace hcur := hcur.trans s5; clear s5)
            | (go_at_call_of 21 (Value.agg #[.int .u32 (f' : Int), .int .u8 (m' : Int), .int .u8 (t' : Int)]); refine (K2.out _ (H3.out.2.2.2.trans hcur)).mono ?_; rintro _ w6 ⟨rfl, s6⟩; replace hcur := hcur.trans s6; clear s6))
        all_goals
          go_wp2_with fail
          go_meet
          exact ⟨rfl, H3.out.2.2.2.trans hcur⟩
      · have hne2 : ¬ (m : Int) = (m' : Int) := by omega
        have hne1 : ((m : Int) == (m' : Int)) = false := beq_eq_false_iff_ne.2 hne2
        go_region_held (fun W => Stp [] w3 [] W ∧ W.cell? ⟨ga, 0, none⟩ = some (.int .u32 (f : Int)) ∧ W.cell? ⟨ga, 1, none⟩ = some (.int .u8 (m : Int)) ∧ W.cell? ⟨ga, 2, none⟩ = some (.int .u8 (t : Int)) ∧
            W.cell? ⟨gb, 0, none⟩ = some (.int .u32 (f' : Int)) ∧ W.cell? ⟨gb, 1, none⟩ = some (.int .u8 (m' : Int)) ∧ W.cell? ⟨gb, 2, none⟩ = some (.int .u8 (t' : Int)) ∧
            W.cell? ⟨gx, 0, none⟩ = some (.int .u32 (f : Int)) ∧ W.cell? ⟨gx, 1, none⟩ = some (.int .u8 (m : Int)) ∧ W.cell? ⟨gx, 2, none⟩ = some (.int .u8 (t : Int)))
          (first | exact hk0.out _ hcur | assumption)
          (first
            | (go_at_call 12; refine (K5.out _ (H3.out.2.2.2.trans hcur)).mono ?_; rintro _ w4 ⟨rfl, s4⟩; replace hcur := hcur.trans s4; clear s4)
            | (go_at_call_of 21 (Value.agg #[.int .u32 (f : Int), .int .u8 (m : Int), .int .u8 (t : Int)]); refine (K1.out _ (H3.out.2.2.2.trans hcur)).mono ?_; rintro _ w5 ⟨rfl, s5⟩; replace hcur := hcur.trans s5; clear s5)
            | (go_at_call_of 21 (Value.agg #[.int .u32 (f' : Int), .int .u8 (m' : Int), .int .u8 (t' : Int)]); refine (K2.out _ (H3.out.2.2.2.trans hcur)).mono ?_; rintro _ w6 ⟨rfl, s6⟩; replace hcur := hcur.trans s6; clear s6))
        all_goals
          go_wp2_with fail
          go_meet
          exact ⟨rfl, H3.out.2.2.2.trans hcur⟩
      · have hne2 : ¬ (t : Int) = (t' : Int) := by omega
        have hne1 : ((t : Int) == (t' : Int)) = false := beq_eq_false_iff_ne.2 hne2
        go_region_held (fun W => Stp [] w3 [] W ∧ W.cell? ⟨ga, 0, none⟩ = some (.int .u32 (f : Int)) ∧ W.cell? ⟨ga, 1, none⟩ = some (.int .u8 (m : Int)) ∧ W.cell? ⟨ga, 2, none⟩ = some (.int .u8 (t : Int)) ∧
            W.cell? ⟨gb, 0, none⟩ = some (.int .u32 (f' : Int)) ∧ W.cell? ⟨gb, 1, none⟩ = some (.int .u8 (m' : Int)) ∧ W.cell? ⟨gb, 2, none⟩ = some (.int .u8 (t' : Int)) ∧
            W.cell? ⟨gx, 0, none⟩ = some (.int .u32 (f : Int)) ∧ W.cell? ⟨gx, 1, none⟩ = some (.int .u8 (m : Int)) ∧ W.cell? ⟨gx, 2, none⟩ = some (.int .u8 (t : Int)))
          (first | exact hk0.out _ hcur | assumption)
          (first
            | (go_at_call 12; refine (K5.out _ (H3.out.2.2.2.trans hcur)).mono ?_; rintro _ w4 ⟨rfl, s4⟩; replace hcur := hcur.trans s4; clear s4)
            | (go_at_call_of 21 (Value.agg #[.int .u32 (f : Int), .int .u8 (m : Int), .int .u8 (t : Int)]); refine (K1.out _ (H3.out.2.2.2.trans hcur)).mono ?_; rintro _ w5 ⟨rfl, s5⟩; replace hcur := hcur.trans s5; clear s5)
            | (go_at_call_of 21 (Value.agg #[.int .u32 (f' : Int), .int .u8 (m' : Int), .int .u8 (t' : Int)]); refine (K2.out _ (H3.out.2.2.2.trans hcur)).mono ?_; rintro _ w6 ⟨rfl, s6⟩; replace hcur := hcur.trans s6; clear s6))
        all_goals
          go_wp2_with fail
          go_meet
          exact ⟨rfl, H3.out.2.2.2.trans hcur⟩
  case rest =>
    obtain ⟨rfl, HS⟩ := hcut
    clear K1 K2 HC K5 H3
    rcases rv_cases l with ⟨F, M, T, hok, htx, hrv⟩ | ⟨_, hrv⟩
    · have KR : Hid (Calls Tryd.prog 19 #[.string (st l)] wc (Tells (.tuple #[.agg #[.int .u32 (F : Int), .int .u8 (M : Int), .int .u8 (T : Int)], .int .i64 0]) wc)) := Lib.hid (by
        have := K4.out wc HS.out
        rw [hrv] at this
        exact this)
      have KT : Hid (∀ W, Stp [] w [] W → Calls Tryd.prog 21 #[.agg #[.int .u32 (F : Int), .int .u8 (M : Int), .int .u8 (T : Int)]] W (Tells (.string (st l)) W)) := Lib.hid fun W hs => by
        have := text_run hok W (HT.out.stays hs)
        rw [htx] at this
        exact this
      clear K4 hok htx hrv
      have hq : ((st l).toList == (st l).toList) = true := st_yes rfl
      generalize st l = sl at *
      go_wp2_with (first
        | (go_at_call 19; refine KR.out.mono ?_; rintro _ w6 ⟨rfl, s6⟩; have H6 : Aside (Stp [] w [] w6) := HS.out.trans s6; clear s6)
        | (go_at_call 21; refine (KT.out _ (H6.out.trans (Stp.alloc [] _ _))).mono ?_; rintro _ w7 ⟨rfl, s7⟩))
      go_ret
      exact ⟨rfl, ((H6.out.trans (Stp.alloc [] _ _)).trans s7).under⟩
    · have KR : Hid (Calls Tryd.prog 19 #[.string (st l)] wc (Tells (.tuple #[.agg #[.int .u32 0, .int .u8 0, .int .u8 0], .int .i64 8]) wc)) := Lib.hid (by
        have := K4.out wc HS.out
        rw [hrv] at this
        exact this)
      clear K4 hrv
      generalize st l = sl at *
      go_wp2_with (first
        | (go_at_call 19; refine KR.out.mono ?_; rintro _ w6 ⟨rfl, s6⟩; have H6 : Aside (Stp [] w [] w6) := HS.out.trans s6; clear s6))
      go_ret
      exact ⟨rfl, (H6.out.trans (Stp.alloc [] _ _)).under⟩
theorem back_walk (f m t f' m' t' : Nat) (s : ByteArray) (w : World) (ho : Ok f m t) (ho' : Ok f' m' t') (hm : s.size ≤ maxLen) (hT : Tabs w) : Calls Tryd.prog 5 #[av f m t, av f' m' t', .string s] w (Truth w) := by
  rcases Nat.lt_or_ge 500 s.size with h | h
  · exact back_long f m t f' m' t' s w h hm hT
  · have hl : s.data.toList.length ≤ 500 := by rw [← size_eq]; exact h
    have := back_short f m t f' m' t' s.data.toList w ho ho' hl hT
    rw [st_of] at this
    exact this
end Go.Proofs.YtcjmnmcldppdhaaDoor
