/-
  AttrsFlagless's walk.
-/
import Derived.Test.YtcjmnmcldppdhaaDoorWAttrsBack
namespace Go.Proofs.YtcjmnmcldppdhaaDoor
open Go.RowKit Go.Lib
set_option linter.unusedVariables false

theorem index_st (l : List UInt8) (i : Nat) (hi : i < l.length) (w : World) : (Instr.index 9 (.string (st l)) (.int .i64 (i : Int))).run Tryd.prog w = .ok (bval (l[i]!)) w := by
  rw [run_index_string w 9 (st l) .i64 i Tryd.underlying9, dif_pos ⟨by omega, by rw [st_size]; omega⟩]
  have h2 : (st l)[((i : Nat) : Int).toNat]'(by rw [st_size]; omega) = l[i]! := by
    rw [getElem!_pos l i hi]
    simp only [Int.toNat_natCast]
    have h3 : (st l).data.toList[i]'(by rw [st_data]; exact hi) = l[i] := by
      have : ∀ (m : List UInt8) (e : m = l) (q : i < m.length), m[i] = l[i] := fun m e q => by subst e; rfl
      exact this _ (st_data l) _
    rw [← h3]
    rfl
  rw [h2]
  rfl
theorem emp_st {l : List UInt8} (h : l ≠ []) : (st l).toList.isEmpty = false := by
  rw [st_toList]
  cases l
  · exact absurd rfl h
  · rfl

set_option maxHeartbeats 1000000 in
set_option maxRecDepth 100000 in
theorem words_run (A B : List UInt8) (hA : 32 ∉ A) (hl : (A ++ 32 :: B).length ≤ 1000) (w : World) : Calls Tryd.prog 23 #[.string (st (A ++ 32 :: B))] w (Gives (.string (st A)) w) := by
  have hsz := st_size (A ++ 32 :: B)
  have HI : Hid (∀ i : Nat, i < (A ++ 32 :: B).length → ∀ W, (Instr.index 9 (.string (st (A ++ 32 :: B))) (.int .i64 (i : Int))).run Tryd.prog W = .ok (bval ((A ++ 32 :: B)[i]!)) W) := Lib.hid fun i hi W => index_st _ i hi W
  have hex : (st (A ++ 32 :: B)).extract 0 A.length = st A := by rw [st_extract]; simp
  have hAl : A.length < (A ++ 32 :: B).length := by simp
  have HB : Aside (∀ i : Nat, i < A.length → ((((A ++ 32 :: B)[i]!).toNat : Int) == 32) = false) := fun i hi => by
    rw [getElem!_pos (A ++ 32 :: B) i (by omega), List.getElem_append_left hi]
    refine beq_eq_false_iff_ne.2 fun e => hA ?_
    have : A[i] = 32 := UInt8.toNat_inj.1 (by have : (A[i]).toNat = 32 := by omega
                                              simpa using this)
    rw [← this]
    exact List.getElem_mem hi
  have HE : Aside (((A ++ 32 :: B)[A.length]!) = 32) := by
    show (A ++ 32 :: B)[A.length]! = 32
    rw [getElem!_pos (A ++ 32 :: B) A.length hAl]
    simp
  generalize A ++ 32 :: B = l at *
  generalize A.length = a at *
  go_enter Tryd.func23, Tryd.ntmps23
  go_wp2
  go_loopg [6] a (fun gk vi wr => ∃ i : Nat, vi = .int .i64 (i : Int) ∧ i ≤ a ∧ a - i ≤ gk ∧ Aside (wr = w))
  case atStart => exact ⟨0, rfl, by omega, by omega, rfl⟩
  case round =>
    obtain ⟨i, rfl, hi, hg, HS⟩ := hrel
    obtain rfl : wr = w := HS.out
    have hltz : (i : Int) < (l.length : Int) := by omega
    have hix := HI.out i (by omega)
    unfold bval at hix
    by_cases hlt : i < a
    · have hb := HB.out i hlt
      generalize ((l[i]!).toNat : Int) = z at *
      go_wp2
      go_roundg (a - (i + 1))
      case measure => omega
      case rel => exact ⟨i + 1, by go_num, by omega, by omega, rfl⟩
    · obtain rfl : i = a := by omega
      have hb := HE.out
      rw [hb] at hix
      have h32 : (((32 : UInt8).toNat : Nat) : Int) = 32 := rfl
      rw [h32] at hix
      clear hb
      have hil : i ≤ l.length := by omega
      go_wp2
      go_ret
      exact ⟨rfl, rfl⟩

set_option maxHeartbeats 4000000 in
set_option maxRecDepth 100000 in
theorem flagless_walk (f m t f' m' t' : Nat) (w : World) (ho : Ok f m t) (ho2 : Ok f' m' t') (hT : Tabs w) : Calls Tryd.prog 9 #[av f m t, av f' m' t'] w (Truth w) := by
  have ho' : Ok f m' t' := ⟨ho.f, ho2.m, ho2.t⟩
  have HT : Aside (Tabs w) := hT
  have hf := ho.f
  have hne : ftext f ≠ [] := by
    unfold ftext
    split
    · simp
    · intro e
      have := congrArg (spl 43) e
      rw [spl_join (by assumption) (fun p hp => (parts_no f p hp).2)] at this
      rename_i hp
      have h2 : ([] : List UInt8) ∈ parts f := by rw [this]; simp [spl]
      rcases parts_mem f [] h2 with ⟨j, hj, e2, _⟩ | ⟨e2, _⟩
      · exact (nm_mem j hj).2.2.1 e2.symm
      · cases e2
  have K1 : Hid (∀ W, Stp [] w [] W → Calls Tryd.prog 21 #[.agg #[.int .u32 (f : Int), .int .u8 (m : Int), .int .u8 (t : Int)]] W (Tells (.string (st (text f m t))) W)) := Lib.hid fun W hs => text_run ho W (HT.out.stays hs)
  have K2 : Hid (∀ W, Stp [] w [] W → Calls Tryd.prog 21 #[.agg #[.int .u32 (f : Int), .int .u8 (m' : Int), .int .u8 (t' : Int)]] W (Tells (.string (st (text f m' t'))) W)) := Lib.hid fun W hs => text_run ho' W (HT.out.stays hs)
  have K3 : Hid (∀ W, Calls Tryd.prog 23 #[.string (st (text f m t))] W (Gives (.string (st (ftext f))) W)) := Lib.hid fun W => words_run (ftext f) (dig 10 m ++ 32 :: dig 10 t) (ftext_no f) (by have := text_len ho; unfold text at this; omega) W
  have K4 : Hid (∀ W, Calls Tryd.prog 23 #[.string (st (text f m' t'))] W (Gives (.string (st (ftext f))) W)) := Lib.hid fun W => words_run (ftext f) (dig 10 m' ++ 32 :: dig 10 t') (ftext_no f) (by have := text_len ho'; unfold text at this; omega) W
  have K5 : Hid (∀ W, Stp [] w [] W → Calls Tryd.prog 12 #[] W (Tells (.bool true) W)) := Lib.hid fun W hs => alive_run W (HT.out.stays hs)
  have K6 : Hid (∀ (W : World) (m t : Nat), Calls Tryd.prog 13 #[.agg #[.int .u32 (f : Int), .int .u8 (m : Int), .int .u8 (t : Int)]] W (Tells (.agg #[.int .u32 (ban f 63 : Int), .int .u8 1, .int .u8 0]) W)) := Lib.hid fun W m t => raw_run f m t hf W
  have hemp := emp_st hne
  have HC : Aside ((f = f ∧ m = m' ∧ t = t') ∨ ((f ≠ f ∨ m ≠ m' ∨ t ≠ t') ∧ ((st (text f m t)).toList == (st (text f m' t')).toList) = false)) := alike_cases ho ho'
  have hw : ((st (ftext f)).toList == (st (ftext f)).toList) = true := st_yes rfl
  clear hT ho ho' ho2 hne
  generalize ban f 63 = x at *
  generalize st (ftext f) = sf at *
  unfold av
  go_enter Tryd.func9, Tryd.ntmps9
  go_upto_region 2 with fail
  have H0 : Aside (At3 ((w.alloc (.cells #[.int .u32 (f : Int), .int .u8 (m : Int), .int .u8 (t : Int)] 24)).alloc (.cells #[.int .u32 (f : Int), .int .u8 (m' : Int), .int .u8 (t' : Int)] 24)) w.heap.size f m t ∧
      At3 ((w.alloc (.cells #[.int .u32 (f : Int), .int .u8 (m : Int), .int .u8 (t : Int)] 24)).alloc (.cells #[.int .u32 (f : Int), .int .u8 (m' : Int), .int .u8 (t' : Int)] 24)) (w.heap.size + 1) f m' t' ∧
      Stp [] w [] ((w.alloc (.cells #[.int .u32 (f : Int), .int .u8 (m : Int), .int .u8 (t : Int)] 24)).alloc (.cells #[.int .u32 (f : Int), .int .u8 (m' : Int), .int .u8 (t' : Int)] 24))) :=
    ⟨(At3.new w f m t).stays (Stp.alloc [] _ _), heap_alloc2_new w _ _, (Stp.alloc [] _ _).trans (Stp.alloc [] _ _)⟩
  generalize (w.alloc (.cells #[.int .u32 (f : Int), .int .u8 (m : Int), .int .u8 (t : Int)] 24)).alloc (.cells #[.int .u32 (f : Int), .int .u8 (m' : Int), .int .u8 (t' : Int)] 24) = w0 at *
  generalize w.heap.size = ga at *
  generalize ga + 1 = gb at *
  have hk0 : Aside (∀ W, Stp [] w0 [] W → Stp [] w0 [] W ∧ W.cell? ⟨ga, 0, none⟩ = some (.int .u32 (f : Int)) ∧ W.cell? ⟨ga, 1, none⟩ = some (.int .u8 (m : Int)) ∧ W.cell? ⟨ga, 2, none⟩ = some (.int .u8 (t : Int)) ∧
      W.cell? ⟨gb, 0, none⟩ = some (.int .u32 (f : Int)) ∧ W.cell? ⟨gb, 1, none⟩ = some (.int .u8 (m' : Int)) ∧ W.cell? ⟨gb, 2, none⟩ = some (.int .u8 (t' : Int))) :=
    fun W hs => ⟨hs, (H0.out.1.stays hs).cells.1, (H0.out.1.stays hs).cells.2.1, (H0.out.1.stays hs).cells.2.2.1, (H0.out.2.1.stays hs).cells.1, (H0.out.2.1.stays hs).cells.2.1, (H0.out.2.1.stays hs).cells.2.2.1⟩
  go_cut [5, 6] (fun s5 s6 wx => s5 = .string (st (text f m t)) ∧ s6 = .string (st (text f m' t')) ∧ Aside (Stp [] w0 [] wx))
  case first =>
    have hcur : Stp [] w0 [] w0.drew := Stp.drew _ _
    clear K3 K4 K5 K6 HC hemp hw
    go_region_held (fun W => Stp [] w0 [] W ∧ W.cell? ⟨ga, 0, none⟩ = some (.int .u32 (f : Int)) ∧ W.cell? ⟨ga, 1, none⟩ = some (.int .u8 (m : Int)) ∧ W.cell? ⟨ga, 2, none⟩ = some (.int .u8 (t : Int)) ∧
        W.cell? ⟨gb, 0, none⟩ = some (.int .u32 (f : Int)) ∧ W.cell? ⟨gb, 1, none⟩ = some (.int .u8 (m' : Int)) ∧ W.cell? ⟨gb, 2, none⟩ = some (.int .u8 (t' : Int)))
      (first | exact hk0.out _ hcur | assumption)
      (first
        | (go_at_call_of 21 (Value.agg #[.int .u32 (f : Int), .int .u8 (m : Int), .int .u8 (t : Int)]); refine (K1.out _ (H0.out.2.2.trans hcur)).mono ?_; rintro _ w5 ⟨rfl, s5⟩; replace hcur := hcur.trans s5; clear s5)
        | (go_at_call_of 21 (Value.agg #[.int .u32 (f : Int), .int .u8 (m' : Int), .int .u8 (t' : Int)]); refine (K2.out _ (H0.out.2.2.trans hcur)).mono ?_; rintro _ w6 ⟨rfl, s6⟩; replace hcur := hcur.trans s6; clear s6))
    all_goals
      go_wp2_with fail
      go_meet
      exact ⟨rfl, rfl, hcur⟩
  case rest =>
    obtain ⟨rfl, rfl, HS⟩ := hcut
    have hcur : Stp [] w0 [] wc.drew := HS.out.trans (Stp.drew _ _)
    clear HS K1 K2 HT
    rcases HC.out with ⟨_, e2, e3⟩ | ⟨hne, hq⟩
    · subst e2 e3
      have hq : ((st (text f m t)).toList == (st (text f m t)).toList) = true := st_yes rfl
      clear HC K4
      generalize st (text f m t) = ta at *
      go_wp2_with fail
      go_region_held (fun W => Stp [] w0 [] W ∧ W.cell? ⟨ga, 0, none⟩ = some (.int .u32 (f : Int)) ∧ W.cell? ⟨ga, 1, none⟩ = some (.int .u8 (m : Int)) ∧ W.cell? ⟨ga, 2, none⟩ = some (.int .u8 (t : Int)) ∧
          W.cell? ⟨gb, 0, none⟩ = some (.int .u32 (f : Int)) ∧ W.cell? ⟨gb, 1, none⟩ = some (.int .u8 (m : Int)) ∧ W.cell? ⟨gb, 2, none⟩ = some (.int .u8 (t : Int)))
        (first | exact hk0.out _ hcur | assumption)
        (first
          | (go_at_call 12; refine (K5.out _ (H0.out.2.2.trans hcur)).mono ?_; rintro _ w5 ⟨rfl, s5⟩; replace hcur := hcur.trans s5; clear s5)
          | (go_at_call 13; refine (K6.out _ _ _).mono ?_; rintro _ w6 ⟨rfl, s6⟩; replace hcur := hcur.trans s6; clear s6)
          | (go_at_call 23; refine (K3.out _).mono ?_; rintro _ w7 ⟨rfl, rfl⟩))
      all_goals
        go_wp2
        go_ret
        exact ⟨rfl, (H0.out.2.2.trans hcur).under⟩
    · clear HC
      generalize st (text f m t) = ta at *
      generalize st (text f m' t') = tb at *
      rcases hne with hne | hne | hne
      · exact absurd rfl hne
      · have hne2 : ¬ (m : Int) = (m' : Int) := by omega
        have hne1 : ((m : Int) == (m' : Int)) = false := beq_eq_false_iff_ne.2 hne2
        go_wp2_with fail
        go_region_held (fun W => Stp [] w0 [] W ∧ W.cell? ⟨ga, 0, none⟩ = some (.int .u32 (f : Int)) ∧ W.cell? ⟨ga, 1, none⟩ = some (.int .u8 (m : Int)) ∧ W.cell? ⟨ga, 2, none⟩ = some (.int .u8 (t : Int)) ∧
            W.cell? ⟨gb, 0, none⟩ = some (.int .u32 (f : Int)) ∧ W.cell? ⟨gb, 1, none⟩ = some (.int .u8 (m' : Int)) ∧ W.cell? ⟨gb, 2, none⟩ = some (.int .u8 (t' : Int)))
          (first | exact hk0.out _ hcur | assumption)
          (first
            | (go_at_call 12; refine (K5.out _ (H0.out.2.2.trans hcur)).mono ?_; rintro _ w5 ⟨rfl, s5⟩; replace hcur := hcur.trans s5; clear s5)
            | (go_at_call 13; refine (K6.out _ _ _).mono ?_; rintro _ w6 ⟨rfl, s6⟩; replace hcur := hcur.trans s6; clear s6)
            | (go_at_call_of 23 (Value.string ta); refine (K3.out _).mono ?_; rintro _ w7 ⟨rfl, rfl⟩)
            | (go_at_call_of 23 (Value.string tb); refine (K4.out _).mono ?_; rintro _ w8 ⟨rfl, rfl⟩))
        all_goals
          go_wp2
          go_ret
          exact ⟨rfl, (H0.out.2.2.trans hcur).under⟩
      · have hne2 : ¬ (t : Int) = (t' : Int) := by omega
        have hne1 : ((t : Int) == (t' : Int)) = false := beq_eq_false_iff_ne.2 hne2
        go_wp2_with fail
        go_region_held (fun W => Stp [] w0 [] W ∧ W.cell? ⟨ga, 0, none⟩ = some (.int .u32 (f : Int)) ∧ W.cell? ⟨ga, 1, none⟩ = some (.int .u8 (m : Int)) ∧ W.cell? ⟨ga, 2, none⟩ = some (.int .u8 (t : Int)) ∧
            W.cell? ⟨gb, 0, none⟩ = some (.int .u32 (f : Int)) ∧ W.cell? ⟨gb, 1, none⟩ = some (.int .u8 (m' : Int)) ∧ W.cell? ⟨gb, 2, none⟩ = some (.int .u8 (t' : Int)))
          (first | exact hk0.out _ hcur | assumption)
          (first
            | (go_at_call 12; refine (K5.out _ (H0.out.2.2.trans hcur)).mono ?_; rintro _ w5 ⟨rfl, s5⟩; replace hcur := hcur.trans s5; clear s5)
            | (go_at_call 13; refine (K6.out _ _ _).mono ?_; rintro _ w6 ⟨rfl, s6⟩; replace hcur := hcur.trans s6; clear s6)
            | (go_at_call_of 23 (Value.string ta); refine (K3.out _).mono ?_; rintro _ w7 ⟨rfl, rfl⟩)
            | (go_at_call_of 23 (Value.string tb); refine (K4.out _).mono ?_; rintro _ w8 ⟨rfl, rfl⟩))
        all_goals
          go_wp2
          go_ret
          exact ⟨rfl, (H0.out.2.2.trans hcur).under⟩
end Go.Proofs.YtcjmnmcldppdhaaDoor
