/-
  The document's Read: what attrs.Read answers.
-/
import Derived.Test.YthfiilhbgogoaaaGreatDoorRefG
import Derived.Test.YthfiilhbgogoaaaGreatDoorRefC
import Derived.Test.YthfiilhbgogoaaaGreatDoorRead2
namespace Go.Proofs.YthfiilhbgogoaaaGreatDoor
open Go.RowKit Go.Lib
set_option linter.unusedVariables false

theorem rv_only {l p0 p1 p2 : List UInt8} (h : spl 32 l = [p0, p1, p2]) : ∀ f m t, Ok f m t → text f m t = l → rgf p0 = f ∧ rnum 10 3 p1 = some m ∧ rnum 10 3 p2 = some t := by
  intro f m t ho e
  subst e
  rw [text_spl] at h
  simp only [List.cons.injEq, and_true] at h
  obtain ⟨rfl, rfl, rfl⟩ := h
  exact ⟨rgf_ftext ho.f, rnum_dig (.inl rfl) (dig10_len ho.m), rnum_dig (.inl rfl) (dig10_len ho.t)⟩
theorem rv_len {l : List UInt8} (h : (spl 32 l).length ≠ 3) : rv l = .tuple #[av 0 0 0, .int .i64 8] :=
  rv_no fun f m t ho e => by
    subst e
    rw [text_spl] at h
    exact h rfl
theorem rv_at {f m t : Nat} {l : List UInt8} (ho : Ok f m t) (e : text f m t = l) : rv l = .tuple #[av f m t, .int .i64 0] := by
  subst e
  exact rv_text ho
theorem three {α : Type} {L : List α} (h : L.length = 3) : ∃ a b c, L = [a, b, c] := by
  rcases L with _ | ⟨a, _ | ⟨b, _ | ⟨c, _ | ⟨d, r⟩⟩⟩⟩
  · simp at h
  · simp at h
  · simp at h
  · exact ⟨a, b, c, rfl⟩
  · simp at h
set_option maxHeartbeats 4000000 in
set_option maxRecDepth 100000 in
theorem rread_run (l : List UInt8) (hl : l.length ≤ 3000) (w : World) : Calls Tryz.prog 39 #[.string (st l)] w (Tells (rv l) w) := by
  have mixed : Tryz.prog.follows Departure.mixedOrders = true := by kernel_rfl
  have K1 : Hid (∀ W, Calls Tryz.prog 23 #[.string (st l), .int .u8 32] W fun e w' => ∃ v, e = .returned v ∧ SOwn w' W.heap.size v (spl 32 l) ∧ Stp [] W [] w') := Lib.hid fun W => rcut_run l 32 (by omega) W
  have HM : Aside (∀ p ∈ spl 32 l, p.length ≤ l.length) := spl_mem_len 32 l
  have hne := spl_ne 32 l
  have hsz := spl_len 32 l
  go_enter Tryz.func39, Tryz.ntmps39
  go_wp2_with fail
  refine (K1.out _).mono ?_
  rintro _ w1 ⟨v, rfl, o1, h1⟩
  have HA : Aside (At3 w1 w.heap.size 0 0 0 ∧ Stp [] w [] w1) := ⟨(At3.new w 0 0 0).stays h1, (Stp.alloc [] w _).trans h1⟩
  obtain ⟨d0, d1, d2, f0, f1, f2⟩ := HA.out.1.cells
  obtain ⟨a4, cap4, hv4, hn4, hc4, hm4, hr4⟩ := o1.form
  obtain ⟨ad, rfl⟩ : ∃ ad, a4 = some ad := by
    rcases a4 with _ | ad
    · exact absurd (hn4 rfl).2 hne
    · exact ⟨ad, rfl⟩
  obtain ⟨g4, rfl, _, _, hcl⟩ := hr4 ad rfl
  subst hv4
  by_cases h3 : (spl 32 l).length = 3
  · obtain ⟨p0, p1, p2, he⟩ := three h3
    have hp0 : p0.length ≤ 3000 := Nat.le_trans (HM.out p0 (by rw [he]; simp)) hl
    have hp1 : p1.length ≤ 3000 := Nat.le_trans (HM.out p1 (by rw [he]; simp)) hl
    have hp2 : p2.length ≤ 3000 := Nat.le_trans (HM.out p2 (by rw [he]; simp)) hl
    have HC : Aside (∀ W, Stp [] w1 [] W → W.cell? ⟨g4, 0, none⟩ = some (.string (st p0)) ∧ W.cell? ⟨g4, 1, none⟩ = some (.string (st p1)) ∧ W.cell? ⟨g4, 2, none⟩ = some (.string (st p2))) := fun W hs =>
      ⟨hs.keeps rfl (hcl 0 p0 (by rw [he]; rfl)), hs.keeps rfl (hcl 1 p1 (by rw [he]; rfl)), hs.keeps rfl (hcl 2 p2 (by rw [he]; rfl))⟩
    have HO : Aside (∀ f m t, Ok f m t → text f m t = l → rgf p0 = f ∧ rnum 10 3 p1 = some m ∧ rnum 10 3 p2 = some t) := rv_only he
    have KA : Hid (∀ W, Calls Tryz.prog 38 #[.string (st p1), .int .i64 10, .int .i64 3] W (Gives (.int .i64 (rz (rnum 10 3 p1))) W)) := Lib.hid fun W => rnum10_run p1 (by omega) W
    have KB : Hid (∀ W, Calls Tryz.prog 38 #[.string (st p2), .int .i64 10, .int .i64 3] W (Gives (.int .i64 (rz (rnum 10 3 p2))) W)) := Lib.hid fun W => rnum10_run p2 (by omega) W
    have KF : Hid (∀ W, Calls Tryz.prog 63 #[.string (st p0)] W (Tells (.int .u32 (rgf p0 : Int)) W)) := Lib.hid fun W => rflags_run p0 hp0 W
    obtain ⟨c0, c1, c2⟩ := HC.out _ (Stp.refl _ _)
    rw [h3]
    clear K1 HM h1 hcl hr4 hm4 hc4 hn4 o1 he h3 hsz hne
    have hR1 : (∃ m : Nat, rnum 10 3 p1 = some m ∧ m ≤ 255) ∨ (rv l = .tuple #[av 0 0 0, .int .i64 8] ∧ (rz (rnum 10 3 p1) < 0 ∨ 255 < rz (rnum 10 3 p1))) := by
      cases e : rnum 10 3 p1 with
      | none => exact .inr ⟨rv_no fun f m t ho h => (by rw [(HO.out f m t ho h).2.1] at e; cases e), .inl (by show (-1 : Int) < 0; omega)⟩
      | some m =>
        by_cases hm : m ≤ 255
        · exact .inl ⟨m, rfl, hm⟩
        · exact .inr ⟨rv_no fun f m' t ho h => by
            rw [(HO.out f m' t ho h).2.1] at e
            cases e
            have := ho.m
            omega, .inr (by show (255 : Int) < (m : Int); omega)⟩
    have hR2 : (∃ m : Nat, rnum 10 3 p2 = some m ∧ m ≤ 255) ∨ (rv l = .tuple #[av 0 0 0, .int .i64 8] ∧ (rz (rnum 10 3 p2) < 0 ∨ 255 < rz (rnum 10 3 p2))) := by
      cases e : rnum 10 3 p2 with
      | none => exact .inr ⟨rv_no fun f m t ho h => (by rw [(HO.out f m t ho h).2.2] at e; cases e), .inl (by show (-1 : Int) < 0; omega)⟩
      | some m =>
        by_cases hm : m ≤ 255
        · exact .inl ⟨m, rfl, hm⟩
        · exact .inr ⟨rv_no fun f m' t ho h => by
            rw [(HO.out f m' t ho h).2.2] at e
            cases e
            have := ho.t
            omega, .inr (by show (255 : Int) < (m : Int); omega)⟩
    rcases hR1 with ⟨m, hm, hm255⟩ | ⟨hv, hz⟩
    · rw [hm] at KA
      have KA' : Hid (∀ W, Calls Tryz.prog 38 #[.string (st p1), .int .i64 10, .int .i64 3] W (Gives (.int .i64 (m : Int)) W)) := KA
      clear KA
      have hmz : (m : Int) ≤ 255 := by omega
      rcases hR2 with ⟨t, ht, ht255⟩ | ⟨hv, hz⟩
      · rw [ht] at KB
        have KB' : Hid (∀ W, Calls Tryz.prog 38 #[.string (st p2), .int .i64 10, .int .i64 3] W (Gives (.int .i64 (t : Int)) W)) := KB
        clear KB
        have htz : (t : Int) ≤ 255 := by omega
        have ho : Ok (rgf p0) m t := ⟨rgf_lt p0, by omega, by omega⟩
        have KT : Hid (∀ W, Calls Tryz.prog 35 #[.agg #[.int .u32 (rgf p0 : Int), .int .u8 (m : Int), .int .u8 (t : Int)]] W (Tells (.string (st (text (rgf p0) m t))) W)) := Lib.hid fun W => rtext_run ho W
        have hwm : IntKind.u8.wrap (m : Int) = m := by rw [IntKind.wrap_u8]; omega
        have hwt : IntKind.u8.wrap (t : Int) = t := by rw [IntKind.wrap_u8]; omega
        have HV : Aside ((text (rgf p0) m t = l ∧ rv l = .tuple #[av (rgf p0) m t, .int .i64 0]) ∨ (text (rgf p0) m t ≠ l ∧ rv l = .tuple #[av 0 0 0, .int .i64 8])) := by
          by_cases e : text (rgf p0) m t = l
          · exact .inl ⟨e, rv_at ho e⟩
          · refine .inr ⟨e, rv_no fun f m' t' ho' h => ?_⟩
            obtain ⟨e1, e2, e3⟩ := HO.out f m' t' ho' h
            rw [hm] at e2
            rw [ht] at e3
            cases e2
            cases e3
            subst e1
            exact e h
        clear HO hm ht hm255 ht255 ho
        go_wp2_with fail
        refine (KA'.out _).mono ?_
        rintro _ _ ⟨rfl, rfl⟩
        go_wp2_with fail
        refine (KB'.out _).mono ?_
        rintro _ _ ⟨rfl, rfl⟩
        go_wp2_with fail
        refine (KF.out _).mono ?_
        rintro _ w2 ⟨rfl, s2⟩
        have HB : Aside (At3 w2 w.heap.size 0 0 0 ∧ Stp [] w [] w2) := ⟨HA.out.1.stays s2, HA.out.2.trans s2⟩
        clear s2 HA HC d0 d1 d2 f0 f1 f2 c0 c1 c2
        generalize rgf p0 = f at *
        go_wp2_with fail
        refine (KT.out _).mono ?_
        rintro _ w3 ⟨rfl, s3⟩
        have HD : Aside (At3 w3 w.heap.size 0 0 0 ∧ At3 w3 w2.heap.size f m t ∧ Stp [] w [] w3) := ⟨(HB.out.1.stays (Stp.alloc [] _ _)).stays s3, (At3.new w2 f m t).stays s3, (HB.out.2.trans (Stp.alloc [] _ _)).trans s3⟩
        clear HB s3 KF KT KA' KB'
        obtain ⟨d0, d1, d2, f0, f1, f2⟩ := HD.out.1.cells
        obtain ⟨c0, c1, c2, _, _, _⟩ := HD.out.2.1.cells
        rcases HV.out with ⟨he, hv⟩ | ⟨he, hv⟩
        · have hq : ((st (text f m t)).toList == (st l).toList) = true := st_yes (by rw [he])
          have HV2 : Aside (rv l = .tuple #[av f m t, .int .i64 0]) := hv
          clear HV hv he
          generalize text f m t = x at *
          go_wp2
          refine bodyPost_ret (res_attrs2 rfl _ _ w.heap.size f m t rfl (HD.out.1.set f m t)) rfl ?_
          exact ⟨by rw [HV2.out]; rfl, (HD.out.2.2.fresh (At3.stp _ _ _ _ _) (by simp)).none⟩
        · have hq : ((st (text f m t)).toList == (st l).toList) = false := st_no (fun e => he (st_inj e))
          have HV2 : Aside (rv l = .tuple #[av 0 0 0, .int .i64 8]) := hv
          clear HV hv he
          generalize text f m t = x at *
          go_wp2
          refine bodyPost_ret (res_attrs2 rfl _ _ w.heap.size 0 0 0 rfl (HD.out.1.set 0 0 0)) rfl ?_
          exact ⟨by rw [HV2.out]; rfl, (HD.out.2.2.fresh (At3.stp _ _ _ _ _) (by simp)).none⟩
      · have HV : Aside (rv l = .tuple #[av 0 0 0, .int .i64 8]) := hv
        clear hv HO hm
        generalize rz (rnum 10 3 p2) = z at *
        rcases hz with hz | hz
        all_goals
          go_wp2_with fail
          refine (KA'.out _).mono ?_
          rintro _ _ ⟨rfl, rfl⟩
          go_wp2_with fail
          refine (KB.out _).mono ?_
          rintro _ _ ⟨rfl, rfl⟩
          go_wp2
          refine bodyPost_ret (res_attrs2 rfl _ _ w.heap.size 0 0 0 rfl (HA.out.1.set 0 0 0)) rfl ?_
          exact ⟨by rw [HV.out]; rfl, (HA.out.2.fresh (At3.stp _ _ _ _ _) (by simp)).none⟩
    · have HV : Aside (rv l = .tuple #[av 0 0 0, .int .i64 8]) := hv
      clear hv HO hR2
      generalize rz (rnum 10 3 p1) = z at *
      generalize rz (rnum 10 3 p2) = z2 at *
      rcases hz with hz | hz
      all_goals
        go_wp2_with fail
        refine (KA.out _).mono ?_
        rintro _ _ ⟨rfl, rfl⟩
        go_wp2_with fail
        refine (KB.out _).mono ?_
        rintro _ _ ⟨rfl, rfl⟩
        go_wp2
        refine bodyPost_ret (res_attrs2 rfl _ _ w.heap.size 0 0 0 rfl (HA.out.1.set 0 0 0)) rfl ?_
        exact ⟨by rw [HV.out]; rfl, (HA.out.2.fresh (At3.stp _ _ _ _ _) (by simp)).none⟩
  · have HV : Aside (rv l = .tuple #[av 0 0 0, .int .i64 8]) := rv_len h3
    have h3z : ¬ (((spl 32 l).length : Nat) : Int) = 3 := by omega
    clear K1 HM h1 hcl hr4 hm4 hc4 hn4 o1
    generalize (spl 32 l).length = n at *
    go_wp2
    refine bodyPost_ret (res_attrs2 rfl _ _ w.heap.size 0 0 0 rfl (HA.out.1.set 0 0 0)) rfl ?_
    exact ⟨by rw [HV.out]; rfl, (HA.out.2.fresh (At3.stp _ _ _ _ _) (by simp)).none⟩
end Go.Proofs.YthfiilhbgogoaaaGreatDoor
