/-
  The document's flags of a text: the walk.
-/
import Derived.Test.YthfiilhbgogoaaaGreatDoorRefF
namespace Go.Proofs.YthfiilhbgogoaaaGreatDoor
open Go.RowKit Go.Lib
set_option linter.unusedVariables false

theorem gcut1 (x : UInt8) (l : List UInt8) (W : World) : (Instr.slice 9 (.string (st (x :: l))) (some (.int .i64 1)) none none).run Tryz.prog W = .ok (.string (st l)) W := by
  have h1 : (1 : Int) ≤ ((st (x :: l)).size : Int) := by rw [st_size]; simp only [List.length_cons]; omega
  rw [run_slice_string_l W 9 (st (x :: l)) Tryz.underlying9 .i64 1 (by omega) h1]
  have e : (st (x :: l)).extract (1 : Int).toNat (st (x :: l)).size = st l := by
    rw [st_size, st_extract]
    simp
  rw [e]
theorem gcut2 (x : UInt8) (l : List UInt8) (W : World) : (Instr.sliceAt 9 (.string (st (x :: l))) (some (.int .i64 1)) none none).run Tryz.prog W = .ok (.string (st l)) W := by
  rw [run_sliceAt_string W 9 (.string (st (x :: l))) _ _ _ Tryz.underlying9]
  exact gcut1 x l W
theorem wrap_add {a b : Nat} : IntKind.u32.wrap ((a : Int) + (b : Int)) = (((a + b) % 4294967296 : Nat) : Int) := by
  rw [IntKind.wrap_u32]
  omega
theorem wrap_dbl {a : Nat} (h : a ≤ 64) : IntKind.u32.wrap ((a : Int) * 2) = ((a * 2 : Nat) : Int) := by
  rw [IntKind.wrap_u32]
  omega
set_option maxHeartbeats 4000000 in
set_option maxRecDepth 100000 in
theorem rflags_run (l : List UInt8) (hl : l.length ≤ 3000) (w : World) : Calls Tryz.prog 63 #[.string (st l)] w (Tells (.int .u32 (rgf l : Int)) w) := by
  have mixed : Tryz.prog.follows Departure.mixedOrders = true := by kernel_rfl
  have K1 : Hid (Calls Tryz.prog 23 #[.string (st l), .int .u8 43] w fun e w' => ∃ v, e = .returned v ∧ SOwn w' w.heap.size v (spl 43 l) ∧ Stp [] w [] w') := Lib.hid (rcut_run l 43 (by omega) w)
  have K2 : Hid (∀ W, Calls Tryz.prog 60 #[] W fun e w' => ∃ g, e = .returned (.slice (some ⟨g, 0, none⟩) 7 7) ∧ Nam w' g ∧ Stp [] W [] w') := Lib.hid fun W => rnames_run W
  have KN : Hid (∀ (W : World) (r : List UInt8), r.length ≤ 4000 → Calls Tryz.prog 38 #[.string (st r), .int .i64 16, .int .i64 8] W (Gives (.int .i64 (rz (rnum 16 8 r))) W)) := Lib.hid fun W r h => rnum16_run r h W
  have hlen := spl_len 43 l
  have HM : Aside (∀ p ∈ spl 43 l, p.length ≤ l.length) := spl_mem_len 43 l
  have hne := spl_ne 43 l
  go_enter Tryz.func63, Tryz.ntmps63
  go_wp2_with fail
  refine K1.out.mono ?_
  rintro _ w1 ⟨v, rfl, o1, h1⟩
  go_wp2_with fail
  refine (K2.out _).mono ?_
  rintro _ w2 ⟨g5, rfl, n2, h2⟩
  obtain ⟨a4, cap4, hv4, hn4, hc4, hm4, hr4⟩ := (o1.stays h2).form
  obtain ⟨ad, rfl⟩ : ∃ ad, a4 = some ad := by
    rcases a4 with _ | ad
    · exact absurd (hn4 rfl).2 hne
    · exact ⟨ad, rfl⟩
  obtain ⟨g4, rfl, _, _, hcl⟩ := hr4 ad rfl
  subst hv4
  have HW : Aside ((∀ j x, (spl 43 l)[j]? = some x → w2.cell? ⟨g4, j, none⟩ = some (.string (st x))) ∧ Nam w2 g5 ∧ Stp [] w [] w2) := ⟨hcl, n2, h1.trans h2⟩
  have HG : Aside (rgf l = rfl2 (spl 43 l) 0) := rfl
  clear h1 h2 o1 n2 hn4 hc4 hm4 hr4 hcl hne K1 K2
  generalize spl 43 l = L at *
  go_wp2
  go_loopg [3, 6] L.length (fun gk v3 v6 wr => ∃ i N : Nat, v3 = .int .u32 (N : Int) ∧ v6 = .int .i64 (i : Int) ∧ i ≤ L.length ∧ L.length - i ≤ gk ∧ N < 4294967296 ∧ Aside (rgf l = rfl2 (L.drop i) N ∧ Stp [] w2 [] wr))
  case atStart => exact ⟨0, 0, rfl, rfl, by omega, by omega, by omega, HG.out, Stp.refl _ _⟩
  case round =>
    obtain ⟨i, N, rfl, rfl, hi, hg, hN, HS⟩ := hrel
    by_cases hlt : i < L.length
    · have hltz : (i : Int) < (L.length : Int) := by omega
      obtain ⟨p, hp⟩ : ∃ p, L[i]? = some p := ⟨L[i], List.getElem?_eq_getElem hlt⟩
      have hdr : L.drop i = p :: L.drop (i + 1) := by
        obtain ⟨h, e⟩ := List.getElem?_eq_some_iff.1 hp
        rw [List.drop_eq_getElem_cons h, e]
      have hpl : p.length ≤ 3000 := Nat.le_trans (HM.out p (List.mem_of_getElem? hp)) hl
      have HC : Aside (∀ W, Stp [] wr [] W → W.cell? ⟨g4, i, none⟩ = some (.string (st p))) := fun W hs => (HS.out.2.trans hs).keeps rfl (HW.out.1 i p hp)
      have HE : Aside (rgf l = rfl2 (L.drop (i + 1)) (rpart N p)) := by
        show rgf l = _
        rw [HS.out.1, hdr]
        rfl
      have HQ : Aside (Stp [] w2 [] wr) := HS.out.2
      clear HS hdr hp
      obtain ⟨wo, hwo⟩ : ∃ x, x = wr := ⟨wr, rfl⟩
      subst hwo
      go_wp2
      go_loopg [3, 7, 8] 7 (fun gj v3 v7 v8 wk => ∃ k M P : Nat, v3 = .int .u32 (M : Int) ∧ v7 = .int .u32 (P : Int) ∧ v8 = .int .i64 (k : Int) ∧ k ≤ 7 ∧ 7 - k ≤ gj ∧ M < 4294967296 ∧ Aside (M = (N + nv p k) % 4294967296 ∧ P = 2 ^ k ∧ Stp [] wo [] wk))
      case atStart => exact ⟨0, N, 1, rfl, rfl, rfl, by omega, by omega, hN, by simp [nv, gpn]; omega, rfl, Stp.refl _ _⟩
      case round =>
        obtain ⟨k, M, P, rfl, rfl, rfl, hk, hgj, hMl, HS⟩ := hrel
        have e1 := HC.out _ HS.out.2.2
        by_cases hkl : k < 7
        · have hklz : (k : Int) < 7 := by omega
          have e2 : wr.cell? ⟨g5, k, none⟩ = some (.string (st (nm k))) := (HQ.out.trans HS.out.2.2).keeps rfl (HW.out.2.1 k hkl)
          obtain ⟨hM, hP, hSt⟩ := HS.out
          have hP64 : P ≤ 64 := by
            rw [hP]
            exact Nat.le_trans (Nat.pow_le_pow_right (n := 2) (by omega) (show k ≤ 6 by omega)) (by decide)
          have hw2 := wrap_dbl hP64
          have hw1 := wrap_add (a := M) (b := P)
          by_cases heq : p = nm k
          · have hq : ((st p).toList == (st (nm k)).toList) = true := st_yes (by rw [heq])
            have HE2 : Aside ((M + P) % 4294967296 = (N + nv p (k + 1)) % 4294967296 ∧ P * 2 = 2 ^ (k + 1)) := ⟨by rw [nv_step hkl, if_pos heq, hM, ← hP]; omega, by rw [hP, Nat.pow_succ]⟩
            have HZ : Aside (Stp [] wo [] wr) := hSt
            clear HS hM hP heq hSt KN
            generalize st p = sp at *
            generalize st (nm k) = sn at *
            go_wp2_with fail
            go_region
            all_goals
              go_wp2
              go_roundg (7 - (k + 1))
              case measure => omega
              case rel => exact ⟨k + 1, (M + P) % 4294967296, P * 2, congrArg (Value.int .u32) (by omega), congrArg (Value.int .u32) (by omega), by go_num, by omega, by omega, Nat.mod_lt _ (by omega), HE2.out.1, HE2.out.2, HZ.out.trans (Stp.drew _ _)⟩
          · have hq : ((st p).toList == (st (nm k)).toList) = false := st_no (fun e => heq (st_inj e))
            have HE2 : Aside (M = (N + nv p (k + 1)) % 4294967296 ∧ P * 2 = 2 ^ (k + 1)) := ⟨by rw [nv_step hkl, if_neg heq, hM]; omega, by rw [hP, Nat.pow_succ]⟩
            have HZ : Aside (Stp [] wo [] wr) := hSt
            clear HS hM hP heq hSt KN
            generalize st p = sp at *
            generalize st (nm k) = sn at *
            go_wp2_with fail
            go_region
            all_goals
              go_wp2
              go_roundg (7 - (k + 1))
              case measure => omega
              case rel => exact ⟨k + 1, M, P * 2, rfl, congrArg (Value.int .u32) (by omega), by go_num, by omega, by omega, hMl, HE2.out.1, HE2.out.2, HZ.out.trans (Stp.drew _ _)⟩
        · have hklz : ¬ (k : Int) < 7 := by omega
          obtain rfl : k = 7 := by omega
          have HE2 : Aside (rgf l = rfl2 (L.drop (i + 1)) ((M + xv p) % 4294967296) ∧ Stp [] w2 [] wr) := by
            refine ⟨?_, HQ.out.trans HS.out.2.2⟩
            rw [HE.out]
            unfold rpart
            rw [← HS.out.1]
          have hsz := st_size p
          clear HS HC HE HQ
          rcases p with _ | ⟨c, _ | ⟨d, r⟩⟩
          · have hx : (M + xv []) % 4294967296 = M := by
              show (M + 0) % 4294967296 = M
              omega
            rw [hx] at HE2
            simp only [List.length_nil] at hsz
            go_wp2
            go_roundg (L.length - (i + 1))
            case measure => omega
            case rel => exact ⟨i + 1, M, rfl, by go_num, by omega, by omega, hMl, HE2.out.1, HE2.out.2⟩
          · have hx : (M + xv [c]) % 4294967296 = M := by
              have : xv [c] = 0 := by simp [xv]
              rw [this]
              omega
            rw [hx] at HE2
            have hsz1 : (st [c]).size = 1 := hsz
            clear hsz
            go_wp2
            go_roundg (L.length - (i + 1))
            case measure => omega
            case rel => exact ⟨i + 1, M, rfl, by go_num, by omega, by omega, hMl, HE2.out.1, HE2.out.2⟩
          · have hsz1 : (st (c :: d :: r)).size = r.length + 2 := by rw [hsz]; rfl
            have hgt : (1 : Int) < ((r.length + 2 : Nat) : Int) := by omega
            have hix : ∀ W, (Instr.index 9 (.string (st (c :: d :: r))) (.int .i64 0)).run Tryz.prog W = .ok (.int .u8 (c.toNat : Int)) W := fun W => index_st (c :: d :: r) 0 (by simp) W
            by_cases hc : c = 120
            · have hb : ((c.toNat : Int) == 120) = true := by rw [hc]; rfl
              have c1 := gcut1 c (d :: r)
              have c2 := gcut2 c (d :: r)
              have KX : Hid (∀ W, Calls Tryz.prog 38 #[.string (st (d :: r)), .int .i64 16, .int .i64 8] W (Gives (.int .i64 (rz (rnum 16 8 (d :: r)))) W)) := Lib.hid fun W => KN.out W (d :: r) (by simp at hpl ⊢; omega)
              have hxv : xv (c :: d :: r) = (rnum 16 8 (d :: r)).getD 0 := by
                show (if c = 120 ∧ (d :: r) ≠ [] then (rnum 16 8 (d :: r)).getD 0 else 0) = _
                rw [if_pos ⟨hc, by simp⟩]
              rw [hxv] at HE2
              clear KN hsz hxv hc
              generalize (c.toNat : Int) = z at *
              cases e : rnum 16 8 (d :: r) with
              | none =>
                rw [e] at KX HE2
                have KX' : Hid (∀ W, Calls Tryz.prog 38 #[.string (st (d :: r)), .int .i64 16, .int .i64 8] W (Gives (.int .i64 (-1)) W)) := KX
                have hx : (M + (none : Option Nat).getD 0) % 4294967296 = M := by
                  show (M + 0) % 4294967296 = M
                  omega
                rw [hx] at HE2
                clear KX e
                generalize st (c :: d :: r) = sp at *
                generalize st (d :: r) = sr at *
                go_wp2_with fail
                refine (KX'.out _).mono ?_
                rintro _ _ ⟨rfl, rfl⟩
                go_wp2
                go_roundg (L.length - (i + 1))
                case measure => omega
                case rel => exact ⟨i + 1, M, rfl, by go_num, by omega, by omega, hMl, HE2.out.1, HE2.out.2⟩
              | some x =>
                have hxl := rnum_lt (by omega) (by omega) e
                rw [e] at KX HE2
                have KX' : Hid (∀ W, Calls Tryz.prog 38 #[.string (st (d :: r)), .int .i64 16, .int .i64 8] W (Gives (.int .i64 (x : Int)) W)) := KX
                have HE2' : Aside (rgf l = rfl2 (L.drop (i + 1)) ((M + x) % 4294967296) ∧ Stp [] w2 [] wr) := HE2
                clear KX HE2 e
                generalize st (c :: d :: r) = sp at *
                generalize st (d :: r) = sr at *
                by_cases hx0 : x = 0
                · subst hx0
                  have hx : (M + 0) % 4294967296 = M := by omega
                  rw [hx] at HE2'
                  have HE2 := HE2'
                  go_wp2_with fail
                  refine (KX'.out _).mono ?_
                  rintro _ _ ⟨rfl, rfl⟩
                  go_wp2
                  go_roundg (L.length - (i + 1))
                  case measure => omega
                  case rel => exact ⟨i + 1, M, rfl, by go_num, by omega, by omega, hMl, HE2.out.1, HE2.out.2⟩
                · have HE2 := HE2'
                  have hxz : (0 : Int) < (x : Int) := by omega
                  have hxz2 : (x : Int) ≤ 4294967295 := by omega
                  go_wp2_with fail
                  refine (KX'.out _).mono ?_
                  rintro _ _ ⟨rfl, rfl⟩
                  go_wp2
                  go_roundg (L.length - (i + 1))
                  case measure => omega
                  case rel => exact ⟨i + 1, (M + x) % 4294967296, congrArg (Value.int .u32) (by omega), by go_num, by omega, by omega, Nat.mod_lt _ (by omega), HE2.out.1, HE2.out.2⟩
            · have hb : ((c.toNat : Int) == 120) = false := beq_eq_false_iff_ne.2 (fun e => hc (UInt8.toNat_inj.1 (by have q : c.toNat = 120 := (by omega); simpa using q)))
              have hx : (M + xv (c :: d :: r)) % 4294967296 = M := by
                have : xv (c :: d :: r) = 0 := by simp [xv, hc]
                rw [this]
                omega
              rw [hx] at HE2
              clear KN hsz hc hx
              generalize (c.toNat : Int) = z at *
              generalize st (c :: d :: r) = sp at *
              go_wp2
              go_roundg (L.length - (i + 1))
              case measure => omega
              case rel => exact ⟨i + 1, M, rfl, by go_num, by omega, by omega, hMl, HE2.out.1, HE2.out.2⟩
    · have hltz : ¬ (i : Int) < (L.length : Int) := by omega
      have hdr : L.drop i = [] := List.drop_eq_nil_of_le (by omega)
      have HE : Aside (rgf l = N ∧ Stp [] w2 [] wr) := ⟨by rw [HS.out.1, hdr]; rfl, HS.out.2⟩
      clear HS hdr
      go_wp2
      go_ret
      exact ⟨by rw [HE.out.1]; rfl, HW.out.2.2.trans HE.out.2⟩
end Go.Proofs.YthfiilhbgogoaaaGreatDoor
