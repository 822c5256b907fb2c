/-
  escseq.roomBehind, length, Next, Begins.
-/
import Derived.Test.YtdaenaoagejgeaaGreatDoorKnown
import Derived.Deep.RegionHeld
namespace Go.Proofs.YtdaenaoagejgeaaGreatDoor
open Go.RowKit Go.Lib
set_option linter.unusedVariables false

theorem u8_ne {c : UInt8} {n : Nat} (hn : n < 256) (h : c ≠ UInt8.ofNat n) : ((c.toNat : Nat) : Int) ≠ (n : Int) := fun e => h (UInt8.toNat_inj.1 (by rw [UInt8.toNat_ofNat_of_lt' hn]; omega))
theorem room_run (c : UInt8) (w : World) : Calls Tryz.prog 82 #[.int .u8 (c.toNat : Int)] w (Gives (.tuple #[.int .i64 (((rm c).getD 0 : Nat) : Int), .bool (rm c).isSome]) w) := by
  by_cases h1 : c = 91
  · subst h1
    go_enter Tryz.func82, Tryz.ntmps82
    go_wp2
    go_ret2
    exact ⟨rfl, rfl⟩
  · by_cases h2 : c = 79
    · subst h2
      go_enter Tryz.func82, Tryz.ntmps82
      go_wp2
      go_ret2
      exact ⟨rfl, rfl⟩
    · have e : rm c = none := by unfold rm; rw [if_neg h1, if_neg h2]
      rw [e]
      have n1 : ((c.toNat : Nat) : Int) ≠ 91 := u8_ne (n := 91) (by omega) h1
      have n2 : ((c.toNat : Nat) : Int) ≠ 79 := u8_ne (n := 79) (by omega) h2
      clear h1 h2 e
      generalize ((c.toNat : Nat) : Int) = z at *
      go_enter Tryz.func82, Tryz.ntmps82
      go_wp2
      go_ret2
      exact ⟨rfl, rfl⟩

set_option maxHeartbeats 1000000 in
set_option maxRecDepth 100000 in
theorem length_run (a : Option Addr) (n cap : Nat) (l : List UInt8) (w : World) (hb : Bts w a l) (hn : n = l.length) (h0 : l ≠ []) (hl : l.length ≤ 1000000) :
    Calls Tryz.prog 69 #[.slice a n cap] w (Gives (.tuple #[.int .i64 ((ln l).1 : Int), .bool (ln l).2]) w) := by
  rcases l with _ | ⟨c0, _ | ⟨c1, r⟩⟩
  · exact absurd rfl h0
  · obtain rfl : n = 1 := hn
    go_enter Tryz.func69, Tryz.ntmps69
    go_wp2
    go_step3
    go_wp2
    rw [Exit.noGoto_ret]
    go_ret2
    exact ⟨rfl, rfl⟩
  · obtain ⟨b, off, rfl, hc⟩ := hb h0
    have hn1 : ((n : Int) == 1) = false := beq_eq_false_iff_ne.2 (by subst hn; simp only [List.length_cons]; omega)
    have hn2 : (1 : Int) < (n : Int) := by subst hn; simp only [List.length_cons]; omega
    have hx1 := hc 1 (by simp)
    have e1 : (c0 :: c1 :: r)[1]! = c1 := rfl
    rw [e1] at hx1
    unfold bval at hx1
    clear e1
    have K := Lib.hid (room_run c1)
    have HC : Aside (∀ i, i < (c0 :: c1 :: r).length → w.cell? ⟨b, off + i, none⟩ = some (bval ((c0 :: c1 :: r)[i]!))) := hc
    clear hc hb
    cases e : rm c1 with
    | none =>
      rw [ln_none c0 r e]
      rw [e] at K
      generalize ((c1.toNat : Nat) : Int) = z at *
      go_enter Tryz.func69, Tryz.ntmps69
      go_wp2
      go_step3
      go_wp2_with fail
      refine (K.out _).mono ?_
      rintro _ w1 ⟨rfl, rfl⟩
      go_wp2
      rw [Exit.noGoto_ret]
      go_ret2
      exact ⟨rfl, rfl⟩
    | some m =>
      have hm := rm_le e
      have HL := Lib.hid (ln_some c0 r e)
      rw [e] at K
      have HN : Aside (n = (c0 :: c1 :: r).length) := hn
      have hn6 : n ≤ 1000000 := by rw [hn]; exact hl
      clear hn hl
      generalize ((c1.toNat : Nat) : Int) = z at *
      simp only [Option.getD_some, Option.isSome_some] at K
      go_enter Tryz.func69, Tryz.ntmps69
      go_wp2
      go_step3
      go_wp2_with fail
      refine (K.out _).mono ?_
      rintro _ w1 ⟨rfl, rfl⟩
      clear K hx1 hn1 hn2
      go_wp2
      go_step3
      go_wp2
      go_loopg [6, 8] n (fun gk v6 v8 wr => ∃ k hi : Nat, v6 = .int .i64 (k : Int) ∧ v8 = .int .u8 (hi : Int) ∧ wr = w1 ∧ 2 ≤ k ∧ k ≤ n ∧ k ≤ m + 2 ∧ (hi = 48 ∨ hi = 64) ∧ n - k ≤ gk ∧ Aside (ln (c0 :: c1 :: r) = (k + (bd (m + 2 - k) hi ((c0 :: c1 :: r).drop k)).1, (bd (m + 2 - k) hi ((c0 :: c1 :: r).drop k)).2)))
      case atStart =>
        refine ⟨2, 64, rfl, rfl, rfl, by omega, ?_, by omega, .inr rfl, by omega, ?_⟩
        · have := HN.out
          simp only [List.length_cons] at this
          omega
        · show _ = _
          rw [HL.out]
          show _ = (2 + (bd m 64 r).1, _)
          rw [Nat.add_comm]
          rfl
      case round =>
        obtain ⟨k, hi, rfl, rfl, rfl, hk2, hkn, hkm, hhi, hg, HK⟩ := hrel
        by_cases hlt : k < n
        · have hltz : (k : Int) < (n : Int) := by omega
          have hx := HC.out k (by rw [← HN.out]; exact hlt)
          have HD : Aside ((c0 :: c1 :: r).drop k = (c0 :: c1 :: r)[k]! :: (c0 :: c1 :: r).drop (k + 1)) := by
            show _ = _
            have hkl : k < (c0 :: c1 :: r).length := by rw [← HN.out]; exact hlt
            rw [getElem!_pos _ k hkl, List.drop_eq_getElem_cons hkl]
          generalize (c0 :: c1 :: r)[k]! = c at *
          unfold bval at hx
          have hcn : c.toNat < 256 := c.toNat_lt
          obtain ⟨q, hq⟩ : ∃ q, q = c.toNat := ⟨_, rfl⟩
          rw [← hq] at hx hcn
          by_cases g1 : 64 ≤ q ∧ q ≤ 126
          · have z1 : (64 : Int) ≤ (q : Int) := by omega
            have z2 : (q : Int) ≤ 126 := by omega
            have HR : Aside (ln (c0 :: c1 :: r) = (k + 1, true)) := by
              show _ = _
              rw [HK.out, HD.out, bd_end _ _ _ (by rw [← hq]; exact g1)]
            clear HD HK hhi
            generalize ((q : Nat) : Int) = z at *
            go_wp2
            go_ret2
            exact ⟨by rw [HR.out]; go_num, rfl⟩
          · by_cases g2 : m + 2 - k = 0 ∨ q < 32 ∨ hi ≤ q
            · have HR : Aside (ln (c0 :: c1 :: r) = (k, true)) := by
                show _ = _
                rw [HK.out, HD.out, bd_brk _ _ _ (by rw [← hq]; exact g1) (by rw [← hq]; exact g2)]
                rfl
              have z1 : ¬ (64 : Int) ≤ (q : Int) ∨ (64 : Int) ≤ (q : Int) ∧ ¬ (q : Int) ≤ 126 := by omega
              have z2 : 2 + (m : Int) = (k : Int) ∨ (¬ (k : Int) = 2 + (m : Int) ∧ (q : Int) < 32) ∨ (¬ (k : Int) = 2 + (m : Int) ∧ ¬ (q : Int) < 32 ∧ (hi : Int) ≤ (q : Int)) := by omega
              clear HD HK g1 g2 hq hkm hhi
              generalize ((q : Nat) : Int) = z at *
              generalize ((hi : Nat) : Int) = zh at *
              rcases z1 with z1 | ⟨z1, z3⟩ <;> rcases z2 with z2 | ⟨z2, z4⟩ | ⟨z2, z4, z5⟩
              all_goals
                go_wp2
                first | go_ret2 | (rw [Exit.noGoto_ret]; go_ret2)
                exact ⟨by rw [HR.out]; go_num, rfl⟩
            · have HR : Aside (ln (c0 :: c1 :: r) = (k + 1 + (bd (m + 2 - (k + 1)) (if q < 48 then 48 else hi) ((c0 :: c1 :: r).drop (k + 1))).1, (bd (m + 2 - (k + 1)) (if q < 48 then 48 else hi) ((c0 :: c1 :: r).drop (k + 1))).2)) := by
                show _ = _
                rw [HK.out, HD.out, bd_go _ _ _ (by rw [← hq]; exact g1) (by rw [← hq]; exact g2), ← hq, show m + 2 - k - 1 = m + 2 - (k + 1) from by omega]
                exact Prod.ext (show k + (_ + 1) = k + 1 + _ by omega) rfl
              have hk9 : k + 1 ≤ m + 2 := by omega
              have z1 : ¬ (64 : Int) ≤ (q : Int) := by omega
              have z2 : ¬ (k : Int) = 2 + (m : Int) := by omega
              have z3 : ¬ (q : Int) < 32 := by omega
              have z4 : ¬ (hi : Int) ≤ (q : Int) := by omega
              by_cases g3 : q < 48
              · have z5 : (q : Int) < 48 := by omega
                rw [if_pos g3] at HR
                clear HD HK g1 g2 g3 hq hkm
                generalize ((q : Nat) : Int) = z at *
                go_wp2
                go_roundg (n - (k + 1))
                case measure => omega
                case rel => exact ⟨k + 1, 48, by go_num, rfl, rfl, by omega, by omega, by omega, .inl rfl, by omega, HR⟩
              · have z5 : ¬ (q : Int) < 48 := by omega
                rw [if_neg g3] at HR
                clear HD HK g1 g2 g3 hq hkm
                generalize ((q : Nat) : Int) = z at *
                go_wp2
                go_roundg (n - (k + 1))
                case measure => omega
                case rel => exact ⟨k + 1, hi, by go_num, rfl, rfl, by omega, by omega, by omega, hhi, by omega, HR⟩
        · have hltz : ¬ (k : Int) < (n : Int) := by omega
          obtain rfl : k = n := by omega
          have HR : Aside (ln (c0 :: c1 :: r) = (k, false)) := by
            show _ = _
            rw [HK.out, List.drop_eq_nil_of_le (by rw [HN.out]; exact Nat.le_refl _)]
            rfl
          clear HK hkm hhi
          go_wp2
          go_ret2
          exact ⟨by rw [HR.out]; go_num, rfl⟩
end Go.Proofs.YtdaenaoagejgeaaGreatDoor
