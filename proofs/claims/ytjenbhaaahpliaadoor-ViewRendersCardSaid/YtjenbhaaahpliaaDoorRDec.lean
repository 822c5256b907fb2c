/-
  The document's digits.
-/
import Derived.Test.YtjenbhaaahpliaaDoorOwn
import Derived.Test.YtjenbhaaahpliaaDoorDig
namespace Go.Proofs.YtjenbhaaahpliaaDoor
open Go.RowKit Go.Lib
set_option linter.unusedVariables false

theorem emp_st {l : List UInt8} (h : l ≠ []) : (st l).toList.isEmpty = false := by
  rw [st_toList]
  cases l
  · exact absurd rfl h
  · rfl
def D16 : ByteArray := ⟨#[48, 49, 50, 51, 52, 53, 54, 55, 56, 57, 97, 98, 99, 100, 101, 102]⟩
theorem d16_cut : ∀ d : Nat, d < 16 → (D16.data.toList.drop d).take 1 = [dch d] := by decide +kernel
theorem d16_ext (d : Nat) (hd : d < 16) : D16.extract d (d + 1) = st [dch d] := by
  rw [extract_eq, show d + 1 - d = 1 by omega, d16_cut d hd]
  rfl
/-- What is left to be written, and what has been. -/
theorem dec_step {b n q : Nat} {s : List UInt8} (hb : 2 ≤ b) (hq : 0 < q ∨ s = []) (h : dig b n = dig b q ++ s) : (0 < q / b → dig b n = dig b (q / b) ++ (dch (q % b) :: s)) ∧ (q / b = 0 → dig b n = dch (q % b) :: s) := by
  rcases Nat.lt_or_ge q b with g | g
  · rw [dig_lt g] at h
    have e1 : q / b = 0 := Nat.div_eq_of_lt g
    have e2 : q % b = q := Nat.mod_eq_of_lt g
    exact ⟨fun h1 => by omega, fun _ => by rw [e2, h]; rfl⟩
  · rw [dig_ge hb g, List.append_assoc] at h
    refine ⟨fun _ => h, fun h0 => ?_⟩
    have := Nat.div_pos g (by omega : 0 < b)
    omega
set_option maxHeartbeats 1000000 in
set_option maxRecDepth 100000 in
theorem dec_run (n b : Nat) (hb : b = 10 ∨ b = 16) (hn : n < 9223372036854775808) (w : World) : Calls Tryd.prog 25 #[.int .i64 (n : Int), .int .i64 (b : Int)] w (Tells (.string (st (dig b n))) w) := by
  have hb2 : 2 ≤ b := by omega
  have hb16 : b ≤ 16 := by omega
  have mixed : Tryd.prog.follows Departure.mixedOrders = true := by kernel_rfl
  have HL : Aside ((dig b n).length ≤ 63) := by
    have h := dig_len (b := b) hb2 62 n (Nat.lt_of_lt_of_le hn (Nat.pow_le_pow_left hb2 63 : 2 ^ 63 ≤ b ^ 63))
    exact h
  go_enter Tryd.func25, Tryd.ntmps25
  go_wp2
  go_loopg [0, 5] (n + 1) (fun gk v0 v5 wr => ∃ (q : Nat) (s : List UInt8), v0 = .int .i64 (q : Int) ∧ v5 = .string (st s) ∧ q ≤ n ∧ (if s = [] then q + 1 else q) ≤ gk ∧ s.length ≤ 63 ∧ Aside ((0 < q ∨ s = [] → dig b n = dig b q ++ s) ∧ (¬ (0 < q ∨ s = []) → dig b n = s) ∧ Stp [] w [] wr))
  case atStart => exact ⟨n, [], rfl, rfl, by omega, by simp, by simp, fun _ => by simp, fun h => absurd (.inr rfl) h, Stp.refl _ _⟩
  case round =>
    obtain ⟨q, s, rfl, rfl, hq, hg, hsl, HS⟩ := hrel
    by_cases hc : 0 < q ∨ s = []
    · have hd := HS.out.1 hc
      obtain ⟨d1, d2⟩ := dec_step hb2 hc hd
      have hmod : (q : Int) % (b : Int) = ((q % b : Nat) : Int) := by omega
      have hdiv : (q : Int) / (b : Int) = ((q / b : Nat) : Int) := by omega
      have hr := Nat.mod_lt q (by omega : 0 < b)
      have hlt : q % b < 16 := by omega
      have hext := d16_ext (q % b) hlt
      unfold D16 at hext
      have hcat := st_append [dch (q % b)] s
      have hqb : q / b ≤ q := Nat.div_le_self _ _
      have hqb2 : 0 < q → q / b < q := fun h => Nat.div_lt_self h (by omega)
      have hlen2 : (dch (q % b) :: s).length ≤ 63 := by
        have := HL.out
        rw [hd] at this
        have h1 : 0 < (dig b q).length := List.length_pos_iff.2 (dig_ne b q)
        simp at this ⊢
        omega
      have HE : Aside ((0 < q / b ∨ dch (q % b) :: s = [] → dig b n = dig b (q / b) ++ (dch (q % b) :: s)) ∧ (¬ (0 < q / b ∨ dch (q % b) :: s = []) → dig b n = dch (q % b) :: s) ∧ Stp [] w [] wr) :=
        ⟨fun h => d1 (by rcases h with h | h; exact h; cases h), fun h => d2 (Nat.eq_zero_of_not_pos fun g => h (.inl g)), HS.out.2.2⟩
      have hss := st_size s
      have hs1 : (st [dch (q % b)]).size = 1 := st_size _
      have hroom : ¬ 9223372036854775807 < 1 + s.length := by omega
      rw [List.singleton_append] at hcat
      have hgo : (if s = [] then q + 1 else q) ≤ gk := hg
      generalize dch (q % b) = x at *
      generalize q / b = q' at *
      generalize q % b = r at *
      clear HS hd d1 d2
      by_cases hq0 : 0 < q
      · have hqz : (0 : Int) < (q : Int) := by omega
        have hq2 := hqb2 hq0
        clear hc hqb2
        go_wp2_with fail
        go_region
        all_goals
          go_wp2
          go_roundg (gk - 1)
          case measure =>
            split at hgo <;> omega
          case rel =>
            refine ⟨q', x :: s, by go_num, by go_num, by omega, ?_, hlen2, HE.out.1, HE.out.2.1, HE.out.2.2.trans (Stp.drew _ _)⟩
            rw [if_neg (by simp)]
            split at hgo <;> omega
      · have hs0 : s = [] := by rcases hc with h | h; exact absurd h hq0; exact h
        subst hs0
        have hqz : ¬ (0 : Int) < (q : Int) := by omega
        have hst : st [] = ⟨#[]⟩ := rfl
        rw [hst] at hcat ⊢
        clear hc hqb2 hss
        go_wp2_with fail
        go_region
        all_goals
          go_wp2
          go_roundg (gk - 1)
          case measure =>
            simp at hgo
            omega
          case rel =>
            refine ⟨q', [x], by go_num, by go_num, by omega, ?_, hlen2, HE.out.1, HE.out.2.1, HE.out.2.2.trans (Stp.drew _ _)⟩
            rw [if_neg (by simp)]
            simp at hgo
            omega
    · have hd := HS.out.2.1 hc
      have hq0 : q = 0 := by omega
      subst hq0
      have hne : s ≠ [] := fun e => hc (.inr e)
      have hemp := emp_st hne
      have HE : Aside (dig b n = s ∧ Stp [] w [] wr) := ⟨hd, HS.out.2.2⟩
      clear HS hd hc hne
      go_wp2
      go_ret
      exact ⟨by rw [HE.out.1]; rfl, HE.out.2⟩

end Go.Proofs.YtjenbhaaahpliaaDoor
