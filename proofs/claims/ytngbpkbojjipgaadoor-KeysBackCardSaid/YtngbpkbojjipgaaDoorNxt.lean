/-
  utf.Next at what a key is told by.
-/
import Derived.Test.YtngbpkbojjipgaaDoorUNx
import Derived.Test.YtngbpkbojjipgaaDoorOf
namespace Go.Proofs.YtngbpkbojjipgaaDoor.U
open Go.RowKit Go.Lib
set_option linter.unusedVariables false

theorem nx_enc (c : Nat) (hc : isCh c = true) : nx (enc c) = (c, (enc c).length, 0) := by
  have h := of_decide_eq_true hc
  unfold enc
  by_cases h1 : c < 128
  · rw [if_pos h1]
    have s : szB c = 1 := by unfold szB; rw [if_pos h1]
    simp [nx, nextN, s]
  · rw [if_neg h1]
    by_cases h2 : c < 2048
    · rw [if_pos h2]
      have s : szB (192 + c / 64) = 2 := by unfold szB; (repeat' split) <;> omega
      have l : loB (192 + c / 64) = 128 := by unfold loB; (repeat' split) <;> omega
      have u : hiB (192 + c / 64) = 191 := by unfold hiB; (repeat' split) <;> omega
      show nextN 2 (192 + c / 64) (128 + c % 64) 0 0 = (c, 2, 0)
      unfold nextN
      rw [s, l, u, if_neg (by omega), if_neg (by omega), if_neg (by omega), if_neg (by omega), if_neg (by omega), if_pos rfl, show (192 + c / 64) % 32 * 64 + (128 + c % 64) % 64 = c from by omega]
    · rw [if_neg h2]
      by_cases h3 : c < 65536
      · rw [if_pos h3]
        have s : szB (224 + c / 4096) = 3 := by unfold szB; (repeat' split) <;> omega
        have l : loB (224 + c / 4096) ≤ 128 + c / 64 % 64 := by unfold loB; (repeat' split) <;> omega
        have u : 128 + c / 64 % 64 ≤ hiB (224 + c / 4096) := by unfold hiB; (repeat' split) <;> omega
        have q : ¬ (128 + c / 64 % 64 < loB (224 + c / 4096) ∨ hiB (224 + c / 4096) < 128 + c / 64 % 64) := by omega
        show nextN 3 (224 + c / 4096) (128 + c / 64 % 64) (128 + c % 64) 0 = (c, 3, 0)
        unfold nextN
        rw [s, if_neg (by omega), if_neg (by omega), if_neg (by omega), if_neg (by omega), if_neg q, if_neg (by omega), if_neg (by omega), if_neg (by omega), if_pos rfl, show (224 + c / 4096) % 16 * 4096 + (128 + c / 64 % 64) % 64 * 64 + (128 + c % 64) % 64 = c from by omega]
      · rw [if_neg h3]
        have s : szB (240 + c / 262144) = 4 := by unfold szB; (repeat' split) <;> omega
        have l : loB (240 + c / 262144) ≤ 128 + c / 4096 % 64 := by unfold loB; (repeat' split) <;> omega
        have u : 128 + c / 4096 % 64 ≤ hiB (240 + c / 262144) := by unfold hiB; (repeat' split) <;> omega
        have q : ¬ (128 + c / 4096 % 64 < loB (240 + c / 262144) ∨ hiB (240 + c / 262144) < 128 + c / 4096 % 64) := by omega
        show nextN 4 (240 + c / 262144) (128 + c / 4096 % 64) (128 + c / 64 % 64) (128 + c % 64) = (c, 4, 0)
        unfold nextN
        rw [s, if_neg (by omega), if_neg (by omega), if_neg (by omega), if_neg (by omega), if_neg q, if_neg (by omega), if_neg (by omega), if_neg (by omega), if_neg (by omega), if_neg (by omega), if_neg (by omega), show (240 + c / 262144) % 8 * 262144 + (128 + c / 4096 % 64) % 64 * 4096 + (128 + c / 64 % 64) % 64 * 64 + (128 + c % 64) % 64 = c from by omega]


end Go.Proofs.YtngbpkbojjipgaaDoor.U
namespace Go.Proofs.YtngbpkbojjipgaaDoor
open Go.RowKit Go.Lib
set_option linter.unusedVariables false

/-- The first character of bytes. -/
def nx8 (l : List UInt8) : Nat × Nat × Nat := U.nx (l.map UInt8.toNat)
theorem next_run (l : List UInt8) (a : Option Addr) (cap : Nat) (w : World) (hb : Bts w a l) (hc : l.length ≤ cap) (hm : cap ≤ maxLen) (hT : U.Tabs w) :
    Calls Tryd.prog 20 #[.slice a l.length cap] w (Tells (.tuple #[.int .i64 (nx8 l).1, .int .i64 (nx8 l).2.1, .int .i64 (nx8 l).2.2]) w) := by
  have h := U.next_any a cap (l.map UInt8.toNat) w (bts_to_U hb) (by rw [List.length_map]; exact hc) hm hT
  rw [List.length_map] at h
  exact h.mono fun e w' ⟨he, hb⟩ => ⟨he, Stp.of_below hb⟩
theorem nx_kt : ∀ k, k < 16 → k ≠ 0 → (nx8 (kt k)).2.2 = 0 ∧ ((nx8 (kt k)).2.1 < (kt k).length ∨ ((nx8 (kt k)).2.1 = (kt k).length ∧ ofk ((nx8 (kt k)).1 : Int) = ((k : Int), 0))) := by decide +kernel
/-- What a key is told by has that key, if it is one character. -/
theorem nx_kb {k c : Nat} (h : chk (k : Int) (c : Int) = 0) : ∃ x n : Nat, nx8 (kb k c) = (x, n, 0) ∧ x ≤ 1114111 ∧ n ≤ 4 ∧ (n < (kb k c).length ∨ (n = (kb k c).length ∧ ofk (x : Int) = ((k : Int), (c : Int)))) := by
  obtain ⟨k', c', e1, e2, hk, h0, h1⟩ := chk_zero h
  obtain rfl : k = k' := by omega
  obtain rfl : c = c' := by omega
  by_cases g : k = 0
  · subst g
    have hs := (h0 rfl).1
    have hs2 := of_decide_eq_true hs
    have hn := U.nx_enc c (by simp [U.isCh]; omega)
    have e : kb 0 c = enc8 c := rfl
    refine ⟨c, (U.enc c).length, ?_, (h0 rfl).2, (U.enc_len c).2, .inr ⟨?_, ?_⟩⟩
    · rw [e]
      unfold nx8
      rw [enc8_nat (h0 rfl).2, hn]
    · rw [e]
      unfold enc8
      simp
    · unfold ofk
      rw [hs]
      rfl
  · obtain rfl := h1 g
    have e : kb k 0 = kt k := by unfold kb; rw [if_neg g]
    have hn := nx_kt k hk g
    have hb : ∀ k, k < 16 → (nx8 (kt k)).1 ≤ 1114111 ∧ (nx8 (kt k)).2.1 ≤ 4 := by decide +kernel
    have hb2 := hb k hk
    rw [e]
    generalize nx8 (kt k) = r at *
    obtain ⟨x, n, q⟩ := r
    obtain ⟨rfl, hr⟩ := hn
    exact ⟨x, n, rfl, hb2.1, hb2.2, hr⟩
end Go.Proofs.YtngbpkbojjipgaaDoor
