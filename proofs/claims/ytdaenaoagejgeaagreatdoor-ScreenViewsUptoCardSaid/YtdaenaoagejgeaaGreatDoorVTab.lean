/-
  What the package variables hold while a call runs; the library's calls: Repeat of a byte, Itoa; the number of a text.
-/
import Derived.Test.YtdaenaoagejgeaaGreatDoorUNext
import Derived.Test.YtdaenaoagejgeaaGreatDoorNx
import Derived.Test.YtdaenaoagejgeaaGreatDoorDig
import Derived.Test.YtdaenaoagejgeaaGreatDoorShelf
import Derived.Lib.SmallJoins
namespace Go.Proofs.YtdaenaoagejgeaaGreatDoor
open Go.RowKit Go.Lib
set_option linter.unusedVariables false

/-- The tables and errors of the library. -/
structure Tabs (w : World) : Prop where
  utf : U.Tabs w
  pow : Lib.TabIs Tryz.prog w "internal/strconv.uint64pow10" .u64 Lib.pow10Tab
  syn : ∃ t p, w.cell? ⟨6, 0, none⟩ = some (.iface t p)
  rng : ∃ t p, w.cell? ⟨7, 0, none⟩ = some (.iface t p)
theorem gPow : Tryz.prog.globalNamed "internal/strconv.uint64pow10" = some 1 := by kernel_rfl
theorem Tabs.stays {w w' : World} {F : List Nat} (h : Tabs w) (hs : Stp [] w F w') : Tabs w' := by
  refine ⟨h.utf.below hs.under, ?_, ?_, ?_⟩
  · exact Go.Joins.tab_stays gPow h.pow (hs.below (B := w.heap.size) (by simp) (Nat.le_refl _)) (Nat.le_refl _)
  · obtain ⟨t, p, e⟩ := h.syn
    exact ⟨t, p, hs.keeps rfl e⟩
  · obtain ⟨t, p, e⟩ := h.rng
    exact ⟨t, p, hs.keeps rfl e⟩
theorem grow_stp (w : World) (os : Array Obj) : Stp [] w [] (Go.Sort.grow w os) := Stp.of_below (by
  refine ⟨?_, ?_, ?_, ?_, ?_⟩ <;> simp [Go.Sort.grow] <;> intros <;> simp [Array.getElem?_append, *])
theorem itoa_run (n : Nat) (hn : n ≤ 9223372036854775807) (w : World) (hT : Tabs w) :
    Calls Tryz.prog 20 #[.int .i64 (n : Int)] w (Tells (.string (st (dig 10 n))) w) := by
  refine (Tryz.strconv_Itoa (n : Int) (by omega) (by omega) w hT.pow).mono ?_
  rintro e w' ⟨rfl, k, os, rfl⟩
  rw [itoa_dig]
  exact ⟨rfl, (Stp.drewN _ _ _).trans (grow_stp _ _)⟩
theorem repeat_one (x : UInt8) : ∀ k, Lib.repeatL [x] k = List.replicate k x
  | 0 => rfl
  | k + 1 => by rw [Lib.repeatL, repeat_one x k]; rfl
theorem rep_run (x : UInt8) (k : Nat) (hk : k ≤ 1000000) (w : World) : Calls Tryz.prog 19 #[.string ⟨#[x]⟩, .int .i64 (k : Int)] w (Tells (.string (st (List.replicate k x))) w) := by
  refine (Tryz.strings_Repeat ⟨#[x]⟩ k w (by omega) (by show 1 * k ≤ _; omega)).mono ?_
  rintro e w' ⟨rfl, hb⟩
  exact ⟨by rw [show (⟨#[x]⟩ : ByteArray).data.toList = [x] from rfl, repeat_one]; rfl, Stp.of_below hb⟩
/-- The number of a text, or 0. -/
def gth (s : List UInt8) : Int := match atoiAll s with
  | .ok v => v
  | _ => 0
theorem pu_par : ∀ (l : List UInt8) (acc v : Nat), acc ≤ 1114111 → par 10 1114111 acc l = some v → parseUint10 acc l = .ok v
  | [], acc, v, _, h => by
    simp only [par, Option.some.injEq] at h
    rw [h]
    rfl
  | c :: r, acc, v, ha, h => by
    simp only [par] at h
    split at h
    · cases h
    · rename_i d hd
      split at h
      · cases h
      · split at h
        · cases h
        · rename_i h1 h2
          have hc : 48 ≤ c.toNat ∧ c.toNat ≤ 57 ∧ d = c.toNat - 48 := by
            unfold dv at hd
            split at hd
            · cases hd
              omega
            · split at hd
              · cases hd
                omega
              · cases hd
          obtain ⟨g1, g2, rfl⟩ := hc
          simp only [parseUint10]
          rw [if_pos ⟨g1, g2⟩, if_neg (by omega), if_neg (by omega)]
          exact pu_par r _ v (by omega) h
theorem dch_plain : ∀ d, d < 10 → (dch d).toNat ≠ 43 ∧ (dch d).toNat ≠ 45 := by decide
theorem gth_dig {n : Nat} (hn : n ≤ 1114111) : gth (dig 10 n) = (n : Int) := by
  have h1 := pu_par (dig 10 n) 0 n (by omega) (par_dig (by omega) (by omega) n hn)
  have h2 : parseMag (dig 10 n) = .ok n := by
    unfold parseMag
    rw [if_neg (dig_ne 10 n), h1]
  unfold gth
  cases hd : dig 10 n with
  | nil => exact absurd hd (dig_ne 10 n)
  | cons c r =>
    obtain ⟨d, hd10, hc⟩ := dig_mem (b := 10) (by omega) (by omega) n c (by rw [hd]; simp)
    have hp := dch_plain d hd10
    rw [← hc] at hp
    rw [atoiAll_plain c r hp.1 hp.2, ← hd, h2]
    unfold signless
    simp only
    rw [if_neg (by omega)]
end Go.Proofs.YtdaenaoagejgeaaGreatDoor
