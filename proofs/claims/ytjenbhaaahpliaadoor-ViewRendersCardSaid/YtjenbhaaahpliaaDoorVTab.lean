/-
  What the library's tables hold while a call runs; the library's calls: Repeat of a star, Itoa.
-/
import Derived.Test.YtjenbhaaahpliaaDoorUNext
import Derived.Test.YtjenbhaaahpliaaDoorOwn
import Derived.Test.YtjenbhaaahpliaaDoorDig
import Derived.Test.YtjenbhaaahpliaaDoorShelf
import Derived.Lib.SmallJoins
namespace Go.Proofs.YtjenbhaaahpliaaDoor
open Go.RowKit Go.Lib
set_option linter.unusedVariables false

/-- The tables of the library. -/
structure Tabs (w : World) : Prop where
  utf : U.Tabs w
  pow : Lib.TabIs Tryd.prog w "internal/strconv.uint64pow10" .u64 Lib.pow10Tab
theorem gPow : Tryd.prog.globalNamed "internal/strconv.uint64pow10" = some 1 := by kernel_rfl
theorem Stp.keeps {F F' : List Nat} {w w' : World} (h : Stp F w F' w') (hF : F = []) {a : Addr} {v : Value} (hc : w.cell? a = some v) : w'.cell? a = some v := by
  subst hF
  exact (h.cell (block_lt_of_cell hc) (by simp)).trans hc
theorem Tabs.stays {w w' : World} {F : List Nat} (h : Tabs w) (hs : Stp [] w F w') : Tabs w' :=
  ⟨h.utf.below hs.under, Go.Joins.tab_stays gPow h.pow (hs.below (B := w.heap.size) (by simp) (Nat.le_refl _)) (Nat.le_refl _)⟩
theorem grow_stp (w : World) (os : Array Obj) : Stp [] w [] (Go.Sort.grow w os) := Stp.of_below (by
  refine ⟨?_, ?_, ?_, ?_, ?_⟩ <;> simp [Go.Sort.grow] <;> intros <;> simp [Array.getElem?_append, *])
theorem itoa_run (n : Nat) (hn : n ≤ 9223372036854775807) (w : World) (hT : Tabs w) :
    Calls Tryd.prog 23 #[.int .i64 (n : Int)] w (Tells (.string (st (dig 10 n))) w) := by
  refine (Tryd.strconv_Itoa (n : Int) (by omega) (by omega) w hT.pow).mono ?_
  rintro e w' ⟨rfl, k, os, rfl⟩
  rw [itoa_dig]
  exact ⟨rfl, (Stp.drewN _ _ _).trans (grow_stp _ _)⟩
theorem repeat_one (x : UInt8) : ∀ k, Lib.repeatL [x] k = List.replicate k x
  | 0 => rfl
  | k + 1 => by rw [Lib.repeatL, repeat_one x k]; rfl
theorem rep_run (x : UInt8) (k : Nat) (hk : k ≤ 1000000) (w : World) : Calls Tryd.prog 22 #[.string ⟨#[x]⟩, .int .i64 (k : Int)] w (Tells (.string (st (List.replicate k x))) w) := by
  refine (Tryd.strings_Repeat ⟨#[x]⟩ k w (by omega) (by show 1 * k ≤ _; omega)).mono ?_
  rintro e w' ⟨rfl, hb⟩
  exact ⟨by rw [show (⟨#[x]⟩ : ByteArray).data.toList = [x] from rfl, repeat_one]; rfl, Stp.of_below hb⟩
end Go.Proofs.YtjenbhaaahpliaaDoor
