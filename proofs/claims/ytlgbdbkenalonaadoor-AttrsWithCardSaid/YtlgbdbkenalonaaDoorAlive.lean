/-
  alive: the document's examples.
-/
import Derived.Test.YtlgbdbkenalonaaDoorRead2
namespace Go.Proofs.YtlgbdbkenalonaaDoor
open Go.RowKit Go.Lib
set_option linter.unusedVariables false

theorem dig_small {b n : Nat} (h : n < b) : dig b n = [dch n] := dig_lt h
theorem text_a : text 67 4 0 = [101, 99, 104, 111, 43, 99, 97, 110, 111, 110, 43, 112, 111, 115, 116, 32, 52, 32, 48] := by
  have h1 : parts 67 = [nm 0, nm 1, nm 6] := by
    unfold parts
    rw [if_pos (by decide)]
    decide
  have h2 : ftext 67 = Lib.join [nm 0, nm 1, nm 6] [43] := by
    unfold ftext
    rw [h1, if_neg (by simp)]
  unfold text
  rw [h2, dig_small (by omega), dig_small (by omega)]
  decide
theorem text_b : text 128 0 0 = [120, 56, 48, 32, 48, 32, 48] := by
  have h0 : hi 128 7 = 128 := by decide
  have h1 : parts 128 = [[120, 56, 48]] := by
    unfold parts
    rw [h0, if_neg (by omega), dig_ge (by omega) (by omega), dig_small (by omega)]
    decide
  unfold text ftext
  rw [h1, if_neg (by simp), dig_small (by omega)]
  decide
theorem text_c : text 1 0 0 = [101, 99, 104, 111, 32, 48, 32, 48] := by
  have h1 : parts 1 = [nm 0] := by
    unfold parts
    rw [if_pos (by decide)]
    decide
  unfold text ftext
  rw [h1, if_neg (by simp), dig_small (by omega)]
  decide
def eL : List UInt8 := [101, 99, 104, 111, 43, 101, 99, 104, 111, 32, 48, 32, 48]
theorem rv_b : rv [120, 56, 48, 32, 48, 32, 48] = .tuple #[av 128 0 0, .int .i64 0] := by
  rw [← text_b]
  exact rv_text ⟨by omega, by omega, by omega⟩
theorem rv_c : rv eL = .tuple #[av 0 0 0, .int .i64 8] := by
  have h1 : rdf eL = 1 := by decide
  have h2 : rdm eL = 0 := by decide
  have h3 : rdt eL = 0 := by decide
  unfold rv
  rw [h1, h2, h3, text_c, if_neg (by decide)]

set_option maxHeartbeats 2000000 in
set_option maxRecDepth 100000 in
theorem alive_run (w : World) (hT : Tabs w) : Calls Tryd.prog 5 #[] w (Tells (.bool true) w) := by
  have HT : Aside (Tabs w) := hT
  have K1 : Hid (∀ W, Stp [] w [] W → Calls Tryd.prog 7 #[.agg #[.int .u32 67, .int .u8 4, .int .u8 0]] W (Tells (.string ⟨#[101, 99, 104, 111, 43, 99, 97, 110, 111, 110, 43, 112, 111, 115, 116, 32, 52, 32, 48]⟩) W)) := Lib.hid fun W hs => by
    have := text_run (f := 67) (m := 4) (t := 0) ⟨by omega, by omega, by omega⟩ W (HT.out.stays hs)
    rw [text_a] at this
    exact this
  have K2 : Hid (∀ W, Stp [] w [] W → Calls Tryd.prog 8 #[.string ⟨#[120, 56, 48, 32, 48, 32, 48]⟩] W (Tells (.tuple #[.agg #[.int .u32 128, .int .u8 0, .int .u8 0], .int .i64 0]) W)) := Lib.hid fun W hs => by
    have := read_run [120, 56, 48, 32, 48, 32, 48] (by decide) W (HT.out.stays hs)
    rw [rv_b] at this
    exact this
  have K3 : Hid (∀ W, Stp [] w [] W → Calls Tryd.prog 8 #[.string ⟨#[101, 99, 104, 111, 43, 101, 99, 104, 111, 32, 48, 32, 48]⟩] W (Tells (.tuple #[.agg #[.int .u32 0, .int .u8 0, .int .u8 0], .int .i64 8]) W)) := Lib.hid fun W hs => by
    have := read_run eL (by decide) W (HT.out.stays hs)
    rw [rv_c] at this
    exact this
  clear hT
  go_enter Tryd.func5, Tryd.ntmps5
  go_wp2_with fail
  refine (K1.out _ (Stp.refl _ _)).mono ?_
  rintro _ w1 ⟨rfl, h1⟩
  go_wp2_with fail
  refine (K2.out _ h1).mono ?_
  rintro _ w2 ⟨rfl, h2⟩
  have HS : Aside (Stp [] w [] w2) := h1.trans h2
  clear h1 h2
  go_wp2_with fail
  refine (K3.out _ (HS.out.trans (Stp.alloc [] _ _))).mono ?_
  rintro _ w3 ⟨rfl, h3⟩
  have hA : At3 w3 w2.heap.size 128 0 0 := (At3.new w2 128 0 0).stays h3
  have hlt := hA.lt
  obtain ⟨c0, _, _, _, _, _⟩ := hA.cells
  have HE : Aside (Stp [] w [] w3) := (HS.out.trans (Stp.alloc [] _ _)).trans h3
  clear hA HS h3
  go_wp2
  go_ret
  exact ⟨rfl, HE.out.trans (Stp.alloc [] _ _)⟩
end Go.Proofs.YtlgbdbkenalonaaDoor
