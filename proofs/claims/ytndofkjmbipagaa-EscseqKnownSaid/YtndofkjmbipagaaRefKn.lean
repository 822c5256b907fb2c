/-
  whispererref09.Known; rows of texts.
-/
import Derived.Test.YtndofkjmbipagaaAppC
import Derived.Deep.DeepCutAuto
import Derived.Deep.CutBlock
namespace Go.Proofs.Ytndofkjmbipagaa
open Go.RowKit Go.Lib
set_option linter.unusedVariables false

/-! ### Rows of texts of the call's own -/
def SOwn (w : World) (base : Nat) (v : Value) (l : List (List UInt8)) : Prop := w.ownsRow base 9 1 v l.length (l.map fun x => Value.string (st x))
theorem SOwn.nil (w : World) (base : Nat) : SOwn w base (.slice none 0 0) [] := World.ownsRow_nil _ _ _ _
theorem SOwn.lt {w : World} {base : Nat} {v : Value} {l : List (List UInt8)} (h : SOwn w base v l) : ∀ k, v.ownBlock = some k → base ≤ k ∧ k < w.heap.size := World.ownsRow.lt h
theorem SOwn.other {w w' : World} {base : Nat} {v : Value} {l : List (List UInt8)} {G G' : List Nat} (h : SOwn w base v l) (hs : Stp G w G' w') (hG : ∀ k, v.ownBlock = some k → k ∉ G) : SOwn w' base v l := by
  refine ⟨h.1, ?_⟩
  rcases h.2 with hn | ⟨g, cap, cur, rfl, hb, hgg, rest⟩
  · exact .inl hn
  · exact .inr ⟨g, cap, cur, rfl, hb, (hs.block g (Array.getElem?_eq_some_iff.1 hgg).1 (hG g rfl)).trans hgg, rest⟩
theorem SOwn.stays {w w' : World} {base : Nat} {v : Value} {l : List (List UInt8)} {G' : List Nat} (h : SOwn w base v l) (hs : Stp [] w G' w') : SOwn w' base v l := h.other hs (fun _ _ => by simp)
/-- The row's form. -/
theorem SOwn.form {w : World} {base : Nat} {v : Value} {l : List (List UInt8)} (h : SOwn w base v l) : ∃ a cap, v = .slice a l.length cap ∧ (a = none → cap = 0 ∧ l = []) ∧ l.length ≤ cap ∧ cap ≤ maxLen ∧
    ∀ ad, a = some ad → ∃ g, ad = ⟨g, 0, none⟩ ∧ base ≤ g ∧ g < w.heap.size ∧ ∀ j x, l[j]? = some x → w.cell? ⟨g, j, none⟩ = some (.string (st x)) := by
  rcases h.2 with ⟨rfl, h0⟩ | ⟨g, cap, cur, rfl, hg, hh, hnc, hm, hcur, htake⟩
  · refine ⟨none, 0, by rw [h0], fun _ => ⟨rfl, List.length_eq_zero_iff.1 h0⟩, by omega, by simp [maxLen], fun ad h => by cases h⟩
  · refine ⟨some ⟨g, 0, none⟩, cap, rfl, (fun h => by cases h), hnc, hm, fun ad h => ?_⟩
    cases h
    refine ⟨g, rfl, hg, (Array.getElem?_eq_some_iff.1 hh).1, fun j x hx => ?_⟩
    rw [cell_of_row w g j cur _ _ hh]
    have hj : j < l.length := (List.getElem?_eq_some_iff.1 hx).1
    have h2 := congrArg (·[j]?) htake
    simp only [Nat.mul_one, List.getElem?_take, hj, if_true, List.getElem?_map, hx, Option.map_some] at h2
    rw [← Array.getElem?_toList, h2]
/-- The sequences that are keys, in their order, without ESC. -/
def rlL : List (List UInt8) := [[79, 67], [79, 68], [79, 70], [79, 72], [91, 49, 126], [91, 50, 48, 48, 126], [91, 50, 48, 49, 126], [91, 51, 126], [91, 52, 126], [91, 55, 126], [91, 56, 126], [91, 67], [91, 68], [91, 70], [91, 72]]
def kno : List (List UInt8) := rlL.map (fun x => 27 :: x)
/-- A block of texts known whole. -/
def SBlk (w : World) (g : Nat) (C : List (List UInt8)) : Prop := w.heap[g]? = some (.cells (C.map fun x => Value.string (st x)).toArray 9 (0, 0))
theorem SBlk.lt {w : World} {g : Nat} {C : List (List UInt8)} (h : SBlk w g C) : g < w.heap.size := (Array.getElem?_eq_some_iff.1 h).1
theorem SBlk.cell {w : World} {g : Nat} {C : List (List UInt8)} (h : SBlk w g C) {i : Nat} (hi : i < C.length) : w.cell? ⟨g, i, none⟩ = some (.string (st (C[i]!))) := by
  rw [cell_of_row w g i _ _ _ h, getElem!_pos C i hi]
  simp [hi]
theorem SBlk.fz {w : World} {g : Nat} {C : List (List UInt8)} (h : SBlk w g C) (i : Nat) : w.frozen? ⟨g, i, none⟩ = false := frozen_of_row w g i _ _ h
theorem SBlk.set {w : World} {g : Nat} {C : List (List UInt8)} (h : SBlk w g C) (i : Nat) (x : List UInt8) : SBlk (w.setCell ⟨g, i, none⟩ (.string (st x))) g (C.set i x) := by
  have := heap_setCell_same w g i _ _ (.string (st x)) h
  unfold SBlk
  rw [this, List.map_set]
  simp
theorem SBlk.stays {w w' : World} {g : Nat} {C : List (List UInt8)} {F : List Nat} (h : SBlk w g C) (hs : Stp [] w F w') : SBlk w' g C := (hs.block g h.lt (by simp)).trans h
/-- The list as far as it has been gone through. -/
def gone (i : Nat) : List (List UInt8) := (rlL.take i).map (fun x => 27 :: x) ++ rlL.drop i
theorem gone_step : ∀ i, i < 15 → (gone i).length = 15 ∧ (gone i)[i]! = rlL[i]! ∧ (rlL[i]!).length ≤ 5 ∧ (gone i).set i (27 :: rlL[i]!) = gone (i + 1) := by decide
theorem esc_app (x : List UInt8) : ({ data := #[27] } : ByteArray) ++ st x = st (27 :: x) := st_append [27] x
/-- The list is told. -/
def Lst (w : World) (e : Ending) (w' : World) : Prop := ∃ g, e = .returned (.slice (some ⟨g, 0, none⟩) 15 15) ∧ SBlk w' g kno ∧ Stp [] w [] w'
set_option maxHeartbeats 1000000 in
set_option maxRecDepth 100000 in
theorem rknown_run (w : World) : Calls Try.prog 13 #[] w (Lst w) := by
  have H0 : Aside (SBlk (w.alloc (.cells (rlL.map fun x => Value.string (st x)).toArray 9)) w.heap.size (gone 0) ∧ Stp [] w [] (w.alloc (.cells (rlL.map fun x => Value.string (st x)).toArray 9))) := ⟨heap_alloc_new w _, Stp.alloc [] w _⟩
  have e0 : (rlL.map fun x => Value.string (st x)).toArray = #[.string ⟨#[79, 67]⟩, .string ⟨#[79, 68]⟩, .string ⟨#[79, 70]⟩, .string ⟨#[79, 72]⟩, .string ⟨#[91, 49, 126]⟩, .string ⟨#[91, 50, 48, 48, 126]⟩, .string ⟨#[91, 50, 48, 49, 126]⟩, .string ⟨#[91, 51, 126]⟩, .string ⟨#[91, 52, 126]⟩, .string ⟨#[91, 55, 126]⟩, .string ⟨#[91, 56, 126]⟩, .string ⟨#[91, 67]⟩, .string ⟨#[91, 68]⟩, .string ⟨#[91, 70]⟩, .string ⟨#[91, 72]⟩] := rfl
  rw [e0] at H0
  clear e0
  go_enter Try.func13, Try.ntmps13
  go_upto_region 2 with fail
  have HG : Aside (∀ i ∈ [w.heap.size], w.heap.size ≤ i) := fun i hi => by rw [List.mem_singleton.1 hi]; exact Nat.le_refl _
  generalize w.alloc (.cells #[.string ⟨#[79, 67]⟩, .string ⟨#[79, 68]⟩, .string ⟨#[79, 70]⟩, .string ⟨#[79, 72]⟩, .string ⟨#[91, 49, 126]⟩, .string ⟨#[91, 50, 48, 48, 126]⟩, .string ⟨#[91, 50, 48, 49, 126]⟩, .string ⟨#[91, 51, 126]⟩, .string ⟨#[91, 52, 126]⟩, .string ⟨#[91, 55, 126]⟩, .string ⟨#[91, 56, 126]⟩, .string ⟨#[91, 67]⟩, .string ⟨#[91, 68]⟩, .string ⟨#[91, 70]⟩, .string ⟨#[91, 72]⟩] 9) = w0 at *
  have HW : Aside (∀ (F : List Nat) (W W' : World), Stp [] w [] W → (∀ i ∈ F, w.heap.size ≤ i) → Stp F W F W' → Stp [] w [] W') := fun F W W' h hF k => (h.fresh k hF).none
  generalize hg : w.heap.size = g at *
  clear hg
  go_wp2
  go_loopg [2] 15 (fun gk v2 wr => ∃ i : Nat, v2 = .int .i64 (i : Int) ∧ i ≤ 15 ∧ 15 - i ≤ gk ∧ Aside (SBlk wr g (gone i) ∧ Stp [] w [] wr))
  case atStart => exact ⟨0, rfl, by omega, by omega, H0⟩
  case round =>
    clear H0
    obtain ⟨i, rfl, hi, hgk, HS⟩ := hrel
    by_cases hlt : i < 15
    · have hltz : (i : Int) < 15 := by omega
      obtain ⟨g1, g2, g3, g4⟩ := gone_step i hlt
      have hc := HS.out.1.cell (i := i) (by omega)
      rw [g2] at hc
      have hf := HS.out.1.fz i
      have hgl := HS.out.1.lt
      have HX : Aside (SBlk (wr.setCell ⟨g, i, none⟩ (.string (st (27 :: rlL[i]!)))) g (gone (i + 1)) ∧ Stp [] w [] (wr.setCell ⟨g, i, none⟩ (.string (st (27 :: rlL[i]!))))) :=
        ⟨by rw [← g4]; exact HS.out.1.set i _, HW.out [g] _ _ HS.out.2 HG.out (Stp.setCell wr _ (by simp))⟩
      have hsz : (st (rlL[i]!)).size ≤ 5 := by rw [st_size]; exact g3
      have hsz2 : ¬ 9223372036854775807 < 1 + (st (rlL[i]!)).size := by omega
      have he := esc_app (rlL[i]!)
      clear g1 g2 g3 g4
      generalize st (27 :: rlL[i]!) = s1 at *
      generalize st (rlL[i]!) = s0 at *
      go_wp2
      go_roundg (15 - (i + 1))
      case measure => omega
      case rel => exact ⟨i + 1, by go_num, by omega, by omega, HX⟩
    · have hltz : decide ((i : Int) < 15) = false := decide_eq_false (by omega)
      obtain rfl : i = 15 := by omega
      go_wp2
      go_ret
      exact ⟨g, rfl, HS.out.1, HS.out.2⟩
end Go.Proofs.Ytndofkjmbipagaa
