/-
  utf.Next and the document's Next at lists of bytes; the document's examples come out as it says.
-/
import Derived.Test.YtgnmjhhfefnmcaaDoorRef2
namespace Go.Proofs.YtgnmjhhfefnmcaaDoor
open Go.RowKit Go.Lib
set_option linter.unusedVariables false

/-- A slice's cells, as far as it is long, are these bytes. -/
def Bts (w : World) (a : Option Addr) (l : List Nat) : Prop :=
  (∀ x ∈ l, x < 256) ∧ (l ≠ [] → ∃ b off, a = some ⟨b, off, none⟩ ∧ ∀ i, i < l.length → w.cell? ⟨b, off + i, none⟩ = some (.int .u8 (l.getD i 0 : Nat)))

theorem getD_lt {l : List Nat} (h : ∀ x ∈ l, x < 256) (i : Nat) : l.getD i 0 < 256 := by
  rw [List.getD_eq_getElem?_getD]
  cases e : l[i]? with
  | none => simp
  | some x => exact h x (List.mem_of_getElem? e)

theorem Bts.four {w : World} {l : List Nat} {b off : Nat} (hl : ∀ x ∈ l, x < 256) (hc : ∀ i, i < l.length → w.cell? ⟨b, off + i, none⟩ = some (.int .u8 (l.getD i 0 : Nat))) (h0 : 0 < l.length) :
    Four w b off l.length (l.getD 0 0) (l.getD 1 0) (l.getD 2 0) (l.getD 3 0) :=
  ⟨hc 0 h0, hc 1, hc 2, hc 3, getD_lt hl 0, getD_lt hl 1, getD_lt hl 2, getD_lt hl 3⟩

theorem Bts.below {w w' : World} {a : Option Addr} {l : List Nat} {B : Nat} (h : Bts w a l) (hb : Below B w w') (hB : w.heap.size ≤ B) : Bts w' a l := by
  refine ⟨h.1, fun hl => ?_⟩
  obtain ⟨b, off, rfl, hc⟩ := h.2 hl
  refine ⟨b, off, rfl, fun i hi => ?_⟩
  have h0 := block_lt_of_cell (hc i hi)
  rw [hb.cell (p := ⟨b, off + i, none⟩) (by simp at h0 ⊢; omega)]
  exact hc i hi

/-- The first character of a list of bytes. -/
def nx (l : List Nat) : Nat × Nat × Nat := nextN l.length (l.getD 0 0) (l.getD 1 0) (l.getD 2 0) (l.getD 3 0)

theorem nx_nil : nx [] = (0, 0, 6) := rfl

theorem next_any (a : Option Addr) (cap : Nat) (l : List Nat) (w : World) (h : Bts w a l) (hcap : l.length ≤ cap) (hm : cap ≤ maxLen) (hT : Tabs w) :
    Calls Tryd.prog 10 #[.slice a l.length cap] w (Nx (nx l) w) := by
  by_cases hl : l = []
  · subst hl
    exact next_empty a cap w
  · obtain ⟨b, off, rfl, hc⟩ := h.2 hl
    have h0 : 0 < l.length := List.length_pos_iff.2 hl
    exact next_four b off l.length cap _ _ _ _ w h0 hcap hm (Bts.four h.1 hc h0) hT

theorem ref_empty (a : Option Addr) (cap : Nat) (w : World) : Calls Tryd.prog 11 #[.slice a 0 cap] w (Nx (0, 0, 6) w) := by
  go_enter Tryd.func11, Tryd.ntmps11
  go_wp2
  go_ret3
  exact ⟨rfl, Below.refl _ _⟩

set_option maxHeartbeats 1000000 in
set_option maxRecDepth 100000 in
theorem ref_01 (b off n cap b0 b1 b2 b3 : Nat) (w : World) (hn : 0 < n) (h : Four w b off n b0 b1 b2 b3) (hs : szB b0 ≤ 1) :
    Calls Tryd.prog 11 #[.slice (some ⟨b, off, none⟩) n cap] w (Nx (nextN n b0 b1 b2 b3) w) := by
  have hz : ((n : Int) == 0) = false := by simp; omega
  have hz0 : (0 : Int) < (n : Int) := by omega
  have hc0 := h.c0
  have l0 := h.l0
  have cS := size_any b0
  rcases (by omega : szB b0 = 0 ∨ szB b0 = 1) with e | e
  · have fin : nextN n b0 b1 b2 b3 = (0, 1, 8) := by simp [nextN, e]; omega
    rw [fin]
    rw [e] at cS
    have HS := Lib.hid cS
    clear cS e h fin hs
    go_enter Tryd.func11, Tryd.ntmps11
    go_wp2_with (go_at_call 24; refine (HS.out _ l0).mono ?_; rintro e w' ⟨rfl, hw⟩; obtain rfl : w = w' := hw.symm)
    go_ret3
    exact ⟨rfl, Below.refl _ _⟩
  · have fin : nextN n b0 b1 b2 b3 = (b0, 1, 0) := by simp [nextN, e]; omega
    rw [fin]
    rw [e] at cS
    have HS := Lib.hid cS
    clear cS e h fin hs
    go_enter Tryd.func11, Tryd.ntmps11
    go_wp2_with (go_at_call 24; refine (HS.out _ l0).mono ?_; rintro e w' ⟨rfl, hw⟩; obtain rfl : w = w' := hw.symm)
    go_ret3
    exact ⟨rfl, Below.refl _ _⟩

theorem ref_any (a : Option Addr) (cap : Nat) (l : List Nat) (w : World) (h : Bts w a l) (hm : l.length ≤ 9223372036854775807) :
    Calls Tryd.prog 11 #[.slice a l.length cap] w (Nx (nx l) w) := by
  by_cases hl : l = []
  · subst hl
    exact ref_empty a cap w
  · obtain ⟨b, off, rfl, hc⟩ := h.2 hl
    have h0 : 0 < l.length := List.length_pos_iff.2 hl
    have h4 := Bts.four h.1 hc h0
    have hs := szB_le (l.getD 0 0)
    rcases (by omega : szB (l.getD 0 0) ≤ 1 ∨ szB (l.getD 0 0) = 2 ∨ szB (l.getD 0 0) = 3 ∨ szB (l.getD 0 0) = 4) with e | e | e | e
    · exact ref_01 b off _ cap _ _ _ _ w h0 h4 e
    · exact ref_2 b off _ cap _ _ _ _ w h0 hm h4 e
    · exact ref_3 b off _ cap _ _ _ _ w h0 hm h4 e
    · exact ref_4 b off _ cap _ _ _ _ w h0 hm h4 e

set_option maxHeartbeats 2000000 in
set_option maxRecDepth 100000 in
theorem alive_any (w : World) (hT : Tabs w) : Calls Tryd.prog 12 #[] w (OneBool true w) := by
  have hsz := hT.size
  have HT := Lib.hid hT
  clear hT
  have k1 : ∀ W : World, Tabs W → Calls Tryd.prog 10 #[.slice (some ⟨W.heap.size, 0, none⟩) 2 2] (W.alloc (.cells #[.int .u8 195, .int .u8 164] 5)) (Nx (228, 2, 0) (W.alloc (.cells #[.int .u8 195, .int .u8 164] 5))) := by
    intro W hW
    refine next_four W.heap.size 0 2 2 195 164 0 0 _ (by omega) (by omega) (by unfold maxLen; omega) ⟨by simp, fun _ => by simp, fun h => by omega, fun h => by omega, by omega, by omega, by omega, by omega⟩ (hW.below ((Below.refl _ _).alloc (Nat.le_refl _) _))
  have k2 : ∀ W : World, Tabs W → Calls Tryd.prog 10 #[.slice (some ⟨W.heap.size, 0, none⟩) 1 1] (W.alloc (.cells #[.int .u8 195] 5)) (Nx (0, 1, 7) (W.alloc (.cells #[.int .u8 195] 5))) := by
    intro W hW
    refine next_four W.heap.size 0 1 1 195 0 0 0 _ (by omega) (by omega) (by unfold maxLen; omega) ⟨by simp, fun h => by omega, fun h => by omega, fun h => by omega, by omega, by omega, by omega, by omega⟩ (hW.below ((Below.refl _ _).alloc (Nat.le_refl _) _))
  have k3 : ∀ W : World, Tabs W → Calls Tryd.prog 10 #[.slice (some ⟨W.heap.size, 0, none⟩) 3 3] (W.alloc (.cells #[.int .u8 226, .int .u8 130, .int .u8 65] 5)) (Nx (0, 2, 8) (W.alloc (.cells #[.int .u8 226, .int .u8 130, .int .u8 65] 5))) := by
    intro W hW
    refine next_four W.heap.size 0 3 3 226 130 65 0 _ (by omega) (by omega) (by unfold maxLen; omega) ⟨by simp, fun _ => by simp, fun _ => by simp, fun h => by omega, by omega, by omega, by omega, by omega⟩ (hW.below ((Below.refl _ _).alloc (Nat.le_refl _) _))
  have K1 := Lib.hid k1
  have K2 := Lib.hid k2
  have K3 := Lib.hid k3
  clear k1 k2 k3
  go_enter Tryd.func12, Tryd.ntmps12
  go_wp2_with fail
  refine (K1.out _ HT.out).mono ?_
  rintro e w1 ⟨rfl, hb1⟩
  have hB1 : Below w.heap.size w w1 := ((Below.refl _ _).alloc (Nat.le_refl _) _).trans (hb1.mono (by simp))
  go_wp2_with fail
  refine (K2.out _ (HT.out.below hB1)).mono ?_
  rintro e w2 ⟨rfl, hb2⟩
  have hB2 : Below w.heap.size w w2 := (hB1.alloc hB1.size _).trans (hb2.mono (by simp; have := hB1.size; omega))
  go_wp2_with fail
  refine (K3.out _ (HT.out.below hB2)).mono ?_
  rintro e w3 ⟨rfl, hb3⟩
  have hB3 : Below w.heap.size w w3 := (hB2.alloc hB2.size _).trans (hb3.mono (by simp; have := hB2.size; omega))
  go_wp2
  go_ret
  exact ⟨rfl, hB3⟩

end Go.Proofs.YtgnmjhhfefnmcaaDoor
