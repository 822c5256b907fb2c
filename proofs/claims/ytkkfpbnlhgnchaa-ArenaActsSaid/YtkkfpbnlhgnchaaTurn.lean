/-
  The first of some cells brought behind the others: turn.
-/
import Derived.Test.YtkkfpbnlhgnchaaDelete
namespace Go.Proofs.Ytkkfpbnlhgnchaa
open Go.RowKit Go.Lib
set_option linter.unusedVariables false

theorem turn_none (p : Option Addr) (c : Nat) (W : World) : Calls Try.prog 32 #[.slice p 0 c, .int .i64 0] W (Gives (.tuple #[]) W) := by
  go_enter Try.func32, Try.ntmps32
  go_wp2
  go_rounds 1
  refine bodyPost_ret (results_none rfl _ _ _) rfl ?_
  exact ⟨rfl, rfl⟩
/-- The cells A, M and D one behind the other. -/
def In3 (w : World) (g : Nat) (A M D : List UInt8) : Prop := Blk w g (A ++ (M ++ D))
theorem set_mid (A M D : List UInt8) (y x : UInt8) : (A ++ (M ++ (y :: D))).set (A.length + M.length) x = A ++ (M ++ (x :: D)) := by
  rw [← List.append_assoc, List.set_append_right _ _ (by simp)]
  simp
theorem In3.fwd {w w1 : World} {g : Nat} {A M D : List UInt8} {x : UInt8} (h : Blk w1 g (lay (A ++ (x :: M ++ D)) A.length M)) : Blk (w1.setCell ⟨g, A.length + M.length, none⟩ (bval x)) g (A ++ (M ++ [x] ++ D)) := by
  have e : (x :: M).drop M.length = [((x :: M).drop M.length).head!] := by
    have : ((x :: M).drop M.length).length = 1 := by simp
    match hh : (x :: M).drop M.length, this with
    | [y], _ => rfl
  rw [lay_at (A := A) (B := (x :: M).take M.length) (D := (x :: M).drop M.length ++ D) (by rw [← List.append_assoc ((x :: M).take M.length), List.take_append_drop]) rfl (by simp), e] at h
  have h2 := h.set (A.length + M.length) x
  rw [List.singleton_append, set_mid] at h2
  rw [List.append_assoc, List.singleton_append]
  exact h2
theorem In3.bwd {w w1 : World} {g : Nat} {A M D : List UInt8} {x : UInt8} (h : Blk w1 g (lay (A ++ (M ++ [x] ++ D)) (A.length + 1) M)) : Blk (w1.setCell ⟨g, A.length, none⟩ (bval x)) g (A ++ (x :: M ++ D)) := by
  have hl : (M ++ [x]).length = M.length + 1 := by simp
  have e : (M ++ [x]).take 1 = [((M ++ [x]).take 1).head!] := by
    have : ((M ++ [x]).take 1).length = 1 := by simp
    match hh : (M ++ [x]).take 1, this with
    | [y], _ => rfl
  rw [lay_at (A := A ++ (M ++ [x]).take 1) (B := (M ++ [x]).drop 1) (D := D) (by rw [List.append_assoc A, ← List.append_assoc ((M ++ [x]).take 1), List.take_append_drop]) (by simp) (by simp), e] at h
  have h2 := h.set A.length x
  have e2 : ∀ y : UInt8, (A ++ [y] ++ (M ++ D)).set A.length x = A ++ (x :: M ++ D) := fun y => by
    rw [List.append_assoc, List.set_append_right _ _ (Nat.le_refl _)]
    simp
  rw [e2] at h2
  exact h2

/-- A part of a block, as a slice's bytes. -/
theorem Blk.part {w : World} {g : Nat} {A M D : List UInt8} (h : Blk w g (A ++ (M ++ D))) : Bts w (some ⟨g, A.length, none⟩) M := fun _ => ⟨g, A.length, rfl, fun i hi => by
  rw [h.cell (by simp; omega), getElem!_pos _ _ (by simp; omega), getElem!_pos M i hi, List.getElem_append_right (by omega), List.getElem_append_left (by omega)]
  simp⟩
theorem Bts.tail {w : World} {a : Option Addr} {x : UInt8} {M : List UInt8} {c : Nat} (h : Bts w a (x :: M)) (hc : M.length < c) : Bts w (cutp a 1 c) M := fun hne => by
  obtain ⟨b, off, rfl, h2⟩ := h (by simp)
  have := List.length_pos_iff.2 hne
  refine ⟨b, off + 1, cutp_of (by omega), fun i hi => ?_⟩
  rw [show off + 1 + i = off + (i + 1) by omega, h2 (i + 1) (by simpa using hi)]
  simp
theorem Bts.head {w : World} {a : Option Addr} {M M' : List UInt8} (h : Bts w a (M ++ M')) : Bts w a M := fun hne => by
  obtain ⟨b, off, rfl, h2⟩ := h (by simp [hne])
  refine ⟨b, off, rfl, fun i hi => ?_⟩
  rw [h2 i (by simp; omega), getElem!_pos _ _ (by simp; omega), getElem!_pos M i hi, List.getElem_append_left hi]
theorem Blk.at_ {w : World} {g : Nat} {A M D : List UInt8} {x : UInt8} (h : Blk w g (A ++ (M ++ (x :: D)))) : w.cell? ⟨g, A.length + M.length, none⟩ = some (bval x) := by
  rw [h.cell (by simp), getElem!_pos _ _ (by simp), List.getElem_append_right (by omega), List.getElem_append_right (by omega)]
  simp

set_option maxHeartbeats 1000000 in
theorem turn_fwd (W : World) (g c n L m : Nat) (A M D : List UInt8) (hB : Blk W g (A ++ (M ++ D))) (hL : M.length = L) (hm : m + 1 = L) (hc : L ≤ c) (hn : n ≤ L - n) (hnL : n ≤ L) (ht : L ≤ 4096) :
    Calls Try.prog 32 #[.slice (some ⟨g, A.length, none⟩) L c, .int .i64 (n : Int)] W
      fun e w' => e = .returned (.tuple #[]) ∧ Blk w' g (A ++ (M.drop n ++ (M.take n ++ D))) ∧ Stp [g] W [g] w' := by
  have H := Lib.hid (And.intro hB (And.intro hL hm))
  have e1 : IntKind.i64.wrap ((L : Int) - 1) = (m : Int) := by rw [IntKind.wrap_i64]; omega
  have e2 : IntKind.i64.wrap ((L : Int) - (n : Int)) = (L : Int) - (n : Int) := by rw [IntKind.wrap_i64]; omega
  have e3 : (n : Int) ≤ (L : Int) - (n : Int) := by omega
  have e4 : (0 : Int) < (L : Int) := by omega
  have e5 : (m : Int) < (L : Int) := by omega
  have s1 : ∀ w, (Instr.slice 31 (.slice (some ⟨g, A.length, none⟩) L c) (some (.int .i64 1)) none none).run Try.prog w = .ok (.slice (cutp (some ⟨g, A.length, none⟩) 1 c) (L - 1) (c - 1)) w := cut_l _ _ _ 1 (by omega)
  obtain ⟨o, ho⟩ : ∃ o, o = A.length := ⟨_, rfl⟩
  have HO := Lib.hid ho
  rw [← ho] at s1 ⊢
  clear hB hL hm ho
  go_enter Try.func32, Try.ntmps32
  go_wp2
  go_loopg [17] n (fun gk vi wr => ∃ k : Nat, vi = .int .i64 (k : Int) ∧ k ≤ n ∧ n - k ≤ gk ∧ Aside (Blk wr g (A ++ (M.drop k ++ M.take k ++ D)) ∧ Stp [g] W [g] wr))
  case atStart => exact ⟨0, rfl, by omega, by omega, by simpa using H.out.1, Stp.refl _ _⟩
  case round =>
    obtain ⟨k, rfl, hk, hg, HS⟩ := hrel
    by_cases hlt : k < n
    · have hltz : (k : Int) < (n : Int) := by omega
      obtain ⟨x, M', hx, hx2⟩ : ∃ x M', M.drop k ++ M.take k = x :: M' ∧ M' ++ [x] = M.drop (k + 1) ++ M.take (k + 1) := by
        have hkL : k < M.length := by have := H.out.2; omega
        refine ⟨M[k], M.drop (k + 1) ++ M.take k, ?_, ?_⟩
        · rw [List.drop_eq_getElem_cons hkL]; rfl
        · rw [List.append_assoc, List.take_succ_eq_append_getElem hkL]
      have hlen : M'.length = m := by
        have := congrArg List.length hx
        have := H.out.2
        simp at *
        omega
      have HS1 : Aside (Blk wr g (A ++ (x :: M' ++ D)) ∧ Stp [g] W [g] wr ∧ M'.length = m ∧ M' ++ [x] = M.drop (k + 1) ++ M.take (k + 1)) := ⟨by rw [← hx]; exact HS.out.1, HS.out.2, hlen, hx2⟩
      clear hx hx2 hlen HS
      have c1 : wr.cell? ⟨g, o, none⟩ = some (bval x) := by
        have := Blk.at_ (M := []) (A := A) (x := x) (D := M' ++ D) (by simpa using HS1.out.1)
        rw [HO.out]
        simpa using this
      obtain ⟨w1, hr1, hB1, hs1⟩ := copy_any (w := wr) (dL := L) (dC := c) (sL := L - 1) (sC := c - 1) (off := o) (dp := some ⟨g, o, none⟩) (sp := cutp (some ⟨g, o, none⟩) 1 c) (l := M') 3 HS1.out.1
        (by
          have := (HS1.out.1).part.tail (c := c) (by have := HS1.out.2.2.1; omega)
          rw [HO.out]
          exact this)
        (by have := HS1.out.2.2.1; have := H.out.2.2; omega) (fun _ => rfl) (by have := HO.out; simp; omega)
      have hc2 := hB1.cell (i := o + m) (by have := HO.out; have := HS1.out.2.2.1; rw [lay_length (by simp; omega)]; simp; omega)
      have hf2 := hB1.fz (o + m)
      obtain ⟨vv, hvv⟩ : ∃ v, v = bval ((lay (A ++ (x :: M' ++ D)) o M')[o + m]!) := ⟨_, rfl⟩
      rw [← hvv] at hc2
      have H2 : Aside (Blk (w1.setCell ⟨g, o + m, none⟩ (bval x)) g (A ++ (M.drop (k + 1) ++ M.take (k + 1) ++ D)) ∧ Stp [g] W [g] (w1.setCell ⟨g, o + m, none⟩ (bval x))) := by
        refine ⟨?_, (HS1.out.2.1.trans hs1).trans (Stp.setCell _ _ (by simp))⟩
        have hq := HO.out
        have := HS1.out.2.2.1
        subst hq
        subst this
        have := In3.fwd (w := wr) hB1
        rw [HS1.out.2.2.2] at this
        exact this
      clear hvv hB1 hs1 HS1
      unfold bval at *
      generalize ((x.toNat : Nat) : Int) = z at *
      go_wp2
      go_roundg (n - (k + 1))
      case measure => omega
      case rel => exact ⟨k + 1, by go_num, by omega, by omega, H2⟩
    · have hltz : ¬ (k : Int) < (n : Int) := by omega
      obtain rfl : k = n := by omega
      go_wp2
      refine bodyPost_ret (results_none rfl _ _ _) rfl ?_
      exact ⟨rfl, by rw [← List.append_assoc (M.drop _)]; exact HS.out.1, HS.out.2⟩
set_option maxHeartbeats 1000000 in
theorem turn_bwd (W : World) (g c n L m r : Nat) (A M D : List UInt8) (hB : Blk W g (A ++ (M ++ D))) (hL : M.length = L) (hm : m + 1 = L) (hc : L ≤ c) (hr : r + n = L) (hn : ¬ n ≤ L - n) (ht : L ≤ 4096) :
    Calls Try.prog 32 #[.slice (some ⟨g, A.length, none⟩) L c, .int .i64 (n : Int)] W
      fun e w' => e = .returned (.tuple #[]) ∧ Blk w' g (A ++ (M.drop n ++ (M.take n ++ D))) ∧ Stp [g] W [g] w' := by
  have H := Lib.hid (And.intro hB (And.intro hL (And.intro hm hr)))
  have e1 : IntKind.i64.wrap ((L : Int) - 1) = (m : Int) := by rw [IntKind.wrap_i64]; omega
  have e2 : IntKind.i64.wrap ((L : Int) - (n : Int)) = (r : Int) := by rw [IntKind.wrap_i64]; omega
  have e3 : ¬ (n : Int) ≤ (r : Int) := by omega
  have e4 : (0 : Int) < (L : Int) := by omega
  have e5 : (m : Int) < (L : Int) := by omega
  have s1 : ∀ w, (Instr.slice 31 (.slice (some ⟨g, A.length, none⟩) L c) (some (.int .i64 1)) none none).run Try.prog w = .ok (.slice (cutp (some ⟨g, A.length, none⟩) 1 c) (L - 1) (c - 1)) w := cut_l _ _ _ 1 (by omega)
  have hrm : r ≤ 4096 := by omega
  obtain ⟨o, ho⟩ : ∃ o, o = A.length := ⟨_, rfl⟩
  have HO := Lib.hid ho
  rw [← ho] at s1 ⊢
  clear hB hL hm ho hr hn
  go_enter Try.func32, Try.ntmps32
  go_wp2
  go_loopg [35] r (fun gk vi wr => ∃ k : Nat, vi = .int .i64 (k : Int) ∧ k ≤ r ∧ r - k ≤ gk ∧ Aside (Blk wr g (A ++ (M.drop (L - k) ++ M.take (L - k) ++ D)) ∧ Stp [g] W [g] wr))
  case atStart => exact ⟨0, rfl, by omega, by omega, by rw [← H.out.2.1]; simpa using H.out.1, Stp.refl _ _⟩
  case round =>
    obtain ⟨k, rfl, hk, hg, HS⟩ := hrel
    by_cases hlt : k < r
    · have hltz : (k : Int) < (r : Int) := by omega
      obtain ⟨x, M', hx, hx2⟩ : ∃ x M', M.drop (L - k) ++ M.take (L - k) = M' ++ [x] ∧ x :: M' = M.drop (L - (k + 1)) ++ M.take (L - (k + 1)) := by
        have hq := H.out.2
        have hkL : L - (k + 1) < M.length := by omega
        refine ⟨M[L - (k + 1)], M.drop (L - k) ++ M.take (L - (k + 1)), ?_, ?_⟩
        · rw [show L - k = L - (k + 1) + 1 by omega, List.take_succ_eq_append_getElem hkL, List.append_assoc]
        · rw [List.drop_eq_getElem_cons hkL, show L - (k + 1) + 1 = L - k by omega]; rfl
      have hlen : M'.length = m := by
        have := congrArg List.length hx
        have := H.out.2
        simp at *
        omega
      have HS1 : Aside (Blk wr g (A ++ (M' ++ [x] ++ D)) ∧ Stp [g] W [g] wr ∧ M'.length = m ∧ x :: M' = M.drop (L - (k + 1)) ++ M.take (L - (k + 1))) := ⟨by rw [← hx]; exact HS.out.1, HS.out.2, hlen, hx2⟩
      clear hx hx2 hlen HS
      have c1 : wr.cell? ⟨g, o + m, none⟩ = some (bval x) := by
        have := Blk.at_ (M := M') (A := A) (x := x) (D := D) (by simpa using HS1.out.1)
        rw [HO.out, ← HS1.out.2.2.1]
        exact this
      obtain ⟨w1, hr1, hB1, hs1⟩ := copy_any (w := wr) (dL := L - 1) (dC := c - 1) (sL := L) (sC := c) (off := o + 1) (dp := cutp (some ⟨g, o, none⟩) 1 c) (sp := some ⟨g, o, none⟩) (l := M') 3 HS1.out.1
        (by
          have := (HS1.out.1).part.head
          rw [HO.out]
          exact this)
        (by have := HS1.out.2.2.1; have := H.out.2.2; omega) (fun hne => cutp_of (by have := List.length_pos_iff.2 hne; have := HS1.out.2.2.1; have := H.out.2.2.1; omega)) (by have := HO.out; simp; omega)
      have hc2 := hB1.cell (i := o) (by have := HO.out; have := HS1.out.2.2.1; rw [lay_length (by simp; omega)]; simp; omega)
      have hf2 := hB1.fz o
      obtain ⟨vv, hvv⟩ : ∃ v, v = bval ((lay (A ++ (M' ++ [x] ++ D)) (o + 1) M')[o]!) := ⟨_, rfl⟩
      rw [← hvv] at hc2
      have H2 : Aside (Blk (w1.setCell ⟨g, o, none⟩ (bval x)) g (A ++ (M.drop (L - (k + 1)) ++ M.take (L - (k + 1)) ++ D)) ∧ Stp [g] W [g] (w1.setCell ⟨g, o, none⟩ (bval x))) := by
        refine ⟨?_, (HS1.out.2.1.trans hs1).trans (Stp.setCell _ _ (by simp))⟩
        have hq := HO.out
        subst hq
        have := In3.bwd (w := wr) hB1
        rw [HS1.out.2.2.2] at this
        exact this
      clear hvv hB1 hs1 HS1
      unfold bval at *
      generalize ((x.toNat : Nat) : Int) = z at *
      go_wp2
      go_roundg (r - (k + 1))
      case measure => omega
      case rel => exact ⟨k + 1, by go_num, by omega, by omega, H2⟩
    · have hltz : ¬ (k : Int) < (r : Int) := by omega
      obtain rfl : k = r := by omega
      go_wp2
      go_end0
      have e : L - k = n := by have := H.out.2; omega
      rw [e] at HS
      exact ⟨rfl, by rw [← List.append_assoc (M.drop _)]; exact HS.out.1, HS.out.2⟩
/-- What turn does. -/
theorem turn_run (W : World) (g c n L o : Nat) (A M D : List UInt8) (hB : Blk W g (A ++ (M ++ D))) (ho : A.length = o) (hL : M.length = L) (h0 : 0 < L) (hc : L ≤ c) (hn : n ≤ L) (ht : L ≤ 4096) :
    Calls Try.prog 32 #[.slice (some ⟨g, o, none⟩) L c, .int .i64 (n : Int)] W
      fun e w' => e = .returned (.tuple #[]) ∧ Blk w' g (A ++ (M.drop n ++ (M.take n ++ D))) ∧ Stp [g] W [g] w' := by
  subst ho
  by_cases h : n ≤ L - n
  · exact turn_fwd W g c n L (L - 1) A M D hB hL (by omega) hc h hn ht
  · exact turn_bwd W g c n L (L - 1) (L - n) A M D hB hL (by omega) hc (by omega) h ht
end Go.Proofs.Ytkkfpbnlhgnchaa
