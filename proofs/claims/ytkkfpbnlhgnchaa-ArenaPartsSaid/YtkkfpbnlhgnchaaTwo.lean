/-
  Two arenas side by side; what is moved away and back.
-/
import Derived.Test.YtkkfpbnlhgnchaaWArenaCopies
namespace Go.Proofs.Ytkkfpbnlhgnchaa
open Go.RowKit Go.Lib
set_option linter.unusedVariables false

/-- Two arenas that are new since w, apart. -/
structure Two (w W : World) (b g b' g' N : Nat) (l l' : List UInt8) : Prop where
  fst : Ar W b g N l
  snd : Ar W b' g' N l'
  nbb : b ≠ b'
  nbg : b ≠ g'
  ngb : g ≠ b'
  ngg : g ≠ g'
  stp : Stp [] w [] W
  new : w.heap.size ≤ b ∧ w.heap.size ≤ g ∧ w.heap.size ≤ b' ∧ w.heap.size ≤ g'
section
variable {w W W' : World} {b g b' g' N : Nat} {l l' k : List UInt8}
theorem Two.first (h : Two w W b g b' g' N l l') (ha : Ar W' b g N k) (hs : Stp [b, g] W [b, g] W') : Two w W' b g b' g' N k l' := by
  have := h.nbb; have := h.nbg; have := h.ngb; have := h.ngg; have := h.new
  refine ⟨ha, h.snd.other hs (by simp; omega) (by simp; omega), h.nbb, h.nbg, h.ngb, h.ngg, (h.stp.fresh hs (fun i hi => ?_)).none, h.new⟩
  simp at hi
  omega
theorem Two.second (h : Two w W b g b' g' N l l') (ha : Ar W' b' g' N k) (hs : Stp [b', g'] W [b', g'] W') : Two w W' b g b' g' N l k := by
  have := h.nbb; have := h.nbg; have := h.ngb; have := h.ngg; have := h.new
  refine ⟨h.fst.other hs (by simp; omega) (by simp; omega), ha, h.nbb, h.nbg, h.ngb, h.ngg, (h.stp.fresh hs (fun i hi => ?_)).none, h.new⟩
  simp at hi
  omega
theorem Two.stays (h : Two w W b g b' g' N l l') (hs : Stp [] W [] W') : Two w W' b g b' g' N l l' :=
  ⟨h.fst.stays hs, h.snd.stays hs, h.nbb, h.nbg, h.ngb, h.ngg, h.stp.trans hs, h.new⟩
theorem Two.mk' {w0 w1 w2 : World} (h0 : Stp [] w [] w0) (hb : w0.heap.size ≤ b) (hg : w0.heap.size ≤ g) (h1 : Ar w1 b g N l) (s1 : Stp [] w0 [b, g] w1) (hb' : w1.heap.size ≤ b') (hg' : w1.heap.size ≤ g') (h2 : Ar w2 b' g' N l') (s2 : Stp [] w1 [b', g'] w2) : Two w w2 b g b' g' N l l' := by
  have q1 := Cl.lt h1
  have q2 := h1.row.lt
  have q3 := h0.size
  exact ⟨h1.stays s2, h2, by omega, by omega, by omega, by omega, (h0.trans s1.none).trans s2.none, by omega, by omega, by omega, by omega⟩
end
theorem moved_back {l : List UInt8} {i j k r : Nat} (hi : i ≤ j) (hj : j ≤ l.length) (hk : k + (j - i) ≤ l.length) (hr : r = k + (j - i)) : moved (moved l i j k) k r i = l := by
  subst hr
  have hD : (l.take i ++ l.drop j).length = l.length - (j - i) := by simp; omega
  obtain ⟨D, eD⟩ : ∃ D, D = l.take i ++ l.drop j := ⟨_, rfl⟩
  obtain ⟨S, eS⟩ : ∃ S, S = (l.drop i).take (j - i) := ⟨_, rfl⟩
  have lS : S.length = j - i := by rw [eS]; simp; omega
  rw [← eD] at hD
  have e1 : moved l i j k = D.take k ++ (S ++ D.drop k) := by unfold moved; rw [← eD, ← eS, List.append_assoc]
  have lD : (D.take k).length = k := by rw [List.length_take]; omega
  rw [e1]
  unfold moved
  have e2 : (D.take k ++ (S ++ D.drop k)).take k = D.take k := List.take_left' lD
  have e3 : (D.take k ++ (S ++ D.drop k)).drop (k + (j - i)) = D.drop k := by
    rw [← List.append_assoc, List.drop_left' (by rw [List.length_append]; omega)]
  have e4 : ((D.take k ++ (S ++ D.drop k)).drop k).take (k + (j - i) - k) = S := by
    rw [List.drop_left' lD, List.take_left' (by omega)]
  rw [e2, e3, e4, List.take_append_drop, eD, List.take_left' (by simp; omega), List.drop_left' (by simp; omega), eS, List.append_assoc]
  conv => rhs; rw [← List.take_append_drop i l]
  congr 1
  conv => rhs; rw [← List.take_append_drop (j - i) (l.drop i)]
  rw [List.drop_drop, show i + (j - i) = j by omega]
/-- What a word is, less than a bound. -/
def modN (x : Int) (m : Nat) : Nat := (x % 18446744073709551616 % ((m : Int) + 1)).toNat
theorem modN_le (x : Int) (m : Nat) : modN x m ≤ m := by
  unfold modN
  have h1 : x % 18446744073709551616 % ((m : Int) + 1) < (m : Int) + 1 := Int.emod_lt_of_pos _ (by omega)
  omega
theorem modN_cast (x : Int) (m : Nat) : x % 18446744073709551616 % ((m : Int) + 1) = (modN x m : Int) := by
  unfold modN
  have h2 : 0 ≤ x % 18446744073709551616 % ((m : Int) + 1) := Int.emod_nonneg _ (by omega)
  omega
theorem word (x : Int) : ∃ z, IntKind.u64.wrap x = z ∧ 0 ≤ z ∧ z < 18446744073709551616 ∧ z = x % 18446744073709551616 := ⟨_, IntKind.wrap_u64 x, by omega, by omega, rfl⟩
end Go.Proofs.Ytkkfpbnlhgnchaa
